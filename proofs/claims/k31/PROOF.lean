import PyProof.Rows.All
import Wide.All
import OpenK.AllK
import Wide.FinOn
import HandS.ForMost
import HandS.Wide
import HandS.IsInst
import HandS.NoneIn
import HandS.EndBits
import HandS.FStr
import HandS.ClsMeth
import HandS.ExcField
import HandS.ExcInit
import HandS.ForExc
import HandS.EndTab
import HandS.Lambda
import HandS.AnyAll
import HandS.RevRange
import HandS.SortInts
import HandS.More
import HandS.Walk
import HandS.Flow
import HandS.Zip
import HandS.TupAny
import KE.GoesEnum
import PySem.Challenge.RW_pailchain_k31_whole_a_chain_goes_by_its
set_option Elab.async false
set_option linter.all false
set_option maxRecDepth 100000
set_option maxHeartbeats 4000000
namespace My
open PySem PySem.Spec PyProof.Rows L2
/-! ### a def of the text with its promise, ready to be called -/
structure Fn (P : Program) (w : World) (K : PySem.W.Frag) (mg : Str → Option Value) (base : Heap) (k : Nat) (x : Str) (ps : List Str) (sp : Sp) : Prop where
  ex : ∃ f fd, FnOk P w K mg base CX0 k f fd ps sp ∧ mg x = some (.ref f) ∧ PySem.W.keepIn K (.ref f) = true ∧ Binds K fd ps []
theorem Fn.mk' {P : Program} {w : World} {K : PySem.W.Frag} {mg : Str → Option Value} {base : Heap} {k : Nat} {x : Str} {ps : List Str} {sp : Sp} {f : Addr} {fd : FuncData}
    (h : FnOk P w K mg base CX0 k f fd ps sp) (g : mg x = some (.ref f)) (kp : PySem.W.keepIn K (.ref f) = true) (b : Binds K fd ps []) : Fn P w K mg base k x ps sp := ⟨⟨f, fd, h, g, kp, b⟩⟩
section
variable {X : Cx} {k : Nat} {x : Str} {ps : List Str} {sp : Sp} {e : Expr} {es : List Expr} {t : TA} {p pos : Pos}
theorem pe_fn (F : Fn X.prog X.w X.K X.mg X.base k x ps sp) (hr : Room k X.A) (ha : PA X (e :: es) t) (hg : Gl X x := by rfl) (hdb : (x == ("__debug__" : Str)) = false := by decide)
    (he : starEach (e :: es) X.env = (false, eval e X.env) :: starEach es X.env := by rfl) (hpl : (backTo pos (starEach es X.env)).any (·.1) = false := by rfl) :
    PE X (.Call (.Name x p) (e :: es) [] pos) (tCall sp [] E0 t) := by
  obtain ⟨f, fd, h, g, kp, b⟩ := F.ex
  exact pe_call h hr hg g kp b .nil pass0 ha hdb he hpl
theorem pe_fn0 (F : Fn X.prog X.w X.K X.mg X.base k x ps sp) (hr : Room k X.A) (hg : Gl X x := by rfl) (hdb : (x == ("__debug__" : Str)) = false := by decide) :
    PE X (.Call (.Name x p) [] [] pos) (tCall sp [] E0 tNil) := by
  obtain ⟨f, fd, h, g, kp, b⟩ := F.ex
  exact pe_call0 h hr hg g kp b .nil pass0 hdb
end
/-! ### heaps: what a def leaves; the tables of code objects may grow -/
/-- the tables that grow: a table of generator expressions (none), of lambdas (their name) -/
abbrev Tb := List (Addr × Option Str)
def OkP (H : Hp) (p : Addr × Option Str) : Prop := match p.2 with
  | none => GxR.TabG H p.1
  | some q => LamX.TabS H p.1 q
def Ok (T : Tb) (H : Hp) : Prop := ∀ p ∈ T, OkP H p
def nTbl : HO → Prop
  | .tbl _ => False
  | _ => True
structure Sm (T : Tb) (H H' : Hp) : Prop where
  keep : ∀ b o, H b = some o → nTbl o → H' b = some o
  ok : Ok T H → Ok T H'
  free : ∀ l, H' l = none → H l = none
theorem nTbl_ne {o : HO} (h : nTbl o) (ps : Array Value) : o ≠ .tbl ps := fun e => by rw [e] at h; exact h
theorem Sm.k {T : Tb} {H H' : Hp} (s : Sm T H H') {b : Addr} {o : HO} (e : H b = some o) (n : nTbl o := by trivial) : H' b = some o := s.keep b o e n
theorem Sm.refl {T : Tb} {H : Hp} : Sm T H H := ⟨fun _ _ e _ => e, fun h => h, fun _ h => h⟩
theorem Sm.trans {T : Tb} {H H1 H2 : Hp} (a : Sm T H H1) (b : Sm T H1 H2) : Sm T H H2 := ⟨fun c o e n => b.keep c o (a.keep c o e n) n, fun h => b.ok (a.ok h), fun l h => a.free l (b.free l h)⟩
theorem Sm.seq {T : Tb} {K : PySem.W.Frag} {H H' : Hp} {a : Addr} {xs : List V} (e : Sm T H H') (h : SqL K H a xs) : SqL K H' a xs := by
  rcases h with (h | ⟨o, h⟩) | h
  · exact .inl (.inl (e.keep _ _ h trivial))
  · exact .inl (.inr ⟨o, e.keep _ _ h trivial⟩)
  · exact .inr h
theorem same_tup {T : Tb} {K : PySem.W.Frag} {H H' : Hp} {a : Addr} {xs : List V} (e : Sm T H H') (h : SqT K H a xs) : SqT K H' a xs := by
  rcases h with (h | ⟨o, h⟩) | h
  · exact .inl (.inl (e.keep _ _ h trivial))
  · exact .inl (.inr ⟨o, e.keep _ _ h trivial⟩)
  · exact .inr h
theorem Sm.lst {T : Tb} {H H' : Hp} {a : Addr} {xs : List V} (e : Sm T H H') (h : H a = some (.lst xs)) : H' a = some (.lst xs) := e.keep _ _ h trivial
theorem okP_ext {H H' : Hp} {p : Addr × Option Str} (h : OkP H p) (e : ∀ b o, H b = some o → H' b = some o) : OkP H' p := by
  obtain ⟨P, q⟩ := p
  cases q with
  | none =>
    obtain ⟨ps, h1, h2⟩ := (show GxR.TabG H P from h)
    exact ⟨ps, e _ _ h1, h2⟩
  | some q => exact LamX.TabS.ext (show LamX.TabS H P q from h) e
/-- the one list at p is changed -/
theorem okP_mut {H : Hp} {p : Addr × Option Str} {a : Addr} {o : HO} {xs : List V} (h : OkP H p) (ha : H a = some (.lst xs)) : OkP (upd H a o) p := by
  have k : ∀ b u, H b = some u → u ≠ .lst xs → upd H a o b = some u := fun b u e n => by
    rw [upd_ne (fun z => n (by rw [z, ha] at e; exact (Option.some.inj e).symm))]
    exact e
  obtain ⟨P, q⟩ := p
  cases q with
  | none =>
    obtain ⟨ps, h1, h2⟩ := (show GxR.TabG H P from h)
    exact ⟨ps, k _ _ h1 (fun z => by cases z), h2⟩
  | some q =>
    obtain ⟨ps, h1, h2, h3⟩ := (show LamX.TabS H P q from h)
    refine ⟨ps, k _ _ h1 (fun z => by cases z), h2, fun pos cv hc => ?_⟩
    obtain ⟨c, e1, e2⟩ := h3 pos cv hc
    exact ⟨c, e1, k _ _ e2 (fun z => by unfold LamX.CodeO at z; cases z)⟩
theorem same_upd {T : Tb} {H : Hp} {p : Addr} {o : HO} (h : H p = none) : Sm T H (upd H p o) := by
  have k : ∀ b x, H b = some x → upd H p o b = some x := fun b x e => by
    rw [upd_ne (ne_of_none e h)]
    exact e
  refine ⟨fun b x e _ => k b x e, fun h q hq => okP_ext (h q hq) k, fun l hl => ?_⟩
  cases q : H l with
  | none => rfl
  | some x => rw [k _ _ q] at hl; cases hl
theorem same_mut {T : Tb} {H H' : Hp} {p : Addr} {o : HO} {xs : List V} (e : Sm T H H') (h : H p = none) (hp : H' p = some (.lst xs)) : Sm T H (upd H' p o) := by
  refine ⟨fun b x q n => ?_, fun hk q hq => okP_mut (e.ok hk q hq) hp, fun l hl => ?_⟩
  · rw [upd_ne (ne_of_none q h)]
    exact e.keep b x q n
  · by_cases z : l = p
    · rw [z]; exact h
    · rw [upd_ne z] at hl
      exact e.free l hl
theorem seq_k {t u : TS} {D : Ends} {σ : L2.St} {H : Hp} (P : L2.St → Hp → Prop) (hu : ∀ σ' H', P σ' H' → u D σ' H') (h : (∀ σ' H', P σ' H' → u D σ' H') → tSeq t u D σ H) : tSeq t u D σ H := h hu
theorem seq_if {c : TT} {t1 t2 u : TS} {D : Ends} {σ : L2.St} {H : Hp} (P : L2.St → Hp → Prop) (hu : ∀ σ' H', P σ' H' → u D σ' H') (h : (∀ σ' H', P σ' H' → u D σ' H') → tSeq (tIfS c t1 t2) u D σ H) : tSeq (tIfS c t1 t2) u D σ H := h hu
theorem seq_as {te : TE} {g : TG} {u : TS} {D : Ends} {σ : L2.St} {H : Hp} (P : L2.St → Hp → Prop) (hu : ∀ σ' H', P σ' H' → u D σ' H') (h : (∀ σ' H', P σ' H' → u D σ' H') → tSeq (tAsg te g) u D σ H) : tSeq (tAsg te g) u D σ H := h hu
theorem sz {n : Nat} (h : n ≤ 10000) : n ≤ sizeLine := Nat.le_trans h (by decide)
theorem szl {n : Nat} (h : n < 10000) : n < sizeLine := Nat.lt_of_lt_of_le h (by decide)
/-! ### data -/
mutual
theorem dp_same {T : Tb} {K : PySem.W.Frag} {H H' : Hp} (e : Sm T H H') : ∀ (d : PyData) (v : V), Dp K H v d → Dp K H' v d
  | .none, _, h => by cases h; exact .non
  | .bool b, _, h => by cases h; exact .bl b
  | .int i, _, h => by cases h; exact .int i
  | .str x, _, h => by cases h; exact .str x
  | .list ds, _, h => by
    cases h with
    | lst hs ha => exact .lst (e.seq hs) (dpa_same e ds _ ha)
  | .tuple ds, _, h => by
    cases h with
    | tup hs ha => exact .tup (same_tup e hs) (dpa_same e ds _ ha)
  | .dict _, _, h => by cases h
theorem dpa_same {T : Tb} {K : PySem.W.Frag} {H H' : Hp} (e : Sm T H H') : ∀ (ds : List PyData) (vs : List V), DpAll K H vs ds → DpAll K H' vs ds
  | [], _, h => by cases h; exact .nil
  | d :: ds, _, h => by
    cases h with
    | cons h1 h2 => exact .cons (dp_same e d _ h1) (dpa_same e ds _ h2)
end
theorem dpa_len {K : PySem.W.Frag} {H : Hp} : ∀ {vs : List V} {ds : List PyData}, DpAll K H vs ds → vs.length = ds.length
  | _, [], h => by cases h; rfl
  | _, _ :: _, h => by
    cases h with
    | cons _ h2 => exact congrArg (· + 1) (dpa_len h2)
theorem dpa_get {K : PySem.W.Frag} {H : Hp} : ∀ {vs : List V} {ds : List PyData}, DpAll K H vs ds → ∀ {i : Nat} {d : PyData}, ds[i]? = some d → ∃ v, vs[i]? = some v ∧ Dp K H v d
  | _, [], h, i, d, e => by simp at e
  | _, d0 :: ds, h, 0, d, e => by
    cases h with
    | cons h1 h2 =>
      obtain rfl : d0 = d := Option.some.inj e
      exact ⟨_, rfl, h1⟩
  | _, d0 :: ds, h, i + 1, d, e => by
    cases h with
    | cons h1 h2 => exact dpa_get h2 (i := i) e
def depOk : Nat → PyData → Bool
  | _, .none => true
  | _, .bool _ => true
  | _, .int _ => true
  | _, .str _ => true
  | n + 1, .list ds => decide (ds.length ≤ 9000) && ds.all (depOk n)
  | n + 1, .tuple ds => decide (ds.length ≤ 9000) && ds.all (depOk n)
  | _, _ => false
def tyD : PyData → String
  | .none => "NoneType"
  | .bool _ => "bool"
  | .int _ => "int"
  | .str _ => "str"
  | .list _ => "list"
  | .tuple _ => "tuple"
  | .dict _ => "dict"
theorem tyx_of {K : PySem.W.Frag} {H : Hp} : ∀ {d : PyData} {v : V}, Dp K H v d → TyX K H v (.type (tyD d))
  | _, _, .non => .base .non
  | _, _, .bl b => .base (.bl b)
  | _, _, .int i => .base (.int i)
  | _, _, .str x => .base (.str x)
  | _, _, .lst (.inl (.inl h)) _ => .base (.lst h)
  | _, _, .lst (.inl (.inr ⟨_, h⟩)) _ => .base (.frz h)
  | _, _, .lst (.inr ⟨_, _, _, h, c, _⟩) _ => .kList h c
  | _, _, .tup (.inl (.inl h)) _ => .base (.tup h)
  | _, _, .tup (.inl (.inr ⟨_, h⟩)) _ => .fTuple h
  | _, _, .tup (.inr ⟨_, _, _, h, c, _⟩) _ => .kTuple h c
theorem rep_all (n : Nat) : (List.replicate n true).all id = true := by
  induction n with
  | zero => rfl
  | succ n ih => rw [List.replicate_succ, List.all_cons, ih]; rfl
def rLen (K : PySem.W.Frag) : List V → Hp → VK → Prop := fun xs H Q => ∃ p ys, xs = [.ref p] ∧ (SqL K H p ys ∨ SqT K H p ys) ∧ Q (.int ys.length) H
def rLst (K : PySem.W.Frag) : List V → Hp → VK → Prop := fun xs H Q => ∃ p ys, xs = [.ref p] ∧ (SqL K H p ys ∨ SqT K H p ys) ∧ ∀ (l : Addr), H l = none → Q (.ref l) (upd H l (.lst ys))
theorem call_list1 {X : Cx} : CallR X (.type "list") (rLst X.K) := call_list_of
theorem call_len1 {X : Cx} : CallR X (.builtin "len") (rLen X.K) := call_len_seq
theorem kb_bool_bool : kitB "bool" "bool" = some true := by decide +kernel
theorem kb_bool_int : kitB "bool" "int" = some true := by decide +kernel
theorem kb_bool_str : kitB "bool" "str" = some false := by decide +kernel
theorem kb_bool_list : kitB "bool" "list" = some false := by decide +kernel
theorem kb_bool_tuple : kitB "bool" "tuple" = some false := by decide +kernel
theorem kb_int_bool : kitB "int" "bool" = some false := by decide +kernel
theorem kb_int_int : kitB "int" "int" = some true := by decide +kernel
theorem kb_int_str : kitB "int" "str" = some false := by decide +kernel
theorem kb_int_list : kitB "int" "list" = some false := by decide +kernel
theorem kb_int_tuple : kitB "int" "tuple" = some false := by decide +kernel
theorem kb_str_bool : kitB "str" "bool" = some false := by decide +kernel
theorem kb_str_int : kitB "str" "int" = some false := by decide +kernel
theorem kb_str_str : kitB "str" "str" = some true := by decide +kernel
theorem kb_str_list : kitB "str" "list" = some false := by decide +kernel
theorem kb_str_tuple : kitB "str" "tuple" = some false := by decide +kernel
theorem kb_list_bool : kitB "list" "bool" = some false := by decide +kernel
theorem kb_list_int : kitB "list" "int" = some false := by decide +kernel
theorem kb_list_str : kitB "list" "str" = some false := by decide +kernel
theorem kb_list_list : kitB "list" "list" = some true := by decide +kernel
theorem kb_list_tuple : kitB "list" "tuple" = some false := by decide +kernel
theorem kb_tuple_bool : kitB "tuple" "bool" = some false := by decide +kernel
theorem kb_tuple_int : kitB "tuple" "int" = some false := by decide +kernel
theorem kb_tuple_str : kitB "tuple" "str" = some false := by decide +kernel
theorem kb_tuple_list : kitB "tuple" "list" = some false := by decide +kernel
theorem kb_tuple_tuple : kitB "tuple" "tuple" = some true := by decide +kernel
theorem kb_NoneType_bool : kitB "NoneType" "bool" = some false := by decide +kernel
theorem kb_NoneType_int : kitB "NoneType" "int" = some false := by decide +kernel
theorem kb_NoneType_str : kitB "NoneType" "str" = some false := by decide +kernel
theorem kb_NoneType_list : kitB "NoneType" "list" = some false := by decide +kernel
theorem kb_NoneType_tuple : kitB "NoneType" "tuple" = some false := by decide +kernel
theorem tyes_t {σ : L2.St} {H : Hp} {Q : Bool → Hp → Prop} (h : Q true H) : tYes σ H Q := h
theorem tyes_i {σ : L2.St} {H : Hp} {A B : Hp → Prop} (h : A H) : tYes σ H (fun b H3 => if b = true then A H3 else B H3) := iteT (A := A H) (B := B H) h
/-! ### draws -/
def Drawn : List Int → List Int → Prop
  | [], [] => True
  | d :: ds, q :: qs => (0 ≤ d ∧ d < q) ∧ Drawn ds qs
  | _, _ => False
theorem Drawn.cons {ds qs : List Int} {q : Int} (h : Drawn ds (q :: qs)) : ∃ d r, ds = d :: r ∧ 0 ≤ d ∧ d < q ∧ Drawn r qs := by
  cases ds with
  | nil => exact h.elim
  | cons d r => exact ⟨d, r, rfl, h.1.1, h.1.2, h.2⟩
theorem Drawn.nil {ds : List Int} (h : Drawn ds []) : ds = [] := by
  cases ds with
  | nil => rfl
  | cons d r => exact h.elim
theorem Drawn.snoc : ∀ {ds qs : List Int} {d q : Int}, Drawn ds qs → 0 ≤ d → d < q → Drawn (ds ++ [d]) (qs ++ [q])
  | [], [], _, _, _, h0, h1 => ⟨⟨h0, h1⟩, trivial⟩
  | [], _ :: _, _, _, h, _, _ => h.elim
  | _ :: _, [], _, _, h, _, _ => h.elim
  | _ :: _, _ :: _, _, _, h, h0, h1 => ⟨h.1, Drawn.snoc h.2 h0 h1⟩
theorem Drawn.length : ∀ {ds qs : List Int}, Drawn ds qs → ds.length = qs.length
  | [], [], _ => rfl
  | [], _ :: _, h => h.elim
  | _ :: _, [], h => h.elim
  | _ :: _, _ :: _, h => congrArg (· + 1) (Drawn.length h.2)
/-! ### amounts -/
abbrev Am := Int × Int
def tv (x : Am) : List V := [.int x.1, .int x.2]
def amt (n d : Int) : Am := ((if d < 0 then -n else n) / (Nat.gcd n.natAbs d.natAbs : Nat), (d.natAbs : Int) / (Nat.gcd n.natAbs d.natAbs : Nat))
theorem amD_dp {K : PySem.W.Frag} {H : Hp} {p : Addr} {x : Am} (h : SqT K H p (tv x)) : Dp K H (.ref p) (.tuple [.int x.1, .int x.2]) := .tup h (.cons (.int _) (.cons (.int _) .nil))
abbrev amD (x : Am) : PyData := .tuple [.int x.1, .int x.2]
theorem tup_dp {K : PySem.W.Frag} {H : Hp} {p : Addr} {x : Am} (h : H p = some (.tup (tv x))) : Dp K H (.ref p) (amD x) := amD_dp (SqT.of h)
theorem pd_at {K : PySem.W.Frag} {H : Hp} {v : V} {x : Am} (h : Dp K H v (amD x)) : ∃ b, v = .ref b ∧ SqT K H b (tv x) := by
  cases h with
  | tup hs ha =>
    cases ha with
    | cons h1 h2 =>
      cases h2 with
      | cons h3 h4 =>
        cases h4
        cases h1
        cases h3
        exact ⟨_, rfl, hs⟩
theorem dpa_app {K : PySem.W.Frag} {H : Hp} : ∀ {vs : List V} {ds : List PyData} {ws : List V} {es : List PyData}, DpAll K H vs ds → DpAll K H ws es → DpAll K H (vs ++ ws) (ds ++ es)
  | _, [], _, _, h, g => by cases h; exact g
  | _, _ :: _, _, _, h, g => by
    cases h with
    | cons h1 h2 => exact .cons h1 (dpa_app h2 g)
theorem dpa_take {K : PySem.W.Frag} {H : Hp} : ∀ {vs : List V} {ds : List PyData} (n : Nat), DpAll K H vs ds → DpAll K H (vs.take n) (ds.take n)
  | _, _, 0, _ => .nil
  | _, [], n + 1, h => by cases h; exact .nil
  | _, _ :: _, n + 1, h => by
    cases h with
    | cons h1 h2 => exact .cons h1 (dpa_take n h2)
theorem dpa_drop {K : PySem.W.Frag} {H : Hp} : ∀ {vs : List V} {ds : List PyData} (n : Nat), DpAll K H vs ds → DpAll K H (vs.drop n) (ds.drop n)
  | _, _, 0, h => h
  | _, [], n + 1, h => by cases h; exact .nil
  | _, _ :: _, n + 1, h => by
    cases h with
    | cons h1 h2 => exact dpa_drop n h2
/-- pairs stay where a list is changed -/
theorem pd_mut {K : PySem.W.Frag} {H : Hp} {v : V} {x : Am} {a : Addr} {o : HO} {xs : List V} (h : Dp K H v (amD x)) (ha : H a = some (.lst xs)) : Dp K (upd H a o) v (amD x) := by
  obtain ⟨b, rfl, hs⟩ := pd_at h
  refine amD_dp ?_
  rcases hs with (hs | ⟨u, hs⟩) | hs
  · exact .inl (.inl (by rw [upd_ne (ne_of hs ha (fun z => by cases z))]; exact hs))
  · exact .inl (.inr ⟨u, by rw [upd_ne (ne_of hs ha (fun z => by cases z))]; exact hs⟩)
  · exact .inr hs
theorem pds_mut {K : PySem.W.Frag} {H : Hp} {a : Addr} {o : HO} {xs : List V} (ha : H a = some (.lst xs)) : ∀ {vs : List V} {qs : List Am}, DpAll K H vs (qs.map amD) → DpAll K (upd H a o) vs (qs.map amD)
  | _, [], h => by cases h; exact .nil
  | _, _ :: _, h => by
    cases h with
    | cons h1 h2 => exact .cons (pd_mut h1 ha) (pds_mut ha h2)
theorem cut_take (xs : List V) (k : Nat) {z : Int} (hz : z = (k : Int)) : cutV xs none (some z) = xs.take k := by
  subst hz
  unfold cutV
  rw [HT.sIx_none, HT.sIx_nat, List.drop_zero, Nat.sub_zero]
  by_cases h : k ≤ xs.length
  · rw [Nat.min_eq_left h]
  · rw [Nat.min_eq_right (by omega), List.take_length, List.take_of_length_le (by omega)]
theorem cut_drop (xs : List V) (k : Nat) {z : Int} (hz : z = (k : Int)) : cutV xs (some z) none = xs.drop k := by
  subst hz
  unfold cutV
  rw [HT.sIx_none, HT.sIx_nat]
  by_cases h : k ≤ xs.length
  · rw [Nat.min_eq_left h, List.take_of_length_le (by rw [List.length_drop]; omega)]
  · rw [Nat.min_eq_right (by omega), List.drop_length, List.drop_of_length_le (by omega), List.take_nil]
theorem dpa_rep {K : PySem.W.Frag} {H : Hp} {vs : List V} {qs : List Am} (h : DpAll K H vs (qs.map amD)) : ∀ n, DpAll K H (List.replicate n vs).flatten (((List.replicate n qs).flatten).map amD)
  | 0 => .nil
  | n + 1 => by
    rw [List.replicate_succ, List.replicate_succ, List.flatten_cons, List.flatten_cons, List.map_append]
    exact dpa_app h (dpa_rep h n)
theorem len_rep {α : Type} (l : List α) : ∀ n, ((List.replicate n l).flatten).length = n * l.length
  | 0 => by simp
  | n + 1 => by rw [List.replicate_succ, List.flatten_cons, List.length_append, len_rep l n, Nat.succ_mul, Nat.add_comm]
/-! ### told tuples in a list that grows -/
def noL : Nat → PyData → Bool
  | _, .none => true
  | _, .bool _ => true
  | _, .int _ => true
  | _, .str _ => true
  | n + 1, .tuple ds => ds.all (noL n)
  | _, _ => false
theorem sqT_mut {K : PySem.W.Frag} {H : Hp} {t a : Addr} {o : HO} {xs ys : List V} (hs : SqT K H t ys) (ha : H a = some (.lst xs)) : SqT K (upd H a o) t ys := by
  rcases hs with (hs | ⟨u, hs⟩) | hs
  · exact .inl (.inl (by rw [upd_ne (ne_of hs ha (fun z => by cases z))]; exact hs))
  · exact .inl (.inr ⟨u, by rw [upd_ne (ne_of hs ha (fun z => by cases z))]; exact hs⟩)
  · exact .inr hs
mutual
theorem noL_mut {K : PySem.W.Frag} {H : Hp} {a : Addr} {o : HO} {xs : List V} (ha : H a = some (.lst xs)) : ∀ (n : Nat) (d : PyData) (v : V), noL n d = true → Dp K H v d → Dp K (upd H a o) v d
  | _, .none, _, _, h => by cases h; exact .non
  | _, .bool b, _, _, h => by cases h; exact .bl b
  | _, .int i, _, _, h => by cases h; exact .int i
  | _, .str x, _, _, h => by cases h; exact .str x
  | 0, .tuple _, _, e, _ => by cases e
  | n + 1, .tuple ds, _, e, h => by
    cases h with
    | tup hs hall => exact .tup (sqT_mut hs ha) (noLs_mut ha n ds _ e hall)
  | 0, .list _, _, e, _ => by cases e
  | _ + 1, .list _, _, e, _ => by cases e
  | 0, .dict _, _, e, _ => by cases e
  | _ + 1, .dict _, _, e, _ => by cases e
theorem noLs_mut {K : PySem.W.Frag} {H : Hp} {a : Addr} {o : HO} {xs : List V} (ha : H a = some (.lst xs)) : ∀ (n : Nat) (ds : List PyData) (vs : List V), ds.all (noL n) = true → DpAll K H vs ds → DpAll K (upd H a o) vs ds
  | _, [], _, _, h => by cases h; exact .nil
  | n, d :: ds, _, e, h => by
    cases h with
    | cons h1 h2 =>
      rw [List.all_cons, Bool.and_eq_true] at e
      exact .cons (noL_mut ha n d _ e.1 h1) (noLs_mut ha n ds _ e.2 h2)
end
/-- the list at fo holds ds -/
def Fd (K : PySem.W.Frag) (H : Hp) (fo : Addr) (ds : List PyData) : Prop := ∃ ts, H fo = some (.lst ts) ∧ DpAll K H ts ds
theorem Fd.keep {T : Tb} {K : PySem.W.Frag} {H H' : Hp} {fo : Addr} {ds : List PyData} (h : Fd K H fo ds) (s : Sm T H H') : Fd K H' fo ds := by
  obtain ⟨ts, h1, h2⟩ := h
  exact ⟨ts, s.k h1, dpa_same s _ _ h2⟩
theorem Fd.push {K : PySem.W.Frag} {H : Hp} {fo : Addr} {ds : List PyData} {ts : List V} {d : PyData} {v : V} (h1 : H fo = some (.lst ts)) (h2 : DpAll K H ts ds) (hv : Dp K H v d) (n1 : ds.all (noL 3) = true := by rfl) (n2 : noL 3 d = true := by rfl) :
    Fd K (upd H fo (.lst (ts ++ [v]))) fo (ds ++ [d]) :=
  ⟨ts ++ [v], upd_same, dpa_app (noLs_mut h1 3 ds _ n1 h2) (.cons (noL_mut h1 3 d v n2 hv) .nil)⟩
theorem Fd.dp {K : PySem.W.Frag} {H : Hp} {fo : Addr} {ds : List PyData} (h : Fd K H fo ds) : Dp K H (.ref fo) (.list ds) := by
  obtain ⟨ts, h1, h2⟩ := h
  exact .lst (SqL.of h1) h2
theorem depOk_ams {qs : List Am} (h : qs.length ≤ 9000) : depOk 5 (.list (qs.map amD)) = true := by
  show (decide ((qs.map amD).length ≤ 9000) && (qs.map amD).all (depOk 4)) = true
  rw [List.length_map, decide_eq_true h, Bool.true_and, List.all_map]
  exact List.all_eq_true.mpr fun q _ => rfl

def topS (i : Nat) : Stmt := PySem.Challenge.pw_pailchain_k31_whole_a_chain_goes_by_its.main.body.getD i (.Pass ⟨0, 0, 0, 0⟩)
abbrev s_p_is_number : Stmt := topS 27
theorem sc_p_is_number : FnScope ["thing"] ["thing"] (defScope s_p_is_number) := ⟨rfl, rfl, rfl, by decide +kernel, rfl, by decide +kernel, by decide +kernel⟩
abbrev s_p_is_within : Stmt := topS 28
theorem sc_p_is_within : FnScope ["thing", "least", "most"] ["thing", "least", "most"] (defScope s_p_is_within) := ⟨rfl, rfl, rfl, by decide +kernel, rfl, by decide +kernel, by decide +kernel⟩
abbrev s_p_common_divisor : Stmt := topS 3
theorem sc_p_common_divisor : FnScope ["one", "other"] ["one", "other"] (defScope s_p_common_divisor) := ⟨rfl, rfl, rfl, by decide +kernel, rfl, by decide +kernel, by decide +kernel⟩
abbrev s_p_amount : Stmt := topS 4
theorem sc_p_amount : FnScope ["num", "den", "shared"] ["num", "den"] (defScope s_p_amount) := ⟨rfl, rfl, rfl, by decide +kernel, rfl, by decide +kernel, by decide +kernel⟩
abbrev s_p_plus : Stmt := topS 5
theorem sc_p_plus : FnScope ["one", "other"] ["one", "other"] (defScope s_p_plus) := ⟨rfl, rfl, rfl, by decide +kernel, rfl, by decide +kernel, by decide +kernel⟩
abbrev s_p_minus : Stmt := topS 6
theorem sc_p_minus : FnScope ["one", "other"] ["one", "other"] (defScope s_p_minus) := ⟨rfl, rfl, rfl, by decide +kernel, rfl, by decide +kernel, by decide +kernel⟩
abbrev s_p_times : Stmt := topS 7
theorem sc_p_times : FnScope ["one", "other"] ["one", "other"] (defScope s_p_times) := ⟨rfl, rfl, rfl, by decide +kernel, rfl, by decide +kernel, by decide +kernel⟩
abbrev s_p_over : Stmt := topS 8
theorem sc_p_over : FnScope ["one", "other"] ["one", "other"] (defScope s_p_over) := ⟨rfl, rfl, rfl, by decide +kernel, rfl, by decide +kernel, by decide +kernel⟩
abbrev s_p_below : Stmt := topS 9
theorem sc_p_below : FnScope ["one", "other"] ["one", "other"] (defScope s_p_below) := ⟨rfl, rfl, rfl, by decide +kernel, rfl, by decide +kernel, by decide +kernel⟩
abbrev s_p_lesser : Stmt := topS 10
theorem sc_p_lesser : FnScope ["one", "other"] ["one", "other"] (defScope s_p_lesser) := ⟨rfl, rfl, rfl, by decide +kernel, rfl, by decide +kernel, by decide +kernel⟩
abbrev s_p_PailError___init__ : Stmt := inClass (topS 12) 0
theorem sc_p_PailError___init__ : FnScope ["self", "word"] ["self", "word"] (defScope s_p_PailError___init__) := ⟨rfl, rfl, rfl, by decide +kernel, rfl, by decide +kernel, by decide +kernel⟩
abbrev s_p_BadWay___init__ : Stmt := inClass (topS 13) 0
theorem sc_p_BadWay___init__ : FnScope ["self"] ["self"] (defScope s_p_BadWay___init__) := ⟨rfl, rfl, rfl, by decide +kernel, rfl, by decide +kernel, by decide +kernel⟩
abbrev s_p_BadName___init__ : Stmt := inClass (topS 15) 0
theorem sc_p_BadName___init__ : FnScope ["self"] ["self"] (defScope s_p_BadName___init__) := ⟨rfl, rfl, rfl, by decide +kernel, rfl, by decide +kernel, by decide +kernel⟩
abbrev s_p_Taken___init__ : Stmt := inClass (topS 16) 0
theorem sc_p_Taken___init__ : FnScope ["self"] ["self"] (defScope s_p_Taken___init__) := ⟨rfl, rfl, rfl, by decide +kernel, rfl, by decide +kernel, by decide +kernel⟩
abbrev s_p_BadPace___init__ : Stmt := inClass (topS 17) 0
theorem sc_p_BadPace___init__ : FnScope ["self"] ["self"] (defScope s_p_BadPace___init__) := ⟨rfl, rfl, rfl, by decide +kernel, rfl, by decide +kernel, by decide +kernel⟩
abbrev s_p_Full___init__ : Stmt := inClass (topS 18) 0
theorem sc_p_Full___init__ : FnScope ["self"] ["self"] (defScope s_p_Full___init__) := ⟨rfl, rfl, rfl, by decide +kernel, rfl, by decide +kernel, by decide +kernel⟩
abbrev s_p_NoHand___init__ : Stmt := inClass (topS 19) 0
theorem sc_p_NoHand___init__ : FnScope ["self"] ["self"] (defScope s_p_NoHand___init__) := ⟨rfl, rfl, rfl, by decide +kernel, rfl, by decide +kernel, by decide +kernel⟩
abbrev s_p_BadCount___init__ : Stmt := inClass (topS 20) 0
theorem sc_p_BadCount___init__ : FnScope ["self"] ["self"] (defScope s_p_BadCount___init__) := ⟨rfl, rfl, rfl, by decide +kernel, rfl, by decide +kernel, by decide +kernel⟩
abbrev s_p_Nobody___init__ : Stmt := inClass (topS 21) 0
theorem sc_p_Nobody___init__ : FnScope ["self"] ["self"] (defScope s_p_Nobody___init__) := ⟨rfl, rfl, rfl, by decide +kernel, rfl, by decide +kernel, by decide +kernel⟩
abbrev s_p_BadPlace___init__ : Stmt := inClass (topS 14) 0
theorem sc_p_BadPlace___init__ : FnScope ["self"] ["self"] (defScope s_p_BadPlace___init__) := ⟨rfl, rfl, rfl, by decide +kernel, rfl, by decide +kernel, by decide +kernel⟩
abbrev s_p_NotRising___init__ : Stmt := inClass (topS 22) 0
theorem sc_p_NotRising___init__ : FnScope ["self"] ["self"] (defScope s_p_NotRising___init__) := ⟨rfl, rfl, rfl, by decide +kernel, rfl, by decide +kernel, by decide +kernel⟩
abbrev s_l_cell : Stmt := topS 59
theorem sc_l_cell : FnScope ["_law_script", "_law_k"] ["_law_script", "_law_k"] (defScope s_l_cell) := ⟨rfl, rfl, rfl, by decide +kernel, rfl, by decide +kernel, by decide +kernel⟩
abbrev s_l_draws : Stmt := topS 60
theorem sc_l_draws : FnScope ["_law_cell_here", "_law_parts", "_law_one", "_law_two", "_law_six", "_law_found", "_law_part"] ["_law_cell_here", "_law_parts"] (defScope s_l_draws) := ⟨rfl, rfl, rfl, by decide +kernel, rfl, by decide +kernel, by decide +kernel⟩
abbrev s_l_many : Stmt := topS 62
theorem sc_l_many : FnScope ["_law_script", "_law_few"] ["_law_script", "_law_few"] (defScope s_l_many) := ⟨rfl, rfl, rfl, by decide +kernel, rfl, by decide +kernel, by decide +kernel⟩
abbrev s_p_check_pace : Stmt := topS 31
theorem sc_p_check_pace : FnScope ["pace"] ["pace"] (defScope s_p_check_pace) := ⟨rfl, rfl, rfl, by decide +kernel, rfl, by decide +kernel, by decide +kernel⟩
abbrev s_p_check_paces : Stmt := topS 32
theorem sc_p_check_paces : FnScope ["paces", "most", "pace"] ["paces", "most"] (defScope s_p_check_paces) := ⟨rfl, rfl, rfl, by decide +kernel, rfl, by decide +kernel, by decide +kernel⟩
abbrev s_p_check_rising : Stmt := topS 42
theorem sc_p_check_rising : FnScope ["paces", "slow", "quick"] ["paces"] (defScope s_p_check_rising) := ⟨rfl, rfl, rfl, by decide +kernel, rfl, by decide +kernel, by decide +kernel⟩
abbrev s_p_is_name : Stmt := topS 29
theorem sc_p_is_name : FnScope ["text", "sign"] ["text"] (defScope s_p_is_name) := ⟨rfl, rfl, rfl, by decide +kernel, rfl, by decide +kernel, by decide +kernel⟩
abbrev s_p_check_name : Stmt := topS 30
theorem sc_p_check_name : FnScope ["name"] ["name"] (defScope s_p_check_name) := ⟨rfl, rfl, rfl, by decide +kernel, rfl, by decide +kernel, by decide +kernel⟩
abbrev s_p_Chain_take_pail : Stmt := inClass (topS 57) 23
theorem sc_p_Chain_take_pail : FnScope ["self", "number"] ["self"] (defScope s_p_Chain_take_pail) := ⟨rfl, rfl, rfl, by decide +kernel, rfl, by decide +kernel, by decide +kernel⟩
abbrev s_p_Chain_enter : Stmt := inClass (topS 57) 1
theorem sc_p_Chain_enter : FnScope ["self", "name", "pace"] ["self", "name", "pace"] (defScope s_p_Chain_enter) := ⟨rfl, rfl, rfl, by decide +kernel, rfl, by decide +kernel, by decide +kernel⟩
abbrev s_p_Chain_hands : Stmt := inClass (topS 57) 9
theorem sc_p_Chain_hands : FnScope ["self"] ["self"] (defScope s_p_Chain_hands) := ⟨rfl, rfl, rfl, by decide +kernel, rfl, by decide +kernel, by decide +kernel⟩
abbrev s_p_Chain_emptied : Stmt := inClass (topS 57) 14
theorem sc_p_Chain_emptied : FnScope ["self"] ["self"] (defScope s_p_Chain_emptied) := ⟨rfl, rfl, rfl, by decide +kernel, rfl, by decide +kernel, by decide +kernel⟩
abbrev s_p_Chain_pails : Stmt := inClass (topS 57) 15
theorem sc_p_Chain_pails : FnScope ["self"] ["self"] (defScope s_p_Chain_pails) := ⟨rfl, rfl, rfl, by decide +kernel, rfl, by decide +kernel, by decide +kernel⟩
abbrev s_p_Chain_number_of : Stmt := inClass (topS 57) 21
theorem sc_p_Chain_number_of : FnScope ["self", "name"] ["self", "name"] (defScope s_p_Chain_number_of) := ⟨rfl, rfl, rfl, by decide +kernel, rfl, by decide +kernel, by decide +kernel⟩
abbrev s_p_Chain_place : Stmt := inClass (topS 57) 12
theorem sc_p_Chain_place : FnScope ["self", "name"] ["self", "name"] (defScope s_p_Chain_place) := ⟨rfl, rfl, rfl, by decide +kernel, rfl, by decide +kernel, by decide +kernel⟩
abbrev s_p_Chain_ledger : Stmt := inClass (topS 57) 17
theorem sc_p_Chain_ledger : FnScope ["self", "name"] ["self", "name"] (defScope s_p_Chain_ledger) := ⟨rfl, rfl, rfl, by decide +kernel, rfl, by decide +kernel, by decide +kernel⟩
abbrev s_p_Chain_paces : Stmt := inClass (topS 57) 22
theorem sc_p_Chain_paces : FnScope ["self", "name"] ["self"] (defScope s_p_Chain_paces) := ⟨rfl, rfl, rfl, by decide +kernel, rfl, by decide +kernel, by decide +kernel⟩
abbrev s_p_speeds : Stmt := topS 50
theorem sc_p_speeds : FnScope ["paces", "places", "found", "at", "speed"] ["paces", "places"] (defScope s_p_speeds) := ⟨rfl, rfl, rfl, by decide +kernel, rfl, by decide +kernel, by decide +kernel⟩
abbrev s_p_hours_at : Stmt := topS 52
theorem sc_p_hours_at : FnScope ["gap", "speed"] ["gap", "speed"] (defScope s_p_hours_at) := ⟨rfl, rfl, rfl, by decide +kernel, rfl, by decide +kernel, by decide +kernel⟩
abbrev s_p_meeting : Stmt := topS 51
theorem sc_p_meeting : FnScope ["labour", "paces", "places", "hours", "going", "at", "nearing"] ["labour", "paces", "places"] (defScope s_p_meeting) := ⟨rfl, rfl, rfl, by decide +kernel, rfl, by decide +kernel, by decide +kernel⟩
abbrev s_p_walked : Stmt := topS 53
theorem sc_p_walked : FnScope ["paces", "places", "hours", "going", "place", "speed"] ["paces", "places", "hours"] (defScope s_p_walked) := ⟨rfl, rfl, rfl, by decide +kernel, rfl, by decide +kernel, by decide +kernel⟩
abbrev s_p_ledger_on : Stmt := topS 56
theorem sc_p_ledger_on : FnScope ["ledger", "pace", "speed", "hours", "time", "done", "lost", "more", "short"] ["ledger", "pace", "speed", "hours"] (defScope s_p_ledger_on) := ⟨rfl, rfl, rfl, by decide +kernel, rfl, by decide +kernel, by decide +kernel⟩
abbrev s_p_Chain_till_meeting : Stmt := inClass (topS 57) 26
theorem sc_p_Chain_till_meeting : FnScope ["self"] ["self"] (defScope s_p_Chain_till_meeting) := ⟨rfl, rfl, rfl, by decide +kernel, rfl, by decide +kernel, by decide +kernel⟩
abbrev s_p_Chain_walk : Stmt := inClass (topS 57) 27
theorem sc_p_Chain_walk : FnScope ["self", "hours", "paces", "going", "name", "pace", "speed"] ["self", "hours"] (defScope s_p_Chain_walk) := ⟨rfl, rfl, rfl, by decide +kernel, rfl, by decide +kernel, by decide +kernel⟩
abbrev s_p_Chain_mark : Stmt := inClass (topS 57) 24
theorem sc_p_Chain_mark : FnScope ["self", "at", "pail"] ["self", "at"] (defScope s_p_Chain_mark) := ⟨rfl, rfl, rfl, by decide +kernel, rfl, by decide +kernel, by decide +kernel⟩
abbrev s_p_Chain_mark_from : Stmt := inClass (topS 57) 25
theorem sc_p_Chain_mark_from : FnScope ["self", "first", "at"] ["self", "first"] (defScope s_p_Chain_mark_from) := ⟨rfl, rfl, rfl, by decide +kernel, rfl, by decide +kernel, by decide +kernel⟩
abbrev s_p_Chain_next_leaver : Stmt := inClass (topS 57) 31
theorem sc_p_Chain_next_leaver : FnScope ["self", "at"] ["self"] (defScope s_p_Chain_next_leaver) := ⟨rfl, rfl, rfl, by decide +kernel, rfl, by decide +kernel, by decide +kernel⟩
abbrev s_p_Chain_turn : Stmt := inClass (topS 57) 30
theorem sc_p_Chain_turn : FnScope ["self", "rows", "leaver"] ["self"] (defScope s_p_Chain_turn) := ⟨rfl, rfl, rfl, by decide +kernel, rfl, by decide +kernel, by decide +kernel⟩
abbrev s_p_Chain_turns : Stmt := inClass (topS 57) 29
theorem sc_p_Chain_turns : FnScope ["self", "rows"] ["self"] (defScope s_p_Chain_turns) := ⟨rfl, rfl, rfl, by decide +kernel, rfl, by decide +kernel, by decide +kernel⟩
abbrev s_p_is_stretch : Stmt := topS 36
theorem sc_p_is_stretch : FnScope ["thing", "part"] ["thing"] (defScope s_p_is_stretch) := ⟨rfl, rfl, rfl, by decide +kernel, rfl, by decide +kernel, by decide +kernel⟩
abbrev s_p_check_way : Stmt := topS 37
theorem sc_p_check_way : FnScope ["way", "stretch"] ["way"] (defScope s_p_check_way) := ⟨rfl, rfl, rfl, by decide +kernel, rfl, by decide +kernel, by decide +kernel⟩
abbrev s_p_labour : Stmt := topS 38
theorem sc_p_labour : FnScope ["way", "count", "toil"] ["way"] (defScope s_p_labour) := ⟨rfl, rfl, rfl, by decide +kernel, rfl, by decide +kernel, by decide +kernel⟩
abbrev s_p_check_way_t : Stmt := topS 37
theorem sc_p_check_way_t : FnScope ["way", "stretch"] ["way"] (defScope s_p_check_way_t) := ⟨rfl, rfl, rfl, by decide +kernel, rfl, by decide +kernel, by decide +kernel⟩
abbrev s_p_labour_t : Stmt := topS 38
theorem sc_p_labour_t : FnScope ["way", "count", "toil"] ["way"] (defScope s_p_labour_t) := ⟨rfl, rfl, rfl, by decide +kernel, rfl, by decide +kernel, by decide +kernel⟩
abbrev s_p_Chain___init__ : Stmt := inClass (topS 57) 0
theorem sc_p_Chain___init__ : FnScope ["self", "way"] ["self", "way"] (defScope s_p_Chain___init__) := ⟨rfl, rfl, rfl, by decide +kernel, rfl, by decide +kernel, by decide +kernel⟩
abbrev s_p_Chain___init___t : Stmt := inClass (topS 57) 0
theorem sc_p_Chain___init___t : FnScope ["self", "way"] ["self", "way"] (defScope s_p_Chain___init___t) := ⟨rfl, rfl, rfl, by decide +kernel, rfl, by decide +kernel, by decide +kernel⟩
abbrev s_p_Chain_outs : Stmt := inClass (topS 57) 7
theorem sc_p_Chain_outs : FnScope ["self", "count", "rows", "end"] ["self", "count"] (defScope s_p_Chain_outs) := ⟨rfl, rfl, rfl, by decide +kernel, rfl, by decide +kernel, by decide +kernel⟩
abbrev s_l_split : Stmt := topS 61
theorem sc_l_split : FnScope ["_law_cell_here", "_law_many_here", "_law_found", "_law_big", "_law_k"] ["_law_cell_here", "_law_many_here"] (defScope s_l_split) := ⟨rfl, rfl, rfl, by decide +kernel, rfl, by decide +kernel, by decide +kernel⟩
abbrev s_l_gcd : Stmt := topS 64
theorem sc_l_gcd : FnScope ["_law_one", "_law_other"] ["_law_one", "_law_other"] (defScope s_l_gcd) := ⟨rfl, rfl, rfl, by decide +kernel, rfl, by decide +kernel, by decide +kernel⟩
abbrev s_l_amt : Stmt := topS 65
theorem sc_l_amt : FnScope ["_law_num", "_law_den", "_law_by"] ["_law_num", "_law_den"] (defScope s_l_amt) := ⟨rfl, rfl, rfl, by decide +kernel, rfl, by decide +kernel, by decide +kernel⟩
abbrev s_l_same : Stmt := topS 63
theorem sc_l_same : FnScope ["_law_found", "_law_due", "_law_k"] ["_law_found", "_law_due"] (defScope s_l_same) := ⟨rfl, rfl, rfl, by decide +kernel, rfl, by decide +kernel, by decide +kernel⟩
abbrev s_l_way : Stmt := topS 66
theorem sc_l_way : FnScope ["_law_cell_here", "_law_drawn", "_law_cap", "_law_many_here", "_law_k"] ["_law_cell_here"] (defScope s_l_way) := ⟨rfl, rfl, rfl, by decide +kernel, rfl, by decide +kernel, by decide +kernel⟩
abbrev s_l_labour : Stmt := topS 67
theorem sc_l_labour : FnScope ["_law_way_here", "_law_found", "_law_count", "_law_toil", "_law_step"] ["_law_way_here"] (defScope s_l_labour) := ⟨rfl, rfl, rfl, by decide +kernel, rfl, by decide +kernel, by decide +kernel⟩
abbrev s_l_draws_f : Stmt := topS 60
theorem sc_l_draws_f : FnScope ["_law_cell_here", "_law_parts", "_law_one", "_law_two", "_law_six", "_law_found", "_law_part"] ["_law_cell_here", "_law_parts"] (defScope s_l_draws_f) := ⟨rfl, rfl, rfl, by decide +kernel, rfl, by decide +kernel, by decide +kernel⟩
abbrev s_l_name : Stmt := topS 68
theorem sc_l_name : FnScope ["_law_k", "_law_salt", "_law_letters", "_law_place", "_law_behind_it", "_law_fill", "_law_first", "_law_telling"] ["_law_k", "_law_salt"] (defScope s_l_name) := ⟨rfl, rfl, rfl, by decide +kernel, rfl, by decide +kernel, by decide +kernel⟩
abbrev s_l_rising_of : Stmt := topS 69
theorem sc_l_rising_of : FnScope ["_law_cell_here", "_law_drawn", "_law_many_here", "_law_one"] ["_law_cell_here"] (defScope s_l_rising_of) := ⟨rfl, rfl, rfl, by decide +kernel, rfl, by decide +kernel, by decide +kernel⟩
abbrev s_p_check_rounds : Stmt := topS 43
theorem sc_p_check_rounds : FnScope ["rounds"] ["rounds"] (defScope s_p_check_rounds) := ⟨rfl, rfl, rfl, by decide +kernel, rfl, by decide +kernel, by decide +kernel⟩
abbrev s_p_mixed : Stmt := topS 46
theorem sc_p_mixed : FnScope ["part", "before", "last"] ["part", "before", "last"] (defScope s_p_mixed) := ⟨rfl, rfl, rfl, by decide +kernel, rfl, by decide +kernel, by decide +kernel⟩
abbrev s_p_behind_one : Stmt := topS 47
theorem sc_p_behind_one : FnScope ["paces", "found", "told", "at"] ["paces", "found"] (defScope s_p_behind_one) := ⟨rfl, rfl, rfl, by decide +kernel, rfl, by decide +kernel, by decide +kernel⟩
abbrev s_p_behind : Stmt := topS 48
theorem sc_p_behind : FnScope ["paces", "found", "rounds", "told", "turn"] ["paces", "found", "rounds"] (defScope s_p_behind) := ⟨rfl, rfl, rfl, by decide +kernel, rfl, by decide +kernel, by decide +kernel⟩
abbrev s_p_check_places : Stmt := topS 44
theorem sc_p_check_places : FnScope ["places", "fire", "here", "there"] ["places", "fire"] (defScope s_p_check_places) := ⟨rfl, rfl, rfl, by decide +kernel, rfl, by decide +kernel, by decide +kernel⟩
abbrev s_p_shares : Stmt := topS 45
theorem sc_p_shares : FnScope ["way", "paces", "places", "fire", "ends", "pace", "place", "end"] ["way", "paces", "places"] (defScope s_p_shares) := ⟨rfl, rfl, rfl, by decide +kernel, rfl, by decide +kernel, by decide +kernel⟩
abbrev s_LAW : Stmt := topS 70
theorem sc_LAW : FnScope ["_law_script", "_law_first", "_law_second", "_law_way_here", "_law_paces", "_law_many_here", "_law_k", "_law_names", "_law_line", "_law_begun", "_law_last", "_law_count", "_law_found", "_law_total", "_law_name_here"] ["_law_script"] (defScope s_LAW) := ⟨rfl, rfl, rfl, by decide +kernel, rfl, by decide +kernel, by decide +kernel⟩
structure Bn (mg : Str → Option Value) : Prop where
  ValueError_ : mg "ValueError" = none
  abs_ : mg "abs" = none
  all_ : mg "all" = none
  bool_ : mg "bool" = none
  int_ : mg "int" = none
  isinstance_ : mg "isinstance" = none
  len_ : mg "len" = none
  list_ : mg "list" = none
  max_ : mg "max" = none
  min_ : mg "min" = none
  range_ : mg "range" = none
  reversed_ : mg "reversed" = none
  sorted_ : mg "sorted" = none
  str_ : mg "str" = none
  sum_ : mg "sum" = none
  tuple_ : mg "tuple" = none
  zip_ : mg "zip" = none

theorem gcd_cut {a b : Nat} (hb : 0 < b) : ∃ g x y : Nat, 0 < g ∧ g = Nat.gcd a b ∧ a = g * x ∧ b = g * y ∧ 0 < y ∧ Nat.gcd x y = 1 := by
  have hg : 0 < Nat.gcd a b := Nat.gcd_pos_of_pos_right _ hb
  obtain ⟨x, hx⟩ := Nat.gcd_dvd_left a b
  obtain ⟨y, hy⟩ := Nat.gcd_dvd_right a b
  refine ⟨Nat.gcd a b, x, y, hg, rfl, hx, hy, ?_, ?_⟩
  · cases y with
    | zero => rw [Nat.mul_zero] at hy; omega
    | succ n => exact Nat.succ_pos n
  · have e : Nat.gcd a b * Nat.gcd x y = Nat.gcd a b * 1 := by
      have h2 : Nat.gcd (Nat.gcd a b * x) (Nat.gcd a b * y) = Nat.gcd a b * Nat.gcd x y := Nat.gcd_mul_left _ _ _
      rw [← hx, ← hy] at h2
      rw [← h2, Nat.mul_one]
    exact Nat.eq_of_mul_eq_mul_left hg e
/-- an amount in lowest terms -/
def Low (x : Int × Int) : Prop := 0 < x.2 ∧ Nat.gcd x.1.natAbs x.2.natAbs = 1
theorem amt_spec {n d : Int} (hd : d ≠ 0) : Low (amt n d) ∧ (amt n d).1 * d = n * (amt n d).2 ∧ (amt n d).1.natAbs ≤ n.natAbs ∧ (amt n d).2.natAbs ≤ d.natAbs := by
  obtain ⟨g, x, y, hg, eg, ex, ey, hy, h1⟩ := gcd_cut (a := n.natAbs) (b := d.natAbs) (by omega)
  have gi : ((g : Nat) : Int) ≠ 0 := by omega
  have e2 : (amt n d).2 = (y : Int) := by
    show ((d.natAbs : Nat) : Int) / ((Nat.gcd n.natAbs d.natAbs : Nat) : Int) = _
    rw [← eg, ey, Int.natCast_mul, Int.mul_ediv_cancel_left _ gi]
  have hyd : d.natAbs ≥ y := by
    rw [ey]; exact Nat.le_mul_of_pos_left _ hg
  have hxn : n.natAbs ≥ x := by
    rw [ex]; exact Nat.le_mul_of_pos_left _ hg
  have exi : ((n.natAbs : Nat) : Int) = (g : Int) * (x : Int) := by rw [ex, Int.natCast_mul]
  have eyi : ((d.natAbs : Nat) : Int) = (g : Int) * (y : Int) := by rw [ey, Int.natCast_mul]
  have main : ∀ (s : Int), (s = 1 ∨ s = -1) → (if d < 0 then -n else n) = s * ((g : Int) * (x : Int)) → (n = s * ((g : Int) * (x : Int)) ∧ d = (g : Int) * (y : Int) ∨ n = -(s * ((g : Int) * (x : Int))) ∧ d = -((g : Int) * (y : Int))) →
      Low (amt n d) ∧ (amt n d).1 * d = n * (amt n d).2 ∧ (amt n d).1.natAbs ≤ n.natAbs ∧ (amt n d).2.natAbs ≤ d.natAbs := by
    intro s hs e hnd
    have e1 : (amt n d).1 = s * (x : Int) := by
      show (if d < 0 then -n else n) / ((Nat.gcd n.natAbs d.natAbs : Nat) : Int) = _
      rw [← eg, e, Int.mul_left_comm, Int.mul_ediv_cancel_left _ gi]
    have ab : (s * (x : Int)).natAbs = x := by
      rcases hs with rfl | rfl
      · rw [Int.one_mul, Int.natAbs_natCast]
      · rw [Int.neg_mul, Int.one_mul, Int.natAbs_neg, Int.natAbs_natCast]
    refine ⟨⟨by rw [e2]; omega, ?_⟩, ?_, ?_, ?_⟩
    · rw [e1, e2, ab, Int.natAbs_natCast]; exact h1
    · rw [e1, e2]
      rcases hnd with ⟨a, b⟩ | ⟨a, b⟩
      · rw [a, b, Int.mul_assoc, Int.mul_assoc, Int.mul_left_comm (x : Int) (g : Int) (y : Int), Int.mul_assoc]
      · rw [a, b, Int.mul_neg, Int.neg_mul, Int.mul_assoc, Int.mul_assoc, Int.mul_left_comm (x : Int) (g : Int) (y : Int), Int.mul_assoc]
    · rw [e1, ab]; exact hxn
    · rw [e2, Int.natAbs_natCast]; exact hyd
  by_cases hdn : d < 0
  · by_cases hnn : n < 0
    · exact main 1 (.inl rfl) (by rw [if_pos hdn, Int.one_mul]; omega) (.inr ⟨by rw [Int.one_mul]; omega, by omega⟩)
    · exact main (-1) (.inr rfl) (by rw [if_pos hdn, Int.neg_mul, Int.one_mul]; omega) (.inr ⟨by rw [Int.neg_mul, Int.one_mul]; omega, by omega⟩)
  · by_cases hnn : n < 0
    · exact main (-1) (.inr rfl) (by rw [if_neg hdn, Int.neg_mul, Int.one_mul]; omega) (.inl ⟨by rw [Int.neg_mul, Int.one_mul]; omega, by omega⟩)
    · exact main 1 (.inl rfl) (by rw [if_neg hdn, Int.one_mul]; omega) (.inl ⟨by rw [Int.one_mul]; omega, by omega⟩)
/-- two amounts in lowest terms of the same worth are the same -/
theorem low_eq {x y : Int × Int} (hx : Low x) (hy : Low y) (e : x.1 * y.2 = y.1 * x.2) : x = y := by
  obtain ⟨a, b⟩ := x
  obtain ⟨c, d⟩ := y
  obtain ⟨hb, g1⟩ := hx
  obtain ⟨hd, g2⟩ := hy
  simp only at hb g1 hd g2 e
  have en : a.natAbs * d.natAbs = c.natAbs * b.natAbs := by rw [← Int.natAbs_mul, ← Int.natAbs_mul, e]
  have h1 : b.natAbs ∣ d.natAbs := by
    have : b.natAbs ∣ a.natAbs * d.natAbs := ⟨c.natAbs, by rw [en, Nat.mul_comm]⟩
    exact Nat.Coprime.dvd_of_dvd_mul_left (show Nat.Coprime b.natAbs a.natAbs by rw [Nat.Coprime, Nat.gcd_comm]; exact g1) this
  have h2 : d.natAbs ∣ b.natAbs := by
    have : d.natAbs ∣ c.natAbs * b.natAbs := ⟨a.natAbs, by rw [← en, Nat.mul_comm]⟩
    exact Nat.Coprime.dvd_of_dvd_mul_left (show Nat.Coprime d.natAbs c.natAbs by rw [Nat.Coprime, Nat.gcd_comm]; exact g2) this
  have h3 : b.natAbs = d.natAbs := Nat.dvd_antisymm h1 h2
  have h4 : b = d := by omega
  subst h4
  have h5 : a = c := Int.eq_of_mul_eq_mul_right (by omega) e
  rw [h5]
theorem amt_low {x : Int × Int} (h : Low x) : amt x.1 x.2 = x := by
  have s := amt_spec (n := x.1) (d := x.2) (by have := h.1; omega)
  exact low_eq s.1 h s.2.1
theorem amt_eq {n d m e : Int} (hd : d ≠ 0) (he : e ≠ 0) (h : n * e = m * d) : amt n d = amt m e := by
  have s := amt_spec (n := n) (d := d) hd
  have t := amt_spec (n := m) (d := e) he
  refine low_eq s.1 t.1 ?_
  -- (amt n d).1 * d = n * (amt n d).2 ; (amt m e).1 * e = m * (amt m e).2
  have key : ((amt n d).1 * (amt m e).2) * (d * e) = ((amt m e).1 * (amt n d).2) * (d * e) := by
    calc ((amt n d).1 * (amt m e).2) * (d * e) = ((amt n d).1 * d) * ((amt m e).2 * e) := by ac_rfl
      _ = (n * (amt n d).2) * ((amt m e).2 * e) := by rw [s.2.1]
      _ = (n * e) * ((amt n d).2 * (amt m e).2) := by ac_rfl
      _ = (m * d) * ((amt n d).2 * (amt m e).2) := by rw [h]
      _ = (m * (amt m e).2) * ((amt n d).2 * d) := by ac_rfl
      _ = ((amt m e).1 * e) * ((amt n d).2 * d) := by rw [t.2.1]
      _ = ((amt m e).1 * (amt n d).2) * (d * e) := by ac_rfl
  exact Int.eq_of_mul_eq_mul_right (Int.mul_ne_zero hd he) key

section
variable {P : Program} {w : World} {K : PySem.W.Frag} {T : Tb} {mg : Str → Option Value} {base : Heap}
/-! ### refusals: own error classes whose __init__ calls the base's -/
/-- C.m(e, ..), m a def read off the own class C -/
theorem pe_clsfn {X : Cx} {x m : Str} {C f : Addr} {mc : Value} {k : Nat} {fd : FuncData} {ps : List Str} {sp : Sp} {e : Expr} {es : List Expr} {t : TA} {p1 p2 pos : Pos} {pl : Sem Bool}
    (r : ClX.CRead X.K C mc) (hat : PySem.W.findCls X.K (.ref C) mc m = some (.val (.ref f))) (F : FnOk X.prog X.w X.K X.mg X.base CX0 k f fd ps sp) (hr : Room k X.A) (hg : Gl X x) (hm : X.mg x = some (.ref C))
    (hk : PySem.W.keepIn X.K (.ref f) = true) (hb : Binds X.K fd ps []) (ha : PA X (e :: es) t)
    (hc : eval (.Call (.Attribute (.Name x p1) m p2) (e :: es) [] pos) X.env = (do
      let ov ← eval (.Name x p1) X.env
      standAt p2.atName
      let (f, first) ← holding [ov] (getMethod ov m pl)
      callWith pos f first (backTo pos (starEach (e :: es) X.env)) (backToKw pos (keywordEach [] X.env))) := by rfl)
    (hdb : (x == ("__debug__" : Str)) = false := by decide) (he : starEach (e :: es) X.env = (false, eval e X.env) :: starEach es X.env := by rfl) (hpl : (backTo pos (starEach es X.env)).any (·.1) = false := by rfl) :
    PE X (.Call (.Attribute (.Name x p1) m p2) (e :: es) [] pos) (tCall sp [] E0 t) := by
  refine ⟨fun pins s σ H Q I h => ?_⟩
  refine PySem.W.methodCall_KW (ld_glob I hg hm ?_ hdb) hc
  refine PySem.W.method_cls I.kIn r.ga (PySem.W.cls_value I.kIn r.rd hat rfl ?_)
  show wpAny _ _ (callWith pos (Value.ref f) [] (backTo pos (starEach (e :: es) X.env)) []) _ _ _
  refine PySem.W.callWith_K (h₀ := X.base) I.ok.mod.kin hk (thn (ha.run pos pins _ σ H _ (I.tok _) h) fun us s1 ⟨vs, H1, I1, r1, q1⟩ => ⟨I1.kIn, ?_⟩) he hpl
  exact run_fn F hr hb .nil pass0 I1 r1 q1
/-- C(), C's own __init__ keeping sp -/
theorem pmk_oex0 {X : Cx} {x : Str} {C fI : Addr} {k : Nat} {fd : FuncData} {ps : List Str} {sp : Sp} {p pos : Pos} (T : OexC X.K C) (iC : PySem.W.findIn X.K (.ref C) "__init__" = some (some (.ref fI))) (tI : PySem.W.typeIn X.K (.ref fI) = some (.type "function"))
    (F1 : FnOk X.prog X.w X.K X.mg X.base CX0 k fI fd ps sp) (hr : Room (k + 1) X.A) (hb : Binds X.K fd ps []) (hg : Gl X x) (hm : X.mg x = some (.ref C)) (hdb : (x == ("__debug__" : Str)) = false := by decide) :
    PMk X (.Call (.Name x p) [] [] pos) (tMkO C sp [] tNil) := by
  intro pins s σ H Q I h
  obtain ⟨nm, q, N, bs, bm, sn, sub, ab, col, dd, k0, k1, k2, k3, k5, hC, hbm⟩ := T.cls
  refine wpAny_Call_Name_kw (ld_glob I hg hm ?_ hdb)
  refine PySem.W.callWith_K0 I.kIn T.kC ?_
  show wpAny _ _ (call (.ref C) []) _ _ _
  obtain ⟨hz, q1⟩ : ([] : List V).length ≤ 1000 ∧ _ := h
  obtain ⟨hp, g, dr, tk, os⟩ := s
  have hsz : hp.objs.size ≤ hp.objs.size + 1 := Nat.le_succ _
  have hn : H (hp.objs.size + 1) = none := I.hok.fresh hsz
  have hq := q1 (hp.objs.size + 1) hn
  have kk : ∀ b o, hp.get? b = some o → ((hp.push (PySem.W.kdv_tup [])).push (PySem.HandSPX.excO C hp.objs.size)).get? b = some o := fun b o e => Heap.get?_push_of_some _ (Heap.get?_push_of_some _ e)
  have hget : ((hp.push (PySem.W.kdv_tup [])).push (PySem.HandSPX.excO C hp.objs.size)).get? (hp.objs.size + 1) = some (PySem.HandSPX.excO C hp.objs.size) := by heap_get
  have I2 : Inv X pins σ (upd H (hp.objs.size + 1) (exo (hp.objs.size + 1) C none)) ⟨(hp.push (PySem.W.kdv_tup [])).push (PySem.HandSPX.excO C hp.objs.size), g, dr, tk, os⟩ :=
    I.laid (t' := tk) (a := hp.objs.size + 1) (o := exo (hp.objs.size + 1) C none) (h' := (hp.push (PySem.W.kdv_tup [])).push (PySem.HandSPX.excO C hp.objs.size)) kk hsz (exo_ok hget)
  have r2 : Vals (V.ref (hp.objs.size + 1) :: ([] ++ [])) ([Value.ref (hp.objs.size + 1)] ++ []) := .cons rfl .nil
  have hl : (Value.ref (hp.objs.size + 1) :: [] ++ []).length = ps.length := by
    have e := r2.length
    rw [F1.len _ _ _ _ hq] at e
    exact e.symm
  have hus : ([] : List Value).length ≤ sizeLine := Nat.zero_le _
  refine wpAny_call (PySem.HandSPX.call_own F.excBase_ValueError (fun Y => PySem.HandSPX.refsVE_contains Y bm hbm) (I.kIn _ _ hC) (PySem.W.looks_findIn I.kIn iC) (fun self => PySem.W.bind_fn I.kIn self tI) hus
    (codeAny_mono (F1.run _ X.stack _ _ ⟨Value.ref (hp.objs.size + 1) :: [], []⟩ ([Value.ref (hp.objs.size + 1)] ++ []) _ _ (fun _ _ _ => False) (hr.make C [] []) (I2.env0.make C [] []) (hb _ (Value.ref (hp.objs.size + 1) :: []) I2.kIn hl) r2 hq) fun r s' hq' => ?_))
  cases r with
  | error er => exact (show False from hq').elim
  | ok fl =>
    cases fl with
    | ret u =>
      obtain ⟨v, H2, os2, bare2, un2, hok2, rv, ev, d, fs, ea, ed, hd1, q2⟩ := hq'
      subst ev
      obtain ⟨h2, g2, d2, t2, os'⟩ := s'
      exact ⟨rv, mk_end (raises_own T.exC T.tyC) I hsz kk un2 hok2 os2 bare2 ea ed hd1 q2⟩
    | next => exact False.elim hq'
    | brk => exact False.elim hq'
    | cont => exact False.elim hq'
/-- what stands of a refusal that flies: its word -/
def Rf (K : PySem.W.Frag) (CP : Addr) (word : Str) (cls : Value) (d : Option Addr) (H' : Hp) : Prop :=
  ∃ C dd, cls = .ref C ∧ d = some dd ∧ XfC K C ∧ PySem.W.findIn K (.ref C) "word" = some none ∧ PySem.W.exmOne K (.ref C) (.ref CP) = some true ∧ H' dd = some (.xd [(("word" : Str), .str word)])
theorem Rf.keep {T : Tb} {K : PySem.W.Frag} {CP : Addr} {word : Str} {cls : Value} {d : Option Addr} {H H' : Hp} (h : Rf K CP word cls d H) (s : Sm T H H') : Rf K CP word cls d H' := by
  obtain ⟨C, dd, h1, h2, h3, h4, h5, h6⟩ := h
  exact ⟨C, dd, h1, h2, h3, h4, h5, s.k h6⟩
/-- the promise of PailError.__init__ and of those under it -/
def spInit2 (K : PySem.W.Frag) : Sp := fun vs H Q _ => ∃ (a C : Addr) (w : Str), vs = [.ref a, .str w] ∧ OexC K C ∧ PySem.W.findIn K (.ref C) "word" = some none ∧ H a = some (exo a C none) ∧
  ∀ dx, H dx = none → dx ≠ a → Q .non (upd (upd H dx (exd dx [(("word" : Str), .str w)])) a (exo a C (some dx)))
def spInit (w : Str) (K : PySem.W.Frag) : Sp := fun vs H Q _ => ∃ (a C : Addr), vs = [.ref a] ∧ OexC K C ∧ PySem.W.findIn K (.ref C) "word" = some none ∧ H a = some (exo a C none) ∧
  ∀ dx, H dx = none → dx ≠ a → Q .non (upd (upd H dx (exd dx [(("word" : Str), .str w)])) a (exo a C (some dx)))
/-- the error class by the name x, its word -/
structure Err (P : Program) (w : World) (K : PySem.W.Frag) (mg : Str → Option Value) (base : Heap) (CP : Addr) (x word : Str) : Prop where
  ex : ∃ (C fI : Addr) (fd : FuncData), mg x = some (.ref C) ∧ OexC K C ∧ XfC K C ∧ PySem.W.findIn K (.ref C) "word" = some none ∧ PySem.W.exmOne K (.ref C) (.ref CP) = some true ∧
    PySem.W.findIn K (.ref C) "__init__" = some (some (.ref fI)) ∧ PySem.W.typeIn K (.ref fI) = some (.type "function") ∧ FnOk P w K mg base CX0 2 fI fd ["self"] (spInit word K) ∧ Binds K fd ["self"] []
def tErr (K : PySem.W.Frag) (CP : Addr) (word : Str) : L2.St → Hp → XK → Prop := fun _ H Q => ∀ cls dd, H dd = none → Rf K CP word cls (some dd) (upd H dd (.xd [(("word" : Str), .str word)])) → Q cls (some dd) (upd H dd (.xd [(("word" : Str), .str word)]))
theorem pmk_err {X : Cx} {CP : Addr} {x word : Str} {p pos : Pos} (R : Err X.prog X.w X.K X.mg X.base CP x word) (hr : Room 3 X.A) (hg : Gl X x) (hdb : (x == ("__debug__" : Str)) = false := by decide) :
    PMk X (.Call (.Name x p) [] [] pos) (tErr X.K CP word) := by
  obtain ⟨C, fI, fd, g, oc, xf, nw, ex, iC, tI, F, b⟩ := R.ex
  intro pins s σ H Q I h
  refine pmk_oex0 (k := 2) oc iC tI F hr b hg g hdb pins s σ H Q I ⟨Nat.zero_le _, fun a ha => ⟨a, C, rfl, oc, nw, upd_same, fun dx hdx hne => ⟨rfl, dx, [(("word" : Str), .str word)], upd_same, ?_, ?_, ?_⟩⟩⟩
  · rw [upd_ne hne, upd_same]
  · rw [upd_ne hne] at hdx
    exact hdx
  · have hd : H dx = none := by
      rw [upd_ne hne] at hdx
      exact hdx
    have e : upd (L2.del (upd (upd (upd H a (exo a C none)) dx (exd dx [(("word" : Str), .str word)])) a (exo a C (some dx))) a) dx (.xd [(("word" : Str), .str word)]) = upd H dx (.xd [(("word" : Str), .str word)]) := by
      funext c
      by_cases h1 : c = dx
      · rw [h1, upd_same, upd_same]
      · rw [upd_ne h1, upd_ne h1]
        by_cases h2 : c = a
        · rw [h2, L2.del_same, ha]
        · rw [L2.del_ne h2, upd_ne h2, upd_ne h1, upd_ne h2]
    rw [e]
    exact h (.ref C) dx hd ⟨C, dx, rfl, rfl, xf, nw, ex, upd_same⟩
/-- e.word, e the refusal that the suite holds -/
def tXw (K : PySem.W.Frag) (a : Addr) (cls : Value) (d : Option Addr) (te : TE) : TE := fun σ H Q => te σ H fun x H1 => x = .ref a ∧ ∃ (C dd : Addr) (v : V), cls = .ref C ∧ XfC K C ∧ PySem.W.findIn K (.ref C) "word" = some none ∧ d = some dd ∧ H1 dd = some (.xd [(("word" : Str), v)]) ∧ Q v H1
theorem pe_xw {X : Cx} {a : Addr} {oe : Obj} {cls : Value} {d : Option Addr} {pn : List (Addr × Obj)} {e : Expr} {te : TE} {pos : Pos}
    (hz : Zc cls d oe) (hf : ∃ vs, oe.data = .fields vs) (he : PE (X.suite a ((a, oe) :: pn)) e te) (hb : attributeBase e "word" X.env (eval e X.env) = eval e X.env := by rfl) :
    PE (X.suite a ((a, oe) :: pn)) (.Attribute e "word" pos) (tXw X.K a cls d te) := by
  refine ⟨fun pins s σ H Q I h => ?_⟩
  refine attr_of hb (thn (he.run pins s σ H _ I h) fun u s1 hh => ?_)
  obtain ⟨x, H1, I1, rx, ex, C, dd, v, ec, T, hno, ed, ea, q⟩ := hh
  subst ex
  obtain rfl : u = Value.ref a := rx
  subst ec
  subst ed
  obtain ⟨ha, _⟩ := I1.pin (a, oe) (List.mem_append_left _ List.mem_cons_self)
  obtain ⟨vs, hd⟩ := hf
  have hx : ObjOk X.prog X.w H1 s1.heap dd (.xd [(("word" : Str), v)]) := I1.hok dd _ ea
  obtain ⟨mA, hns, hr⟩ := hx
  obtain ⟨od, ho, hl⟩ := lookIn_ns hns
  have l : List.lookup ("word" : Str) [(("word" : Str), v)] = some v := by simp [List.lookup]
  obtain ⟨u, hu, ru⟩ := RelO.some_of (v := v) (o := mA "word") (by rw [← l]; exact hr "word")
  have J : PySem.W.InstAt s1.heap a oe C (some od) := ⟨ha, hz.1, by unfold PySem.W.notCls; rw [hd] <;> rfl, by rw [hz.2]; exact ho⟩
  exact HandSPX.exc_get I1.kIn J T.ga T.gg T.exC (PySem.W.findObj_own T.hdC hno rfl (by rw [hl, hu])) (handed_of ru) ⟨v, H1, I1.tok _, ru, q⟩
/-! ### a def that may raise, ready to be called -/
structure Fx (P : Program) (w : World) (K : PySem.W.Frag) (mg : Str → Option Value) (base : Heap) (k : Nat) (x : Str) (ps : List Str) (sp : Sp) : Prop where
  ex : ∃ f fd, FnOk P w K mg base (L2.CX P w) k f fd ps sp ∧ mg x = some (.ref f) ∧ PySem.W.keepIn K (.ref f) = true ∧ Binds K fd ps []
theorem Fx.mk' {P : Program} {w : World} {K : PySem.W.Frag} {mg : Str → Option Value} {base : Heap} {k : Nat} {x : Str} {ps : List Str} {sp : Sp} {f : Addr} {fd : FuncData}
    (h : FnOk P w K mg base (L2.CX P w) k f fd ps sp) (g : mg x = some (.ref f)) (kp : PySem.W.keepIn K (.ref f) = true) (b : Binds K fd ps []) : Fx P w K mg base k x ps sp := ⟨⟨f, fd, h, g, kp, b⟩⟩
theorem pe_fx {X : Cx} {k : Nat} {x : Str} {ps : List Str} {sp : Sp} {e : Expr} {es : List Expr} {t : TA} {p pos : Pos} {E : XK} (F : Fx X.prog X.w X.K X.mg X.base k x ps sp) (hr : Room k X.A) (tk : Takes X (fun cls d _ H => E cls d H)) (ha : PA X (e :: es) t) (hg : Gl X x := by rfl) (hdb : (x == ("__debug__" : Str)) = false := by decide)
    (he : starEach (e :: es) X.env = (false, eval e X.env) :: starEach es X.env := by rfl) (hpl : (backTo pos (starEach es X.env)).any (·.1) = false := by rfl) :
    PE X (.Call (.Name x p) (e :: es) [] pos) (tCall sp [] E t) := by
  obtain ⟨f, fd, h, g, kp, b⟩ := F.ex
  exact pe_call h hr hg g kp b .nil (passes_call tk fun _ _ _ _ h => h) ha hdb he hpl
/-- .. where nothing is to be let out -/
theorem pe_fx0 {X : Cx} {k : Nat} {x : Str} {ps : List Str} {sp : Sp} {e : Expr} {es : List Expr} {t : TA} {p pos : Pos} (F : Fx X.prog X.w X.K X.mg X.base k x ps sp) (hr : Room k X.A) (ha : PA X (e :: es) t) (hg : Gl X x := by rfl) (hdb : (x == ("__debug__" : Str)) = false := by decide)
    (he : starEach (e :: es) X.env = (false, eval e X.env) :: starEach es X.env := by rfl) (hpl : (backTo pos (starEach es X.env)).any (·.1) = false := by rfl) :
    PE X (.Call (.Name x p) (e :: es) [] pos) (tCall sp [] E0 t) := by
  obtain ⟨f, fd, h, g, kp, b⟩ := F.ex
  exact pe_call h hr hg g kp b .nil passL ha hdb he hpl
/-! ### a def whose code object is told -/
structure FunC (K : PySem.W.Frag) (x qual : Str) (st : Stmt) (f : Addr) (fd : FuncData) (c : Addr) : Prop where
  ex : ∃ (oc : Value) (od : Option Addr) (kV doc pm : Value) (an : Option Addr) (ct : Value) (osl : Array (Option Value)),
    fd = PySem.W.fnOf x qual (defArgs st) (defBody st) (defScope st) .none kV doc pm an (.ref c) ct ∧ K.lookup f = some ⟨oc, od, .func fd, osl⟩ ∧ PySem.W.codeIn K (.ref c) qual = true
  kp : PySem.W.keepIn K (.ref f) = true
theorem FunC.ok {P : Program} {w : World} {K : PySem.W.Frag} {mg : Str → Option Value} {base : Heap} {x qual : Str} {st : Stmt} {f c : Addr} {fd : FuncData} {N ps : List Str} {k : Nat} {sp : Sp} (F : FunC K x qual st f fd c) (S : FnScope N ps (defScope st)) (len : ∀ vs H Q E, sp vs H Q E → vs.length = ps.length)
    (hbody : ∀ (A : Around) (outer : List Env) (s : Shared) (H : Hp) (vs : List V) (Q : VK) (E : XK), Room k (A.deeper (envOfC qual (defScope st) s.heap.objs.size f (.ref c))) → sp vs H Q E →
      ∃ t, PSs (cxOf CX0 P w K mg base N qual (defScope st) f (.ref c) A outer s H E).nox (defBody st) t ∧ t { nx := fun _ H' => Q .non H', rt := Q } (start N vs) H) : FnOk P w K mg base CX0 (k + 1) f fd ps sp := by
  obtain ⟨oc, od, kV, doc, pm, an, ct, osl, rfl, lk, hcd⟩ := F.ex
  refine fn_of lk hcd S len fun A outer s H vs Q E hr hsp => ?_
  obtain ⟨t, h, q⟩ := hbody A outer s H vs Q E hr hsp
  exact ⟨t, h.nox, q⟩
theorem FunC.okX {P : Program} {w : World} {K : PySem.W.Frag} {mg : Str → Option Value} {base : Heap} {x qual : Str} {st : Stmt} {f c : Addr} {fd : FuncData} {N ps : List Str} {k : Nat} {sp : Sp} (F : FunC K x qual st f fd c) (S : FnScope N ps (defScope st)) (len : ∀ vs H Q E, sp vs H Q E → vs.length = ps.length)
    (hbody : ∀ (A : Around) (outer : List Env) (s : Shared) (H : Hp) (vs : List V) (Q : VK) (E : XK), Room k (A.deeper (envOfC qual (defScope st) s.heap.objs.size f (.ref c))) → sp vs H Q E →
      ∃ t, PSs (cxOf (L2.CX P w) P w K mg base N qual (defScope st) f (.ref c) A outer s H E) (defBody st) t ∧ t { nx := fun _ H' => Q .non H', rt := Q } (start N vs) H) : FnOk P w K mg base (L2.CX P w) (k + 1) f fd ps sp := by
  obtain ⟨oc, od, kV, doc, pm, an, ct, osl, rfl, lk, hcd⟩ := F.ex
  exact fn_of lk hcd S len fun A outer s H vs Q E hr hsp => hbody A outer s H vs Q E hr hsp
theorem FunC.binds {K : PySem.W.Frag} {x qual : Str} {st : Stmt} {f c : Addr} {fd : FuncData} {ps : List Str} (F : FunC K x qual st f fd c)
    (h : ∀ (kV doc pm : Value) (an : Option Addr) (ct : Value) (us : List Value), us.length = ps.length → bindArgs (PySem.W.fnOf x qual (defArgs st) (defBody st) (defScope st) .none kV doc pm an (.ref c) ct) ⟨us, []⟩ = pure (ps.zip us)) : Binds K fd ps [] := by
  obtain ⟨oc, od, kV, doc, pm, an, ct, osl, rfl, lk, hcd⟩ := F.ex
  exact .all (h kV doc pm an ct)
theorem exm_of {K : PySem.W.Frag} {C S : Addr} (h1 : PySem.W.subIn K (.ref S) (.type "BaseException") = some true) (h2 : PySem.W.isClsIn K S = true) (h3 : PySem.W.typeIn K (.ref S) = some (.type "type")) (h4 : PySem.W.subIn K (.ref C) (.ref S) = some true) :
    PySem.W.exmOne K (.ref C) (.ref S) = some true := by
  have e1 : (PySem.W.subIn K (.ref S) (.type "BaseException") == some true) = true := by rw [h1] <;> rfl
  have e2 : ((PySem.W.clsIn K S).isSome && PySem.W.typeIn K (.ref S) == some (.type "type")) = true := by
    have h2' : (PySem.W.clsIn K S).isSome = true := h2
    rw [h2', h3] <;> rfl
  show (if (PySem.W.subIn K (.ref S) (.type "BaseException") == some true) = true then (if ((PySem.W.clsIn K S).isSome && PySem.W.typeIn K (.ref S) == some (.type "type")) = true then PySem.W.subIn K (.ref C) (.ref S) else none) else none) = some true
  rw [if_pos e1, if_pos e2]
  exact h4

/-! ### generator expressions -/
theorem sm_tabbed {T : Tb} {H H' : Hp} {P : Addr} (hn : (T.map (·.1)).Nodup) (hP : (P, (none : Option Str)) ∈ T) (ht : GxR.TabG H P) (h : GxR.Tabbed P H H') : Sm T H H' := by
  obtain ⟨ps, e, _⟩ := ht
  have ne : ∀ b o, H b = some o → nTbl o → b ≠ P := fun b o q n z => by
    rw [z, e] at q
    cases q
    exact n
  refine ⟨fun b o q n => by rw [h.2 b (ne b o q n)]; exact q, fun k p hp => ?_, fun l hl => ?_⟩
  · by_cases hb : p.1 = P
    · have ep : p = (P, none) := by
        obtain ⟨i, hi, e1⟩ := List.getElem_of_mem hp
        obtain ⟨j, hj, e2⟩ := List.getElem_of_mem hP
        have hij : i = j := by
          have a1 : (T.map (·.1))[i]? = some P := by rw [List.getElem?_map, List.getElem?_eq_getElem hi, e1]; exact congrArg some hb
          have a2 : (T.map (·.1))[j]? = some P := by rw [List.getElem?_map, List.getElem?_eq_getElem hj, e2]; rfl
          exact nd_ix hn a1 a2
        subst hij
        rw [← e1, e2]
      rw [ep]
      exact h.1
    · have q := k p hp
      obtain ⟨P', w⟩ := p
      have hb : P' ≠ P := hb
      cases w with
      | none =>
        obtain ⟨ps', a1, a2⟩ := (show GxR.TabG H P' from q)
        exact ⟨ps', by rw [h.2 _ hb]; exact a1, a2⟩
      | some w =>
        obtain ⟨ps', a1, a2, a3⟩ := (show LamX.TabS H P' w from q)
        refine ⟨ps', by rw [h.2 _ hb]; exact a1, a2, fun pos cv hc => ?_⟩
        obtain ⟨c, e1, e2⟩ := a3 pos cv hc
        refine ⟨c, e1, ?_⟩
        rw [h.2 c (ne c _ e2 (by unfold LamX.CodeO; trivial))]
        exact e2
  · by_cases z : l = P
    · obtain ⟨ps', a1, _⟩ := h.1
      rw [z, a1] at hl
      cases hl
    · rw [← h.2 l z]
      exact hl
/-- the element of a generator over ints, in the generator's frame -/
def EltI (X : Cx) (scope : Scope) (x : Str) (elt : Expr) (F : Int → Value → Prop) : Prop :=
  ∀ (cenv : Env) (A' : Around) (E' : Value → Shared → Prop) (i : Int) (t : Tok) (s₂ : Shared) (m₂ : Str → Option Value), cenv.scope = scope → cenv.globals = X.env.globals → cenv.builtins = builtinsNs → A'.handled = none → A'.depth ≤ X.A.depth + 1 → A'.units ≤ X.A.units + 8 →
    X.K.In s₂.heap → s₂.heap.NoLimit → s₂.heap.Ns mainGlobals X.mg → (∃ mb, s₂.heap.Ns builtinsNs mb ∧ ∀ y : Str, y ≠ "__name__" → mb y = bootBuiltins y) → s₂.heap.Ns cenv.locals m₂ → m₂ x = some (.int i t) →
    wpAny (model X.prog X.w) A' (eval elt cenv) (fun y s₃ => F i y ∧ Keeps s₂ s₃) E' s₂
/-- over pairs of ints -/
def EltP (X : Cx) (scope : Scope) (xa xb : Str) (elt : Expr) (f : Int → Int → Int) : Prop :=
  ∀ (cenv : Env) (A' : Around) (E' : Value → Shared → Prop) (i j : Int) (t u : Tok) (s₂ : Shared) (m₂ : Str → Option Value), cenv.scope = scope → A'.handled = none →
    (-(2 ^ 64) < i ∧ i < 2 ^ 64) → s₂.heap.Ns cenv.locals m₂ → m₂ xa = some (.int i t) → m₂ xb = some (.int j u) →
    wpAny (model X.prog X.w) A' (eval elt cenv) (fun y s₃ => (∃ v, y = .int (f i j) v) ∧ Keeps s₂ s₃) E' s₂
section
variable {X : Cx} {pins : List (Addr × Obj)} {σ : L2.St} {H : Hp} {s : Shared}
theorem gen_tup {c P : Addr} {elt iter : Expr} {x : Str} {px gpos : Pos} {scope : Scope} {pb : Int → Bool} {te : TE} {k : Nat} {Q' : Value → Shared → Prop} {R : List Int → Hp → Prop}
    (hr : Room k X.A) (TB : GxR.TabB X.base X.mg c P) (hcode : X.env.code = .ref c) (S : GxR.GenS X.env scope x) (hi : PE X iter te) (hel : EltI X scope x elt (fun i y => y = .bool (pb i)))
    (hs : ∀ v, genFold iter X.env v = pure v) (I : Inv X pins σ H s) (h : te σ H fun v H1 => ∃ (a : Addr) (ns : List Int), v = .ref a ∧ SqT X.K H1 a (ns.map V.int) ∧ GxR.TabG H1 P ∧ R ns H1)
    (hQ : ∀ ns H1 g s5, R ns H1 → (∃ (fp wr : List Addr) (G : Array GenState → Array GenState → Prop) (F : Nat → Value → Prop) (St : Nat → Shared → Prop),
      WalksS X.prog X.w X.A.in1 g fp wr G ns.length F St ∧ St 0 s5 ∧ TruthOf X.prog X.w X.A.in1 F (fun j => (ns.map pb).getD j false) ∧ ∀ s', Moved wr G s5 s' → ∃ H2, GxR.Tabbed P H1 H2 ∧ Inv X pins σ H2 s') → Q' (.ref g) s5) :
    wpAny (model X.prog X.w) X.A (eval (.GeneratorExp elt [⟨.Name x px, iter, [], 0⟩] scope gpos) X.env) Q' X.xe s := by
  refine wpAny_GeneratorExp_walksQD hr.hd S.co (closure_ok S.free) S.cell S.dot S.loc S.kind (by have := hr.dp; omega) ?_ hs
  refine thn (hi.run pins s σ H _ I h) fun xv s1 ⟨v, H1, I1, r1, q1⟩ => ?_
  obtain ⟨a, ns, rfl, hS, ⟨ps, hP, ht⟩, q1⟩ := q1
  cases r1
  obtain ⟨its, rv, hTup, hz⟩ := I1.tuple hS
  have hT : s1.heap.IsTuple a its.toArray := let ⟨o, ho, hc, n, hd⟩ := hTup; ⟨o, ho, hc, n, hd⟩
  have hlt : a < s1.heap.objs.size := by obtain ⟨_, e, _⟩ := hT; exact Heap.lt_size e
  refine wpAny_pyIter_tuple hT ?_
  have hPs : s1.heap.get? P = some { cls := .none, data := .fields ps } := I1.hok P _ hP
  have hPlt : P < s1.heap.objs.size := Heap.lt_size hPs
  let o : Obj := { cls := .type "tuple_iterator", data := .fields #[.ref a, .int 0 0] }
  show (s1.heap.push o).NoLimit ∧ _
  have hP2 : (s1.heap.push o).get? P = some { cls := .none, data := .fields ps } := Heap.get?_push_of_some _ hPs
  have cd : PySem.W.CodeHd (s1.heap.push o) c P := TB.code.keeps fun b u e => Heap.get?_push_of_some _ (I1.bk b u e)
  have lim2 : (s1.heap.push o).NoLimit := I1.nolimit.push o
  have hni : ∀ (i : Nat) (v : Value), its.toArray[i]? = some v → ∃ (z : Int) (t : Tok), ns[i]? = some z ∧ v = .int z t := fun i v hv => by
    have hv' : its[i]? = some v := by simpa using hv
    have hl : i < (ns.map V.int).length := by
      rw [rv.length]
      exact (List.getElem?_eq_some_iff.mp hv').1
    obtain ⟨u, hu, ru⟩ := rv.get (List.getElem?_eq_getElem hl)
    rw [hv'] at hu
    cases hu
    rw [List.length_map] at hl
    rw [List.getElem_map] at ru
    obtain ⟨t, e⟩ := ru
    exact ⟨ns[i], t, List.getElem?_eq_getElem hl, e⟩
  have cont : ∀ (code : Value) (h3 : Heap) (tk : Nat) (ps' : Array Value), Heap.ExtBut P (s1.heap.push o) h3 → (s1.heap.push o).objs.size ≤ h3.objs.size → h3.get? P = some { cls := .none, data := .fields ps' } → (∃ more, ps' = ps ++ more) → TriplesOk ps'.toList →
      wpAny (model X.prog X.w) X.A (builtinsFor X.env.globals X.env.builtins) (fun bi s₄ =>
        ∃ Ia fp wr n₀ Pf St₀ pz F, Value.ref s1.heap.objs.size = .ref Ia ∧ (∀ A' : Around, A'.handled = none → Walks X.prog X.w A' Ia fp wr n₀ Pf St₀) ∧ St₀ 0 s₄.heap ∧ (∀ b ∈ fp, b < s₄.heap.objs.size) ∧ s₄.heap.NoLimit ∧ cStatics ∉ wr ∧
          (∀ href : Heap, (∀ b o, s₄.heap.get? b = some o → href.get? b = some o) →
            QuietGenD X.prog X.w (genEnv scope (cloFrom X.env.cells scope.names []) s₄.heap.objs.size code bi X.env) x [] elt (List.range s₄.heap.objs.size) wr Pf pz F href (X.A.depth + 1) (X.A.units + 8)) ∧
          (∀ a h₅ tk gs, gs.bare = true → s₄.heap.objs.size < a → h₅.objs.size = a + 1 → (∀ b o, s₄.heap.get? b = some o → h₅.get? b = some o) →
            WalksS X.prog X.w X.A.in4 a (a :: s₄.heap.objs.size :: List.range s₄.heap.objs.size) (s₄.heap.objs.size :: wr) (GenOnlyQ s₄.gens.size) (passing pz n₀ 0).length
              (fun j y => ∃ i, (passing pz n₀ 0)[j]? = some i ∧ F i y) (GenAt X.prog X.w X.A.in4 a s₄.gens.size s₄.heap.objs.size (List.range s₄.heap.objs.size) wr pz n₀ F) →
            GenAt X.prog X.w X.A.in4 a s₄.gens.size s₄.heap.objs.size (List.range s₄.heap.objs.size) wr pz n₀ F 0 { s₄ with gens := s₄.gens.push gs, toks := tk, heap := h₅ } →
            Q' (.ref a) { s₄ with gens := s₄.gens.push gs, toks := tk, heap := h₅ })) X.xe { s1 with heap := h3, toks := tk } := by
    intro code h3 tk ps' hx hsz hP3 hmore ht3
    obtain ⟨bm, ob, e1, e2, e3, e4, e5, e6, e7, e8⟩ := TB.bm
    have hcP : cStatics ≠ P := fun e => by
      obtain ⟨_, hns, _⟩ := I1.nolimit
      obtain ⟨o', es, ep, ho, hd, _⟩ := hns
      rw [e, hPs] at ho
      cases ho
      cases hd
    have hcl : cStatics < s1.heap.objs.size := let ⟨_, hns, _⟩ := I1.nolimit; hns.lt
    have sz2 : (s1.heap.push o).objs.size = s1.heap.objs.size + 1 := Heap.size_push ..
    have keep3 : ∀ b u, b ≠ P → s1.heap.get? b = some u → h3.get? b = some u := fun b u hb e => hx b u hb (Heap.get?_push_of_some _ e)
    have glob3 : h3.Ns X.env.globals X.mg := by rw [I1.ok.glob]; exact ((I1.mod.glob.keeps I1.bk).push o).extBut hx TB.gP
    refine wpAny_builtinsFor (m := X.mg) glob3 e1 e2 (keep3 _ _ e4 (I1.bk _ _ e5)) e6 e7 e8 ?_
    have haP : a ≠ P := fun e => by
      obtain ⟨o', ho', hc', _⟩ := hT
      rw [e, hPs] at ho'
      cases ho'
      cases hc'
    refine ⟨s1.heap.objs.size, [s1.heap.objs.size, a], [s1.heap.objs.size], its.toArray.size, (fun i v => its.toArray[i]? = some v), (fun i h => h.IsTupleIter s1.heap.objs.size a i ∧ h.IsTuple a its.toArray), (fun _ => true), (fun i y => ∃ z, ns[i]? = some z ∧ y = .bool (pb z)), rfl, fun A' hA => Walks.tuple hA _ _ (Nat.ne_of_lt hlt) its.toArray, ?_, ?_, lim2.extBut hx hcP, ?_, ?_, ?_⟩
    · have h0 : (s1.heap.push o).IsTupleIter s1.heap.objs.size a 0 ∧ (s1.heap.push o).IsTuple a its.toArray := ⟨⟨_, Heap.get?_push_size _ rfl, rfl, rfl⟩, hT.push _⟩
      refine (Walks.tuple (prog := X.prog) (w := X.w) hr.hd _ _ (Nat.ne_of_lt hlt) its.toArray).frame _ _ _ h0 fun b hb u e => hx b u (fun z => ?_) e
      rcases List.mem_cons.mp hb with z2 | z2
      · exact Nat.ne_of_lt hPlt (z.symm.trans z2)
      · rcases List.mem_cons.mp z2 with z2 | z2
        · exact haP (z2.symm.trans z)
        · cases z2
    · intro b hb
      show b < h3.objs.size
      have sz3 : s1.heap.objs.size + 1 ≤ h3.objs.size := by rw [← sz2]; exact hsz
      rcases List.mem_cons.mp hb with z | z
      · rw [z]
        exact sz3
      · rcases List.mem_cons.mp z with z | z
        · rw [z]
          exact Nat.lt_trans hlt sz3
        · cases z
    · intro z
      rcases List.mem_cons.mp z with z | z
      · exact Nat.ne_of_lt hcl z
      · cases z
    · intro href hhref
      have up : ∀ (s₂ : Shared), (∀ b ∈ List.range h3.objs.size, b ∉ [s1.heap.objs.size] → ∀ o, href.get? b = some o → s₂.heap.get? b = some o) → ∀ b u, b ≠ P → s1.heap.get? b = some u → s₂.heap.get? b = some u := fun s₂ hk b u hb e => by
        have h1 := keep3 b u hb e
        refine hk b (List.mem_range.mpr (Heap.lt_size h1)) (fun z => ?_) u (hhref b u h1)
        rcases List.mem_cons.mp z with z | z
        · rw [z] at e
          exact Nat.lt_irrefl _ (Heap.lt_size e)
        · cases z
      refine ⟨fun A' E' i v s₂ m₂ hA _ _ hPv hn hm hk => ?_, fun A' E' i v s₂ m₂ hA hD hU hPv hp hn hm hk => ?_⟩
      · simp only [List.forIn_nil]
        exact wpAny_pure ⟨rfl, GxR.keeps_refl _⟩
      · obtain ⟨z, t, hz1, rfl⟩ := hni i v hPv
        have u2 := up s₂ hk
        have baseK : ∀ b u, X.base.get? b = some u → b ≠ P → s₂.heap.get? b = some u := fun b u e hb => u2 b u hb (I1.bk b u e)
        have nP : X.base.get? P = none := by
          cases q : X.base.get? P with
          | none => rfl
          | some u =>
            have := (I1.bs P u q).2
            rw [hP] at this
            cases this
        have baseA : ∀ b u, X.base.get? b = some u → s₂.heap.get? b = some u := fun b u e => baseK b u e (fun z => by rw [z, nP] at e; cases e)
        obtain ⟨mb, hb1, hb2⟩ := I1.mod.blt
        exact wpAny_mono (hel _ A' E' z t s₂ m₂ rfl rfl rfl hA hD hU (I1.ok.mod.kin.keeps baseA) (I1.ok.mod.nolimit.keeps baseA) (I1.mod.glob.keeps baseA) ⟨mb, hb1.keeps baseA, hb2⟩ hn hm) (fun y s3 r => ⟨⟨z, hz1, r.1⟩, r.2⟩) fun _ _ e => e
    · intro g h5 tk5 gs hgb hag hsz5 hk5 W5 hat
      simp only [GxR.passing_true, List.length_range] at W5
      have hsize : its.toArray.size = ns.length := by
        have := rv.length
        rw [List.length_map] at this
        rw [List.size_toArray]
        exact this.symm
      rw [hsize] at W5 hat
      refine hQ ns H1 g _ q1 ⟨_, _, _, _, _, W5.in4_1, hat, ?_, fun s' hm => ?_⟩
      · intro j y sj Qj Ej hy hQj
        obtain ⟨i, hij, z, hz1, rfl⟩ := hy
        obtain ⟨hj, ej⟩ := List.getElem?_eq_some_iff.mp hij
        rw [List.getElem_range] at ej
        subst ej
        have e9 : (ns.map pb).getD j false = pb z := by rw [List.getD_eq_getElem?_getD, List.getElem?_map, hz1]; rfl
        have hQ2 : Qj ((ns.map pb).getD j false) sj := hQj
        rw [e9] at hQ2
        exact wpAny_truthy_bool hQ2
      · obtain ⟨more, em⟩ := hmore
        have nwr : ∀ b u, s1.heap.get? b = some u → b ∉ h3.objs.size :: [s1.heap.objs.size] := fun b u e hb => by
          have hl := Heap.lt_size e
          rcases List.mem_cons.mp hb with z | z
          · rw [z] at hl
            have h9 : (h3.objs.size : Nat) < s1.heap.objs.size := hl
            omega
          · rcases List.mem_cons.mp z with z | z
            · rw [z] at hl
              exact Nat.lt_irrefl _ hl
            · cases z
        have J := GxR.inv_tab (more := more) (h' := s'.heap) (g' := s'.gens) (d' := s'.drawn) (t' := s'.toks) I1 hP (fun b u hb e => hm.heap b u (nwr b u e) (hk5 b u (keep3 b u hb e)))
          (by rw [← em]; exact hm.heap P _ (nwr P _ hPs) (hk5 P _ hP3)) (AllBare.movedS (I1.bare.push hgb) hm)
        rw [GxR.sh_eta s1 s' hm.os] at J
        refine ⟨upd H1 P (.tbl (ps ++ more)), ⟨⟨ps ++ more, upd_same, by rw [← em]; exact ht3⟩, fun b hb => upd_ne hb⟩, J⟩
  refine ⟨lim2, ?_⟩
  cases hf : codeAmong gpos ps.toList with
  | none =>
    refine wpAny_genexprCodeX hcode (cd.code hP2 ht) (cd.tab hP2) hf fun c' h' tk hx hge hlt hco' _ htab' _ => ?_
    obtain ⟨o1, vs, f1, tf, fl, tg, inF, tx, tt, op, _, _, _, _, _, _, _, _, _, htr, _⟩ := hco'
    exact cont _ h' tk _ hx (Nat.le_trans hge (Nat.le_of_lt hlt)) htab'.2 ⟨_, rfl⟩ htr
  | some cv =>
    refine wpAny_genexprCode_hit hcode (cd.code hP2 ht) hf ?_
    exact cont cv (s1.heap.push o) s1.toks ps (Heap.ExtBut.refl _ _) (Nat.le_refl _) hP2 ⟨#[], by simp⟩ ht
theorem all_getD (ns : List Int) (pb : Int → Bool) : (List.range ns.length).all (fun j => (ns.map pb).getD j false) = ns.all pb := by
  rw [Bool.eq_iff_iff, List.all_eq_true, List.all_eq_true]
  constructor
  · intro h z hz
    obtain ⟨j, hj, e⟩ := List.getElem_of_mem hz
    have q := h j (List.mem_range.mpr hj)
    rw [List.getD_eq_getElem?_getD, List.getElem?_map, List.getElem?_eq_getElem hj] at q
    rw [← e]
    exact q
  · intro h j hj
    have hj' := List.mem_range.mp hj
    rw [List.getD_eq_getElem?_getD, List.getElem?_map, List.getElem?_eq_getElem hj']
    exact h _ (List.getElem_mem hj')
/-- all(test for x in e), e a tuple of ints -/
def tAllI (K : PySem.W.Frag) (T : Tb) (P : Addr) (pb : Int → Bool) (te : TE) : TE := fun σ H Q => te σ H fun v H1 => ∃ (a : Addr) (ns : List Int), v = .ref a ∧ SqT K H1 a (ns.map V.int) ∧ GxR.TabG H1 P ∧ (Ok T H1 ∧ ∀ H2, Sm T H1 H2 → Q (.bl (ns.all pb)) H2)
theorem pe_allI {T : Tb} {c P : Addr} {elt iter : Expr} {x : Str} {px p pos gpos : Pos} {scope : Scope} {pb : Int → Bool} {te : TE} {k : Nat} (hn : (T.map (·.1)).Nodup) (hPT : (P, (none : Option Str)) ∈ T)
    (hr : Room k X.A) (hg : Gl X "all") (hm : X.mg "all" = none) (hb : bootBuiltins "all" = some (.builtin "all")) (TB : GxR.TabB X.base X.mg c P) (hcode : X.env.code = .ref c) (S : GxR.GenS X.env scope x) (hi : PE X iter te) (hel : EltI X scope x elt (fun i y => y = .bool (pb i)))
    (hs : ∀ v, genFold iter X.env v = pure v)
    (he : starEach [.GeneratorExp elt [⟨.Name x px, iter, [], 0⟩] scope gpos] X.env = (false, eval (.GeneratorExp elt [⟨.Name x px, iter, [], 0⟩] scope gpos) X.env) :: starEach [] X.env := by rfl) :
    PE X (.Call (.Name "all" p) [.GeneratorExp elt [⟨.Name x px, iter, [], 0⟩] scope gpos] [] pos) (tAllI X.K T P pb te) := by
  refine ⟨fun pins s σ H Q I h => ?_⟩
  refine wpAny_Call_Name_kw (ld_blt I hg hm hb ?_)
  refine PyProof.Rows.callWith_builtin1 ?_ he (by rfl)
  rw [he]
  show wpAny _ _ (spliced ((false, eval (.GeneratorExp elt [⟨.Name x px, iter, [], 0⟩] scope gpos) X.env) :: backTo pos (starEach [] X.env))) _ _ s
  refine Calls.spliced_cons (gen_tup (R := fun ns H1 => Ok T H1 ∧ ∀ H2, Sm T H1 H2 → Q (.bl (ns.all pb)) H2) hr TB hcode S hi hel hs I h fun ns H1 g s5 hR hG => ?_)
  obtain ⟨fp, wr, G, F, St, W, hst, htr, hI⟩ := hG
  refine Calls.spliced_nil ?_
  refine call_all_walkS (W.self 0 _ _ _ hst ⟨g, fp, wr, G, _, F, St, _, rfl, W, hst, htr, fun s' hmv => ?_⟩)
  obtain ⟨H2, hT, J⟩ := hI s' hmv
  refine ⟨.bl _, H2, J, rfl, ?_⟩
  rw [all_getD ns pb]
  exact hR.2 H2 (sm_tabbed hn hPT (hR.1 _ hPT) hT)
end
section
variable {X : Cx} {pins : List (Addr × Obj)} {σ : L2.St} {H : Hp} {s : Shared}
/-- a list of pairs of ints -/
def Pairs (K : PySem.W.Frag) (H : Hp) (a : Addr) (ps : List (Int × Int)) : Prop := ∃ vs : List V, SqL K H a vs ∧ vs.length = ps.length ∧ ∀ (i : Nat) (p : Int × Int), ps[i]? = some p → ∃ b, vs[i]? = some (.ref b) ∧ SqT K H b [.int p.1, .int p.2]
theorem Pairs.keep {T : Tb} {K : PySem.W.Frag} {H H' : Hp} {a : Addr} {ps : List (Int × Int)} (h : Pairs K H a ps) (s : Sm T H H') : Pairs K H' a ps := by
  obtain ⟨vs, h1, h2, h3⟩ := h
  refine ⟨vs, s.seq h1, h2, fun i p e => ?_⟩
  obtain ⟨b, e1, e2⟩ := h3 i p e
  exact ⟨b, e1, same_tup s e2⟩
theorem gen_pairs {c P : Addr} {elt iter : Expr} {xa xb : Str} {pa pb pt gpos : Pos} {kt : Nat} {scope : Scope} {f : Int → Int → Int} {te : TE} {k : Nat} {Q' : Value → Shared → Prop} {R : List (Int × Int) → Hp → Prop}
    (hr : Room k X.A) (TB : GxR.TabB X.base X.mg c P) (hcode : X.env.code = .ref c) (S : GxR.GenS X.env scope xa) (hxb : scope.names.lookup xb = some .local) (hab : xa ≠ xb) (hi : PE X iter te) (hel : EltP X scope xa xb elt f)
    (hs : ∀ v, genFold iter X.env v = pure v) (I : Inv X pins σ H s) (h : te σ H fun v H1 => ∃ (a : Addr) (qs : List (Int × Int)), v = .ref a ∧ Pairs X.K H1 a qs ∧ (∀ q ∈ qs, -(2 ^ 64) < q.1 ∧ q.1 < 2 ^ 64) ∧ GxR.TabG H1 P ∧ R qs H1)
    (hQ : ∀ qs H1 g s5, R qs H1 → (∃ (fp wr : List Addr) (G : Array GenState → Array GenState → Prop) (F : Nat → Value → Prop) (St : Nat → Shared → Prop),
      WalksS X.prog X.w X.A.in1 g fp wr G qs.length F St ∧ St 0 s5 ∧ (∀ b ∈ fp, b < s5.heap.objs.size) ∧ (∀ i v, F i v → ∃ t, v = .int ((qs.map fun (q : Int × Int) => f q.1 q.2).getD i 0) t) ∧ ∀ s', Moved wr G s5 s' → ∃ H2, GxR.Tabbed P H1 H2 ∧ Inv X pins σ H2 s') → Q' (.ref g) s5) :
    wpAny (model X.prog X.w) X.A (eval (.GeneratorExp elt [⟨.Tuple [.Name xa pa, .Name xb pb] kt pt, iter, [], 0⟩] scope gpos) X.env) Q' X.xe s := by
  refine wpAny_GeneratorExp_walksQT hr.hd S.co (closure_ok S.free) S.cell S.dot S.loc hxb hab S.kind (by have := hr.dp; omega) ?_ hs
  refine thn (hi.run pins s σ H _ I h) fun xv s1 ⟨v, H1, I1, r1, q1⟩ => ?_
  obtain ⟨a, qs, rfl, ⟨vs, hS, hvl, hvp⟩, hbd, ⟨ps, hP, ht⟩, q1⟩ := q1
  cases r1
  obtain ⟨its, rv, ⟨o0, n0, ho0, hc0, _, hd0⟩, hz⟩ := I1.list hS
  have hL : s1.heap.IsList a its.toArray := ⟨o0, ho0, hc0, n0, hd0⟩
  have hlt : a < s1.heap.objs.size := Heap.lt_size ho0
  have hlen : its.toArray.size = qs.length := by rw [List.size_toArray, ← rv.length, hvl]
  have hpair : ∀ j, j < its.toArray.size → ∃ (b : Addr) (t u : Tok) (q : Int × Int), qs[j]? = some q ∧ its.toArray[j]? = some (.ref b) ∧ s1.heap.IsTuple b #[.int q.1 t, .int q.2 u] := fun j hj => by
    have hj' : j < qs.length := by rw [← hlen]; exact hj
    obtain ⟨b, e1, e2⟩ := hvp j _ (List.getElem?_eq_getElem hj')
    obtain ⟨u', hu, ru⟩ := rv.get e1
    obtain rfl : u' = Value.ref b := ru
    obtain ⟨its2, rv2, ⟨o2, ho2, hc2, n2, hd2⟩, _⟩ := I1.tuple e2
    cases rv2 with
    | cons r1 rr =>
      cases rr with
      | cons r2 rn =>
        cases rn
        obtain ⟨t1, rfl⟩ := r1
        obtain ⟨t2, rfl⟩ := r2
        exact ⟨b, t1, t2, qs[j], List.getElem?_eq_getElem hj', by simpa using hu, ⟨o2, ho2, hc2, n2, hd2⟩⟩
  refine wpAny_pyIter_list hL ?_
  have hPs : s1.heap.get? P = some { cls := .none, data := .fields ps } := I1.hok P _ hP
  have hPlt : P < s1.heap.objs.size := Heap.lt_size hPs
  let o : Obj := { cls := .type "list_iterator", data := .fields #[.ref a, .int 0 0] }
  show (s1.heap.push o).NoLimit ∧ _
  have hP2 : (s1.heap.push o).get? P = some { cls := .none, data := .fields ps } := Heap.get?_push_of_some _ hPs
  have cd : PySem.W.CodeHd (s1.heap.push o) c P := TB.code.keeps fun b u e => Heap.get?_push_of_some _ (I1.bk b u e)
  have lim2 : (s1.heap.push o).NoLimit := I1.nolimit.push o
  let Ts : Nat → Addr := fun j => match its.toArray[j]? with | some (.ref b) => b | _ => 0
  have hTs : ∀ j, j < its.toArray.size → its.toArray[j]? = some (.ref (Ts j)) := fun j hj => by
    obtain ⟨b, t, u, q, _, e, _⟩ := hpair j hj
    show _ = some (Value.ref (match its.toArray[j]? with | some (.ref b) => b | _ => 0))
    rw [e]
  have hvals : ∃ vals : Nat → Array Value, ∀ j, j < its.toArray.size → s1.heap.IsTuple (Ts j) (vals j) ∧ ∃ (t u : Tok) (q : Int × Int), qs[j]? = some q ∧ vals j = #[.int q.1 t, .int q.2 u] := by
    have : ∀ j, ∃ va : Array Value, j < its.toArray.size → s1.heap.IsTuple (Ts j) va ∧ ∃ (t u : Tok) (q : Int × Int), qs[j]? = some q ∧ va = #[.int q.1 t, .int q.2 u] := fun j => by
      by_cases hj : j < its.toArray.size
      · obtain ⟨b, t, u, q, e1, e, e2⟩ := hpair j hj
        have eb : Ts j = b := by
          have := hTs j hj
          rw [e] at this
          cases this
          rfl
        exact ⟨_, fun _ => ⟨by rw [eb]; exact e2, t, u, q, e1, rfl⟩⟩
      · exact ⟨#[], fun z => absurd z hj⟩
    exact ⟨fun j => Classical.choose (this j), fun j hj => Classical.choose_spec (this j) hj⟩
  obtain ⟨vals, hvals⟩ := hvals
  have hTlt : ∀ j, j < its.toArray.size → Ts j < s1.heap.objs.size := fun j hj => by
    obtain ⟨⟨o', ho', _⟩, _⟩ := hvals j hj
    exact Heap.lt_size ho'
  have W : ∀ A' : Around, A'.handled = none → WalksU X.prog X.w A' s1.heap.objs.size (s1.heap.objs.size :: a :: (List.range its.toArray.size).map Ts) [s1.heap.objs.size] its.toArray.size (fun j v => j < its.toArray.size ∧ v = vals j) _ _ :=
    fun A' hA => (WalksU.listOfTuples (prog := X.prog) (w := X.w) hA s1.heap.objs.size a (Nat.ne_of_lt hlt) its.toArray Ts vals hTs (fun j hj => Nat.ne_of_lt (hTlt j hj))).bound
  have notP : ∀ b, b ∈ s1.heap.objs.size :: a :: (List.range its.toArray.size).map Ts → b ≠ P := fun b hb z => by
    rcases List.mem_cons.mp hb with z2 | z2
    · exact Nat.ne_of_lt hPlt (z.symm.trans z2)
    · rcases List.mem_cons.mp z2 with z2 | z2
      · rw [← z, z2, ho0] at hPs
        cases hPs
        cases hc0
      · obtain ⟨j, hj, e⟩ := List.mem_map.mp z2
        obtain ⟨⟨o', ho', hc', _⟩, _⟩ := hvals j (List.mem_range.mp hj)
        rw [e, z, hPs] at ho'
        cases ho'
        cases hc'
  have cont : ∀ (code : Value) (h3 : Heap) (tk : Nat) (ps' : Array Value), Heap.ExtBut P (s1.heap.push o) h3 → (s1.heap.push o).objs.size ≤ h3.objs.size → h3.get? P = some { cls := .none, data := .fields ps' } → (∃ more, ps' = ps ++ more) → TriplesOk ps'.toList →
      wpAny (model X.prog X.w) X.A (builtinsFor X.env.globals X.env.builtins) (fun bi s₄ =>
        ∃ Ia fp wr n₀ Pt St₀ Mid pz F, Value.ref s1.heap.objs.size = .ref Ia ∧ (∀ A' : Around, A'.handled = none → WalksU X.prog X.w A' Ia fp wr n₀ Pt St₀ Mid) ∧ (∀ i vals, Pt i vals → ∃ va vb, vals = #[va, vb]) ∧ St₀ 0 s₄.heap ∧ (∀ b ∈ fp, b < s₄.heap.objs.size) ∧ s₄.heap.NoLimit ∧ cStatics ∉ wr ∧
          (∀ href : Heap, (∀ b o, s₄.heap.get? b = some o → href.get? b = some o) →
            QuietGenT X.prog X.w (genEnv scope (cloFrom X.env.cells scope.names []) s₄.heap.objs.size code bi X.env) xa xb [] elt (List.range s₄.heap.objs.size) wr Pt pz F href) ∧
          (∀ a h₅ tk gs, gs.bare = true → s₄.heap.objs.size < a → h₅.objs.size = a + 1 → (∀ b o, s₄.heap.get? b = some o → h₅.get? b = some o) →
            WalksS X.prog X.w X.A.in4 a (a :: s₄.heap.objs.size :: List.range s₄.heap.objs.size) (s₄.heap.objs.size :: wr) (GenOnlyQ s₄.gens.size) (passing pz n₀ 0).length
              (fun j y => ∃ i, (passing pz n₀ 0)[j]? = some i ∧ F i y) (GenAt X.prog X.w X.A.in4 a s₄.gens.size s₄.heap.objs.size (List.range s₄.heap.objs.size) wr pz n₀ F) →
            GenAt X.prog X.w X.A.in4 a s₄.gens.size s₄.heap.objs.size (List.range s₄.heap.objs.size) wr pz n₀ F 0 { s₄ with gens := s₄.gens.push gs, toks := tk, heap := h₅ } →
            Q' (.ref a) { s₄ with gens := s₄.gens.push gs, toks := tk, heap := h₅ })) X.xe { s1 with heap := h3, toks := tk } := by
    intro code h3 tk ps' hx hsz hP3 hmore ht3
    obtain ⟨bm, ob, e1, e2, e3, e4, e5, e6, e7, e8⟩ := TB.bm
    have hcP : cStatics ≠ P := fun e => by
      obtain ⟨_, hns, _⟩ := I1.nolimit
      obtain ⟨o', es, ep, ho, hd, _⟩ := hns
      rw [e, hPs] at ho
      cases ho
      cases hd
    have hcl : cStatics < s1.heap.objs.size := let ⟨_, hns, _⟩ := I1.nolimit; hns.lt
    have sz2 : (s1.heap.push o).objs.size = s1.heap.objs.size + 1 := Heap.size_push ..
    have sz3 : s1.heap.objs.size + 1 ≤ h3.objs.size := by rw [← sz2]; exact hsz
    have keep3 : ∀ b u, b ≠ P → s1.heap.get? b = some u → h3.get? b = some u := fun b u hb e => hx b u hb (Heap.get?_push_of_some _ e)
    have glob3 : h3.Ns X.env.globals X.mg := by rw [I1.ok.glob]; exact ((I1.mod.glob.keeps I1.bk).push o).extBut hx TB.gP
    refine wpAny_builtinsFor (m := X.mg) glob3 e1 e2 (keep3 _ _ e4 (I1.bk _ _ e5)) e6 e7 e8 ?_
    refine ⟨s1.heap.objs.size, _, [s1.heap.objs.size], its.toArray.size, _, _, _, (fun _ => true), (fun i y => ∃ q t, qs[i]? = some q ∧ y = .int (f q.1 q.2) t), rfl, W, ?_, ?_, ?_, lim2.extBut hx hcP, ?_, ?_, ?_⟩
    · rintro i va ⟨hi', rfl⟩
      obtain ⟨_, t, u, q, _, e⟩ := hvals i hi'
      exact ⟨_, _, e⟩
    · have h0 : (s1.heap.push o).IsListIter s1.heap.objs.size a 0 ∧ (s1.heap.push o).IsList a its.toArray ∧ ∀ k, k < its.toArray.size → (s1.heap.push o).IsTuple (Ts k) (vals k) :=
        ⟨⟨_, Heap.get?_push_size _ rfl, rfl, rfl⟩, hL.push _, fun k hk => (hvals k hk).1.push _⟩
      exact (W X.A hr.hd).frame _ _ _ h0 fun b hb u e => hx b u (notP b hb) e
    · intro b hb
      show b < h3.objs.size
      rcases List.mem_cons.mp hb with z | z
      · rw [z]
        exact sz3
      · rcases List.mem_cons.mp z with z | z
        · rw [z]
          exact Nat.lt_trans hlt sz3
        · obtain ⟨j, hj, e⟩ := List.mem_map.mp z
          rw [← e]
          exact Nat.lt_trans (hTlt j (List.mem_range.mp hj)) sz3
    · intro z
      rcases List.mem_cons.mp z with z | z
      · exact Nat.ne_of_lt hcl z
      · cases z
    · intro href hhref
      refine ⟨fun A' E' i va vb s₂ m₂ hA hPv hn hma hmb hk => ?_, fun A' E' i va vb s₂ m₂ hA hPv hp hn hma hmb hk => ?_⟩
      · simp only [List.forIn_nil]
        exact wpAny_pure ⟨rfl, GxR.keeps_refl _⟩
      · obtain ⟨hi', ev⟩ := hPv
        obtain ⟨_, t, u, q, hq, e⟩ := hvals i hi'
        rw [e] at ev
        obtain ⟨rfl, rfl⟩ : va = .int q.1 t ∧ vb = .int q.2 u := by simpa using congrArg Array.toList ev
        exact wpAny_mono (hel _ A' E' q.1 q.2 t u s₂ m₂ rfl hA (hbd q (List.mem_of_getElem? hq)) hn hma hmb) (fun y s3 r => ⟨let ⟨v, hv⟩ := r.1; ⟨q, v, hq, hv⟩, r.2⟩) fun _ _ e => e
    · intro g h5 tk5 gs hgb hag hsz5 hk5 W5 hat
      simp only [GxR.passing_true, List.length_range] at W5
      rw [hlen] at W5 hat
      refine hQ qs H1 g _ q1 ⟨_, _, _, _, _, W5.in4_1, hat, ?_, ?_, fun s' hm => ?_⟩
      · intro b hb
        show b < h5.objs.size
        have hag' : h3.objs.size < g := hag
        rcases List.mem_cons.mp hb with z | z
        · rw [z, hsz5]
          exact Nat.lt_succ_self _
        · rcases List.mem_cons.mp z with z | z
          · rw [z, hsz5]
            exact Nat.lt_succ_of_lt hag'
          · rw [hsz5]
            exact Nat.lt_succ_of_lt (Nat.lt_trans (List.mem_range.mp z) hag')
      · intro j y hy
        obtain ⟨i, hij, q, t, hq, rfl⟩ := hy
        obtain ⟨hj, ej⟩ := List.getElem?_eq_some_iff.mp hij
        rw [List.getElem_range] at ej
        subst ej
        exact ⟨t, by rw [List.getD_eq_getElem?_getD, List.getElem?_map, hq]; rfl⟩
      · obtain ⟨more, em⟩ := hmore
        have nwr : ∀ b u, s1.heap.get? b = some u → b ∉ h3.objs.size :: [s1.heap.objs.size] := fun b u e hb => by
          have hl := Heap.lt_size e
          rcases List.mem_cons.mp hb with z | z
          · rw [z] at hl
            have h9 : (h3.objs.size : Nat) < s1.heap.objs.size := hl
            omega
          · rcases List.mem_cons.mp z with z | z
            · rw [z] at hl
              exact Nat.lt_irrefl _ hl
            · cases z
        have J := GxR.inv_tab (more := more) (h' := s'.heap) (g' := s'.gens) (d' := s'.drawn) (t' := s'.toks) I1 hP (fun b u hb e => hm.heap b u (nwr b u e) (hk5 b u (keep3 b u hb e)))
          (by rw [← em]; exact hm.heap P _ (nwr P _ hPs) (hk5 P _ hP3)) (AllBare.movedS (I1.bare.push hgb) hm)
        rw [GxR.sh_eta s1 s' hm.os] at J
        refine ⟨upd H1 P (.tbl (ps ++ more)), ⟨⟨ps ++ more, upd_same, by rw [← em]; exact ht3⟩, fun b hb => upd_ne hb⟩, J⟩
  refine ⟨lim2, ?_⟩
  cases hf : codeAmong gpos ps.toList with
  | none =>
    refine wpAny_genexprCodeX hcode (cd.code hP2 ht) (cd.tab hP2) hf fun c' h' tk hx hge hlt hco' _ htab' _ => ?_
    obtain ⟨o1, vs, f1, tf, fl, tg, inF, tx, tt, op, _, _, _, _, _, _, _, _, _, htr, _⟩ := hco'
    exact cont _ h' tk _ hx (Nat.le_trans hge (Nat.le_of_lt hlt)) htab'.2 ⟨_, rfl⟩ htr
  | some cv =>
    refine wpAny_genexprCode_hit hcode (cd.code hP2 ht) hf ?_
    exact cont cv (s1.heap.push o) s1.toks ps (Heap.ExtBut.refl _ _) (Nat.le_refl _) hP2 ⟨#[], by simp⟩ ht
/-- sum(elt for a, b in e), e a list of pairs of ints -/
def tSumP (K : PySem.W.Frag) (T : Tb) (P : Addr) (f : Int → Int → Int) (te : TE) : TE := fun σ H Q => te σ H fun v H1 => ∃ (a : Addr) (qs : List (Int × Int)), v = .ref a ∧ Pairs K H1 a qs ∧ (∀ q ∈ qs, -(2 ^ 64) < q.1 ∧ q.1 < 2 ^ 64) ∧ GxR.TabG H1 P ∧
  ((Ok T H1 ∧ ∀ j, j < qs.length → InLong ((qs.map fun (q : Int × Int) => f q.1 q.2).getD j 0) ∧ InLong (((qs.map fun (q : Int × Int) => f q.1 q.2).take (j + 1)).sum)) ∧ ∀ H2, Sm T H1 H2 → Q (.int (qs.map fun (q : Int × Int) => f q.1 q.2).sum) H2)
theorem pe_sumP {T : Tb} {c P : Addr} {elt iter : Expr} {xa xb : Str} {pa pb pt p pos gpos : Pos} {kt : Nat} {scope : Scope} {f : Int → Int → Int} {te : TE} {k : Nat} (hn : (T.map (·.1)).Nodup) (hPT : (P, (none : Option Str)) ∈ T)
    (hr : Room k X.A) (hg : Gl X "sum") (hm : X.mg "sum" = none) (hb : bootBuiltins "sum" = some (.builtin "sum")) (TB : GxR.TabB X.base X.mg c P) (hcode : X.env.code = .ref c) (S : GxR.GenS X.env scope xa) (hxb : scope.names.lookup xb = some .local) (hab : xa ≠ xb) (hi : PE X iter te) (hel : EltP X scope xa xb elt f)
    (hs : ∀ v, genFold iter X.env v = pure v)
    (he : starEach [.GeneratorExp elt [⟨.Tuple [.Name xa pa, .Name xb pb] kt pt, iter, [], 0⟩] scope gpos] X.env = (false, eval (.GeneratorExp elt [⟨.Tuple [.Name xa pa, .Name xb pb] kt pt, iter, [], 0⟩] scope gpos) X.env) :: starEach [] X.env := by rfl) :
    PE X (.Call (.Name "sum" p) [.GeneratorExp elt [⟨.Tuple [.Name xa pa, .Name xb pb] kt pt, iter, [], 0⟩] scope gpos] [] pos) (tSumP X.K T P f te) := by
  refine ⟨fun pins s σ H Q I h => ?_⟩
  refine wpAny_Call_Name_kw (ld_blt I hg hm hb ?_)
  refine PyProof.Rows.callWith_builtin1 ?_ he (by rfl)
  rw [he]
  show wpAny _ _ (spliced ((false, eval (.GeneratorExp elt [⟨.Tuple [.Name xa pa, .Name xb pb] kt pt, iter, [], 0⟩] scope gpos) X.env) :: backTo pos (starEach [] X.env))) _ _ s
  refine Calls.spliced_cons (gen_pairs (R := fun qs H1 => (Ok T H1 ∧ ∀ j, j < qs.length → InLong ((qs.map fun (q : Int × Int) => f q.1 q.2).getD j 0) ∧ InLong (((qs.map fun (q : Int × Int) => f q.1 q.2).take (j + 1)).sum)) ∧ ∀ H2, Sm T H1 H2 → Q (.int (qs.map fun (q : Int × Int) => f q.1 q.2).sum) H2) hr TB hcode S hxb hab hi hel hs I h fun qs H1 g s5 hR hG => ?_)
  obtain ⟨fp, wr, G, F, St, W, hst, hfp, hval, hI⟩ := hG
  refine Calls.spliced_nil ?_
  refine call_sum_walkS (W.self 0 _ _ _ hst ⟨g, fp, wr, G, _, F, St, (fun i => (qs.map fun (q : Int × Int) => f q.1 q.2).getD i 0), rfl, W, hst, hfp, hval, fun j hj => ⟨(hR.1.2 j hj).1, by rw [preSum_getD]; exact (hR.1.2 j hj).2⟩, fun s' t' hmv => ?_⟩)
  obtain ⟨H2, hT, J⟩ := hI s' hmv
  refine ⟨.int _, H2, J, ⟨t', rfl⟩, ?_⟩
  rw [preSum_getD, show qs.length = (qs.map fun (q : Int × Int) => f q.1 q.2).length by rw [List.length_map], List.take_length]
  exact hR.2 H2 (sm_tabbed hn hPT (hR.1.1 _ hPT) hT)
end
def genB (scope : Scope) (x : Str) : Bool := decide (scope.kind = .function) && !scope.isCoroutine && (scope.names.all fun y => !decide (y.2 = .cell) && !decide (y.2 = .free)) && decide (scope.names.lookup (".0" : Str) = some .local) && decide (scope.names.lookup x = some .local)
theorem gens_by {env : Env} {scope : Scope} {x : Str} (h : genB scope x = true) : GxR.GenS env scope x := by
  unfold genB at h
  simp only [Bool.and_eq_true, Bool.not_eq_true', decide_eq_true_eq, decide_eq_false_iff_not, List.all_eq_true] at h
  obtain ⟨⟨⟨⟨h1, h2⟩, h3⟩, h4⟩, h5⟩ := h
  exact ⟨h1, h2, fun y hy => (h3 y hy).1, h4, h5, fun y hy e => absurd e (h3 y hy).2⟩

/-! ### sum over a tuple of pairs -/
theorem walksU_tup {prog : Program} {w : World} {A : Around} (hd0 : A.handled = none) (J tp : Addr) (hJ : tp ≠ J) (its : Array Value) (Ts : Nat → Addr) (vals : Nat → Array Value)
    (ht : ∀ j, j < its.size → its[j]? = some (.ref (Ts j))) (hn : ∀ j, j < its.size → Ts j ≠ J) :
    WalksU prog w A J (J :: tp :: (List.range its.size).map Ts) [J] its.size (fun j v => v = vals j)
      (fun j h => h.IsTupleIter J tp j ∧ h.IsTuple tp its ∧ ∀ n, n < its.size → h.IsTuple (Ts n) (vals n))
      (fun j Tt h => (j < its.size ∧ Tt = Ts j) ∧ h.IsTupleIter J tp (j + 1) ∧ h.IsTuple tp its ∧ ∀ n, n < its.size → h.IsTuple (Ts n) (vals n)) where
  sub := fun d hd => by
    rw [List.mem_singleton.mp hd]
    exact List.mem_cons_self
  frame := fun _ _ _ q hk => by
    refine ⟨q.1.at fun o e => hk J (by simp) o e, q.2.1.at fun o e => hk tp (by simp) o e, fun n hn' => (q.2.2 n hn').at fun o e => hk (Ts n) ?_ o e⟩
    exact List.mem_cons_of_mem _ (List.mem_cons_of_mem _ (List.mem_map.mpr ⟨n, List.mem_range.mpr hn', rfl⟩))
  item := fun i s Q E hi q hQ => by
    refine wpAny_pyNext_tuple_item q.1 q.2.1 (x := .ref (Ts i)) (ht i hi) fun h' q' b => ?_
    have all' : ∀ n, n < its.size → h'.IsTuple (Ts n) (vals n) := fun n hn' => (q.2.2 n hn').extBut b.extBut (hn n hn')
    refine hQ (Ts i) (vals i) h' s.toks rfl (all' i hi) ⟨⟨hi, rfl⟩, q', q.2.1.extBut b.extBut hJ, all'⟩ fun d o hd e => ?_
    exact b.extBut d o (fun z => hd (by simp [z])) e
  go := fun _ _ _ _ _ s Q _ hm hQ => by
    obtain ⟨o, ho, hc, hd⟩ := hm.2.1
    exact go_of ho hc hd (by decide) (hQ s.heap hm.2 fun _ _ _ e => e)
  apart := fun j Tt _ hm hmem => by
    have e := List.mem_singleton.mp hmem
    exact hn j hm.1.1 (hm.1.2 ▸ e)
  done := fun s Q E q hQ => wpAny_pyNext_tuple_end hd0 q.1 q.2.1 (by simp) fun h' b => hQ h' s.toks fun d o hd e => b d o (fun z => hd (by simp [z])) e
  self := fun _ _ _ _ q hQ => wpAny_pyIter_tupleiter q.1 hQ
section
variable {X : Cx} {pins : List (Addr × Obj)} {σ : L2.St} {H : Hp} {s : Shared}
/-- a tuple of pairs of ints -/
def PairsT (K : PySem.W.Frag) (H : Hp) (a : Addr) (ps : List (Int × Int)) : Prop := ∃ vs : List V, SqT K H a vs ∧ vs.length = ps.length ∧ ∀ (i : Nat) (p : Int × Int), ps[i]? = some p → ∃ b, vs[i]? = some (.ref b) ∧ SqT K H b [.int p.1, .int p.2]
theorem PairsT.keep {T : Tb} {K : PySem.W.Frag} {H H' : Hp} {a : Addr} {ps : List (Int × Int)} (h : PairsT K H a ps) (s : Sm T H H') : PairsT K H' a ps := by
  obtain ⟨vs, h1, h2, h3⟩ := h
  refine ⟨vs, same_tup s h1, h2, fun i p e => ?_⟩
  obtain ⟨b, e1, e2⟩ := h3 i p e
  exact ⟨b, e1, same_tup s e2⟩
theorem gen_pairsT {c P : Addr} {elt iter : Expr} {xa xb : Str} {pa pb pt gpos : Pos} {kt : Nat} {scope : Scope} {f : Int → Int → Int} {te : TE} {k : Nat} {Q' : Value → Shared → Prop} {R : List (Int × Int) → Hp → Prop}
    (hr : Room k X.A) (TB : GxR.TabB X.base X.mg c P) (hcode : X.env.code = .ref c) (S : GxR.GenS X.env scope xa) (hxb : scope.names.lookup xb = some .local) (hab : xa ≠ xb) (hi : PE X iter te) (hel : EltP X scope xa xb elt f)
    (hs : ∀ v, genFold iter X.env v = pure v) (I : Inv X pins σ H s) (h : te σ H fun v H1 => ∃ (a : Addr) (qs : List (Int × Int)), v = .ref a ∧ PairsT X.K H1 a qs ∧ (∀ q ∈ qs, -(2 ^ 64) < q.1 ∧ q.1 < 2 ^ 64) ∧ GxR.TabG H1 P ∧ R qs H1)
    (hQ : ∀ qs H1 g s5, R qs H1 → (∃ (fp wr : List Addr) (G : Array GenState → Array GenState → Prop) (F : Nat → Value → Prop) (St : Nat → Shared → Prop),
      WalksS X.prog X.w X.A.in1 g fp wr G qs.length F St ∧ St 0 s5 ∧ (∀ b ∈ fp, b < s5.heap.objs.size) ∧ (∀ i v, F i v → ∃ t, v = .int ((qs.map fun (q : Int × Int) => f q.1 q.2).getD i 0) t) ∧ ∀ s', Moved wr G s5 s' → ∃ H2, GxR.Tabbed P H1 H2 ∧ Inv X pins σ H2 s') → Q' (.ref g) s5) :
    wpAny (model X.prog X.w) X.A (eval (.GeneratorExp elt [⟨.Tuple [.Name xa pa, .Name xb pb] kt pt, iter, [], 0⟩] scope gpos) X.env) Q' X.xe s := by
  refine wpAny_GeneratorExp_walksQT hr.hd S.co (closure_ok S.free) S.cell S.dot S.loc hxb hab S.kind (by have := hr.dp; omega) ?_ hs
  refine thn (hi.run pins s σ H _ I h) fun xv s1 ⟨v, H1, I1, r1, q1⟩ => ?_
  obtain ⟨a, qs, rfl, ⟨vs, hS, hvl, hvp⟩, hbd, ⟨ps, hP, ht⟩, q1⟩ := q1
  cases r1
  obtain ⟨its, rv, ⟨o0, ho0, hc0, n0, hd0⟩, hz⟩ := I1.tuple hS
  have hL : s1.heap.IsTuple a its.toArray := ⟨o0, ho0, hc0, n0, hd0⟩
  have hlt : a < s1.heap.objs.size := Heap.lt_size ho0
  have hlen : its.toArray.size = qs.length := by rw [List.size_toArray, ← rv.length, hvl]
  have hpair : ∀ j, j < its.toArray.size → ∃ (b : Addr) (t u : Tok) (q : Int × Int), qs[j]? = some q ∧ its.toArray[j]? = some (.ref b) ∧ s1.heap.IsTuple b #[.int q.1 t, .int q.2 u] := fun j hj => by
    have hj' : j < qs.length := by rw [← hlen]; exact hj
    obtain ⟨b, e1, e2⟩ := hvp j _ (List.getElem?_eq_getElem hj')
    obtain ⟨u', hu, ru⟩ := rv.get e1
    obtain rfl : u' = Value.ref b := ru
    obtain ⟨its2, rv2, ⟨o2, ho2, hc2, n2, hd2⟩, _⟩ := I1.tuple e2
    cases rv2 with
    | cons r1 rr =>
      cases rr with
      | cons r2 rn =>
        cases rn
        obtain ⟨t1, rfl⟩ := r1
        obtain ⟨t2, rfl⟩ := r2
        exact ⟨b, t1, t2, qs[j], List.getElem?_eq_getElem hj', by simpa using hu, ⟨o2, ho2, hc2, n2, hd2⟩⟩
  refine wpAny_pyIter_tuple hL ?_
  have hPs : s1.heap.get? P = some { cls := .none, data := .fields ps } := I1.hok P _ hP
  have hPlt : P < s1.heap.objs.size := Heap.lt_size hPs
  let o : Obj := { cls := .type "tuple_iterator", data := .fields #[.ref a, .int 0 0] }
  show (s1.heap.push o).NoLimit ∧ _
  have hP2 : (s1.heap.push o).get? P = some { cls := .none, data := .fields ps } := Heap.get?_push_of_some _ hPs
  have cd : PySem.W.CodeHd (s1.heap.push o) c P := TB.code.keeps fun b u e => Heap.get?_push_of_some _ (I1.bk b u e)
  have lim2 : (s1.heap.push o).NoLimit := I1.nolimit.push o
  let Ts : Nat → Addr := fun j => match its.toArray[j]? with | some (.ref b) => b | _ => 0
  have hTs : ∀ j, j < its.toArray.size → its.toArray[j]? = some (.ref (Ts j)) := fun j hj => by
    obtain ⟨b, t, u, q, _, e, _⟩ := hpair j hj
    show _ = some (Value.ref (match its.toArray[j]? with | some (.ref b) => b | _ => 0))
    rw [e]
  have hvals : ∃ vals : Nat → Array Value, ∀ j, j < its.toArray.size → s1.heap.IsTuple (Ts j) (vals j) ∧ ∃ (t u : Tok) (q : Int × Int), qs[j]? = some q ∧ vals j = #[.int q.1 t, .int q.2 u] := by
    have : ∀ j, ∃ va : Array Value, j < its.toArray.size → s1.heap.IsTuple (Ts j) va ∧ ∃ (t u : Tok) (q : Int × Int), qs[j]? = some q ∧ va = #[.int q.1 t, .int q.2 u] := fun j => by
      by_cases hj : j < its.toArray.size
      · obtain ⟨b, t, u, q, e1, e, e2⟩ := hpair j hj
        have eb : Ts j = b := by
          have := hTs j hj
          rw [e] at this
          cases this
          rfl
        exact ⟨_, fun _ => ⟨by rw [eb]; exact e2, t, u, q, e1, rfl⟩⟩
      · exact ⟨#[], fun z => absurd z hj⟩
    exact ⟨fun j => Classical.choose (this j), fun j hj => Classical.choose_spec (this j) hj⟩
  obtain ⟨vals, hvals⟩ := hvals
  have hTlt : ∀ j, j < its.toArray.size → Ts j < s1.heap.objs.size := fun j hj => by
    obtain ⟨⟨o', ho', _⟩, _⟩ := hvals j hj
    exact Heap.lt_size ho'
  have W : ∀ A' : Around, A'.handled = none → WalksU X.prog X.w A' s1.heap.objs.size (s1.heap.objs.size :: a :: (List.range its.toArray.size).map Ts) [s1.heap.objs.size] its.toArray.size (fun j v => j < its.toArray.size ∧ v = vals j) _ _ :=
    fun A' hA => (walksU_tup (prog := X.prog) (w := X.w) hA s1.heap.objs.size a (Nat.ne_of_lt hlt) its.toArray Ts vals hTs (fun j hj => Nat.ne_of_lt (hTlt j hj))).bound
  have notP : ∀ b, b ∈ s1.heap.objs.size :: a :: (List.range its.toArray.size).map Ts → b ≠ P := fun b hb z => by
    rcases List.mem_cons.mp hb with z2 | z2
    · exact Nat.ne_of_lt hPlt (z.symm.trans z2)
    · rcases List.mem_cons.mp z2 with z2 | z2
      · rw [← z, z2, ho0] at hPs
        cases hPs
        cases hc0
      · obtain ⟨j, hj, e⟩ := List.mem_map.mp z2
        obtain ⟨⟨o', ho', hc', _⟩, _⟩ := hvals j (List.mem_range.mp hj)
        rw [e, z, hPs] at ho'
        cases ho'
        cases hc'
  have cont : ∀ (code : Value) (h3 : Heap) (tk : Nat) (ps' : Array Value), Heap.ExtBut P (s1.heap.push o) h3 → (s1.heap.push o).objs.size ≤ h3.objs.size → h3.get? P = some { cls := .none, data := .fields ps' } → (∃ more, ps' = ps ++ more) → TriplesOk ps'.toList →
      wpAny (model X.prog X.w) X.A (builtinsFor X.env.globals X.env.builtins) (fun bi s₄ =>
        ∃ Ia fp wr n₀ Pt St₀ Mid pz F, Value.ref s1.heap.objs.size = .ref Ia ∧ (∀ A' : Around, A'.handled = none → WalksU X.prog X.w A' Ia fp wr n₀ Pt St₀ Mid) ∧ (∀ i vals, Pt i vals → ∃ va vb, vals = #[va, vb]) ∧ St₀ 0 s₄.heap ∧ (∀ b ∈ fp, b < s₄.heap.objs.size) ∧ s₄.heap.NoLimit ∧ cStatics ∉ wr ∧
          (∀ href : Heap, (∀ b o, s₄.heap.get? b = some o → href.get? b = some o) →
            QuietGenT X.prog X.w (genEnv scope (cloFrom X.env.cells scope.names []) s₄.heap.objs.size code bi X.env) xa xb [] elt (List.range s₄.heap.objs.size) wr Pt pz F href) ∧
          (∀ a h₅ tk gs, gs.bare = true → s₄.heap.objs.size < a → h₅.objs.size = a + 1 → (∀ b o, s₄.heap.get? b = some o → h₅.get? b = some o) →
            WalksS X.prog X.w X.A.in4 a (a :: s₄.heap.objs.size :: List.range s₄.heap.objs.size) (s₄.heap.objs.size :: wr) (GenOnlyQ s₄.gens.size) (passing pz n₀ 0).length
              (fun j y => ∃ i, (passing pz n₀ 0)[j]? = some i ∧ F i y) (GenAt X.prog X.w X.A.in4 a s₄.gens.size s₄.heap.objs.size (List.range s₄.heap.objs.size) wr pz n₀ F) →
            GenAt X.prog X.w X.A.in4 a s₄.gens.size s₄.heap.objs.size (List.range s₄.heap.objs.size) wr pz n₀ F 0 { s₄ with gens := s₄.gens.push gs, toks := tk, heap := h₅ } →
            Q' (.ref a) { s₄ with gens := s₄.gens.push gs, toks := tk, heap := h₅ })) X.xe { s1 with heap := h3, toks := tk } := by
    intro code h3 tk ps' hx hsz hP3 hmore ht3
    obtain ⟨bm, ob, e1, e2, e3, e4, e5, e6, e7, e8⟩ := TB.bm
    have hcP : cStatics ≠ P := fun e => by
      obtain ⟨_, hns, _⟩ := I1.nolimit
      obtain ⟨o', es, ep, ho, hd, _⟩ := hns
      rw [e, hPs] at ho
      cases ho
      cases hd
    have hcl : cStatics < s1.heap.objs.size := let ⟨_, hns, _⟩ := I1.nolimit; hns.lt
    have sz2 : (s1.heap.push o).objs.size = s1.heap.objs.size + 1 := Heap.size_push ..
    have sz3 : s1.heap.objs.size + 1 ≤ h3.objs.size := by rw [← sz2]; exact hsz
    have keep3 : ∀ b u, b ≠ P → s1.heap.get? b = some u → h3.get? b = some u := fun b u hb e => hx b u hb (Heap.get?_push_of_some _ e)
    have glob3 : h3.Ns X.env.globals X.mg := by rw [I1.ok.glob]; exact ((I1.mod.glob.keeps I1.bk).push o).extBut hx TB.gP
    refine wpAny_builtinsFor (m := X.mg) glob3 e1 e2 (keep3 _ _ e4 (I1.bk _ _ e5)) e6 e7 e8 ?_
    refine ⟨s1.heap.objs.size, _, [s1.heap.objs.size], its.toArray.size, _, _, _, (fun _ => true), (fun i y => ∃ q t, qs[i]? = some q ∧ y = .int (f q.1 q.2) t), rfl, W, ?_, ?_, ?_, lim2.extBut hx hcP, ?_, ?_, ?_⟩
    · rintro i va ⟨hi', rfl⟩
      obtain ⟨_, t, u, q, _, e⟩ := hvals i hi'
      exact ⟨_, _, e⟩
    · have h0 : (s1.heap.push o).IsTupleIter s1.heap.objs.size a 0 ∧ (s1.heap.push o).IsTuple a its.toArray ∧ ∀ k, k < its.toArray.size → (s1.heap.push o).IsTuple (Ts k) (vals k) :=
        ⟨⟨_, Heap.get?_push_size _ rfl, rfl, rfl⟩, hL.push _, fun k hk => (hvals k hk).1.push _⟩
      exact (W X.A hr.hd).frame _ _ _ h0 fun b hb u e => hx b u (notP b hb) e
    · intro b hb
      show b < h3.objs.size
      rcases List.mem_cons.mp hb with z | z
      · rw [z]
        exact sz3
      · rcases List.mem_cons.mp z with z | z
        · rw [z]
          exact Nat.lt_trans hlt sz3
        · obtain ⟨j, hj, e⟩ := List.mem_map.mp z
          rw [← e]
          exact Nat.lt_trans (hTlt j (List.mem_range.mp hj)) sz3
    · intro z
      rcases List.mem_cons.mp z with z | z
      · exact Nat.ne_of_lt hcl z
      · cases z
    · intro href hhref
      refine ⟨fun A' E' i va vb s₂ m₂ hA hPv hn hma hmb hk => ?_, fun A' E' i va vb s₂ m₂ hA hPv hp hn hma hmb hk => ?_⟩
      · simp only [List.forIn_nil]
        exact wpAny_pure ⟨rfl, GxR.keeps_refl _⟩
      · obtain ⟨hi', ev⟩ := hPv
        obtain ⟨_, t, u, q, hq, e⟩ := hvals i hi'
        rw [e] at ev
        obtain ⟨rfl, rfl⟩ : va = .int q.1 t ∧ vb = .int q.2 u := by simpa using congrArg Array.toList ev
        exact wpAny_mono (hel _ A' E' q.1 q.2 t u s₂ m₂ rfl hA (hbd q (List.mem_of_getElem? hq)) hn hma hmb) (fun y s3 r => ⟨let ⟨v, hv⟩ := r.1; ⟨q, v, hq, hv⟩, r.2⟩) fun _ _ e => e
    · intro g h5 tk5 gs hgb hag hsz5 hk5 W5 hat
      simp only [GxR.passing_true, List.length_range] at W5
      rw [hlen] at W5 hat
      refine hQ qs H1 g _ q1 ⟨_, _, _, _, _, W5.in4_1, hat, ?_, ?_, fun s' hm => ?_⟩
      · intro b hb
        show b < h5.objs.size
        have hag' : h3.objs.size < g := hag
        rcases List.mem_cons.mp hb with z | z
        · rw [z, hsz5]
          exact Nat.lt_succ_self _
        · rcases List.mem_cons.mp z with z | z
          · rw [z, hsz5]
            exact Nat.lt_succ_of_lt hag'
          · rw [hsz5]
            exact Nat.lt_succ_of_lt (Nat.lt_trans (List.mem_range.mp z) hag')
      · intro j y hy
        obtain ⟨i, hij, q, t, hq, rfl⟩ := hy
        obtain ⟨hj, ej⟩ := List.getElem?_eq_some_iff.mp hij
        rw [List.getElem_range] at ej
        subst ej
        exact ⟨t, by rw [List.getD_eq_getElem?_getD, List.getElem?_map, hq]; rfl⟩
      · obtain ⟨more, em⟩ := hmore
        have nwr : ∀ b u, s1.heap.get? b = some u → b ∉ h3.objs.size :: [s1.heap.objs.size] := fun b u e hb => by
          have hl := Heap.lt_size e
          rcases List.mem_cons.mp hb with z | z
          · rw [z] at hl
            have h9 : (h3.objs.size : Nat) < s1.heap.objs.size := hl
            omega
          · rcases List.mem_cons.mp z with z | z
            · rw [z] at hl
              exact Nat.lt_irrefl _ hl
            · cases z
        have J := GxR.inv_tab (more := more) (h' := s'.heap) (g' := s'.gens) (d' := s'.drawn) (t' := s'.toks) I1 hP (fun b u hb e => hm.heap b u (nwr b u e) (hk5 b u (keep3 b u hb e)))
          (by rw [← em]; exact hm.heap P _ (nwr P _ hPs) (hk5 P _ hP3)) (AllBare.movedS (I1.bare.push hgb) hm)
        rw [GxR.sh_eta s1 s' hm.os] at J
        refine ⟨upd H1 P (.tbl (ps ++ more)), ⟨⟨ps ++ more, upd_same, by rw [← em]; exact ht3⟩, fun b hb => upd_ne hb⟩, J⟩
  refine ⟨lim2, ?_⟩
  cases hf : codeAmong gpos ps.toList with
  | none =>
    refine wpAny_genexprCodeX hcode (cd.code hP2 ht) (cd.tab hP2) hf fun c' h' tk hx hge hlt hco' _ htab' _ => ?_
    obtain ⟨o1, vs, f1, tf, fl, tg, inF, tx, tt, op, _, _, _, _, _, _, _, _, _, htr, _⟩ := hco'
    exact cont _ h' tk _ hx (Nat.le_trans hge (Nat.le_of_lt hlt)) htab'.2 ⟨_, rfl⟩ htr
  | some cv =>
    refine wpAny_genexprCode_hit hcode (cd.code hP2 ht) hf ?_
    exact cont cv (s1.heap.push o) s1.toks ps (Heap.ExtBut.refl _ _) (Nat.le_refl _) hP2 ⟨#[], by simp⟩ ht
/-- sum(elt for a, b in e), e a tuple of pairs of ints -/
def tSumPT (K : PySem.W.Frag) (T : Tb) (P : Addr) (f : Int → Int → Int) (te : TE) : TE := fun σ H Q => te σ H fun v H1 => ∃ (a : Addr) (qs : List (Int × Int)), v = .ref a ∧ PairsT K H1 a qs ∧ (∀ q ∈ qs, -(2 ^ 64) < q.1 ∧ q.1 < 2 ^ 64) ∧ GxR.TabG H1 P ∧
  ((Ok T H1 ∧ ∀ j, j < qs.length → InLong ((qs.map fun (q : Int × Int) => f q.1 q.2).getD j 0) ∧ InLong (((qs.map fun (q : Int × Int) => f q.1 q.2).take (j + 1)).sum)) ∧ ∀ H2, Sm T H1 H2 → Q (.int (qs.map fun (q : Int × Int) => f q.1 q.2).sum) H2)
theorem pe_sumPT {T : Tb} {c P : Addr} {elt iter : Expr} {xa xb : Str} {pa pb pt p pos gpos : Pos} {kt : Nat} {scope : Scope} {f : Int → Int → Int} {te : TE} {k : Nat} (hn : (T.map (·.1)).Nodup) (hPT : (P, (none : Option Str)) ∈ T)
    (hr : Room k X.A) (hg : Gl X "sum") (hm : X.mg "sum" = none) (hb : bootBuiltins "sum" = some (.builtin "sum")) (TB : GxR.TabB X.base X.mg c P) (hcode : X.env.code = .ref c) (S : GxR.GenS X.env scope xa) (hxb : scope.names.lookup xb = some .local) (hab : xa ≠ xb) (hi : PE X iter te) (hel : EltP X scope xa xb elt f)
    (hs : ∀ v, genFold iter X.env v = pure v)
    (he : starEach [.GeneratorExp elt [⟨.Tuple [.Name xa pa, .Name xb pb] kt pt, iter, [], 0⟩] scope gpos] X.env = (false, eval (.GeneratorExp elt [⟨.Tuple [.Name xa pa, .Name xb pb] kt pt, iter, [], 0⟩] scope gpos) X.env) :: starEach [] X.env := by rfl) :
    PE X (.Call (.Name "sum" p) [.GeneratorExp elt [⟨.Tuple [.Name xa pa, .Name xb pb] kt pt, iter, [], 0⟩] scope gpos] [] pos) (tSumPT X.K T P f te) := by
  refine ⟨fun pins s σ H Q I h => ?_⟩
  refine wpAny_Call_Name_kw (ld_blt I hg hm hb ?_)
  refine PyProof.Rows.callWith_builtin1 ?_ he (by rfl)
  rw [he]
  show wpAny _ _ (spliced ((false, eval (.GeneratorExp elt [⟨.Tuple [.Name xa pa, .Name xb pb] kt pt, iter, [], 0⟩] scope gpos) X.env) :: backTo pos (starEach [] X.env))) _ _ s
  refine Calls.spliced_cons (gen_pairsT (R := fun qs H1 => (Ok T H1 ∧ ∀ j, j < qs.length → InLong ((qs.map fun (q : Int × Int) => f q.1 q.2).getD j 0) ∧ InLong (((qs.map fun (q : Int × Int) => f q.1 q.2).take (j + 1)).sum)) ∧ ∀ H2, Sm T H1 H2 → Q (.int (qs.map fun (q : Int × Int) => f q.1 q.2).sum) H2) hr TB hcode S hxb hab hi hel hs I h fun qs H1 g s5 hR hG => ?_)
  obtain ⟨fp, wr, G, F, St, W, hst, hfp, hval, hI⟩ := hG
  refine Calls.spliced_nil ?_
  refine call_sum_walkS (W.self 0 _ _ _ hst ⟨g, fp, wr, G, _, F, St, (fun i => (qs.map fun (q : Int × Int) => f q.1 q.2).getD i 0), rfl, W, hst, hfp, hval, fun j hj => ⟨(hR.1.2 j hj).1, by rw [preSum_getD]; exact (hR.1.2 j hj).2⟩, fun s' t' hmv => ?_⟩)
  obtain ⟨H2, hT, J⟩ := hI s' hmv
  refine ⟨.int _, H2, J, ⟨t', rfl⟩, ?_⟩
  rw [preSum_getD, show qs.length = (qs.map fun (q : Int × Int) => f q.1 q.2).length by rw [List.length_map], List.take_length]
  exact hR.2 H2 (sm_tabbed hn hPT (hR.1.1 _ hPT) hT)
end

/-! ### elements of generator expressions, in the model's own words -/
section
variable {X : Cx} {scope : Scope} {xa xb : Str} {p1 p2 p3 : Pos}
theorem ldl {M : Model} {s : Shared} {env : Env} {m : Str → Option Value} {x : Str} {pos : Pos} {v : Value} {Q : Value → Shared → Prop} {A : Around} {E : Value → Shared → Prop} (hk : env.scope.kind = .function) (hl : env.kindOf x = some .local) (hn : s.heap.Ns env.locals m) (hv : m x = some v) (h : Q v s)
    (hd : (x == ("__debug__" : Str)) = false := by decide) : wpAny M A (eval (.Name x pos) env) Q E s := wpAny_Name (wpAny_loadName_local hk hl hn hv h) hd
theorem elt_first (hk : scope.kind = .function) (hl : scope.names.lookup xa = some .local) (hd : (xa == ("__debug__" : Str)) = false := by decide) : EltP X scope xa xb (.Name xa p1) (fun i _ => i) := by
  intro cenv A' E' i j t u s₂ m₂ hs hA hb hn hma hmb
  exact ldl (by rw [hs]; exact hk) (show cenv.scope.names.lookup xa = some .local by rw [hs]; exact hl) hn hma ⟨⟨t, rfl⟩, GxR.keeps_refl _⟩ hd
theorem elt_mul (hk : scope.kind = .function) (hl : scope.names.lookup xa = some .local) (hl2 : scope.names.lookup xb = some .local) (hd : (xa == ("__debug__" : Str)) = false := by decide) (hd2 : (xb == ("__debug__" : Str)) = false := by decide) :
    EltP X scope xa xb (.BinOp (.Name xa p1) .Mult (.Name xb p2) p3) (fun i j => i * j) := by
  intro cenv A' E' i j t u s₂ m₂ hs hA hb hn hma hmb
  refine wpAny_BinOp ?_
  refine ldl (by rw [hs]; exact hk) (show cenv.scope.names.lookup xa = some .local by rw [hs]; exact hl) hn hma ?_ hd
  refine ldl (by rw [hs]; exact hk) (show cenv.scope.names.lookup xb = some .local by rw [hs]; exact hl2) hn hmb ?_ hd2
  exact mul_int ⟨⟨_, rfl⟩, GxR.keeps_tok _ _⟩ (show CMul i j from .inl hb).ok
end
/-- isinstance(x, T) of an int at the name x -/
theorem isi_int {prog : Program} {w : World} {K : PySem.W.Frag} {A : Around} {E : Value → Shared → Prop} {s : Shared} {env : Env} {m mg mb : Str → Option Value} {x T : Str} {Ts : String} {i : Int} {t : Tok} {b : Bool} {q1 q2 q3 q4 : Pos} {Q : Value → Shared → Prop}
    (KX : K.In s.heap) (hk : env.scope.kind = .function) (hl : env.kindOf x = some .local) (hn : s.heap.Ns env.locals m) (hv : m x = some (.int i t)) (hg : s.heap.Ns env.globals mg) (hb : s.heap.Ns env.builtins mb) (hbb : ∀ y : Str, y ≠ "__name__" → mb y = bootBuiltins y)
    (gi : env.kindOf "isinstance" = some .globalImplicit) (gT : env.kindOf T = some .globalImplicit) (mi : mg "isinstance" = none) (mT : mg T = none) (hT : bootBuiltins T = some (.type Ts)) (hTn : T ≠ "__name__") (kt : kitB "int" Ts = some b)
    (h : ∀ tk, Q (.bool b) { s with toks := tk }) (hd : (x == ("__debug__" : Str)) = false) (hdT : (T == ("__debug__" : Str)) = false)
    (he1 : starEach [.Name x q2, .Name T q3] env = (false, eval (.Name x q2) env) :: starEach [.Name T q3] env := by rfl) (he2 : starEach [.Name T q3] env = [(false, eval (.Name T q3) env)] := by rfl) :
    wpAny (model prog w) A (eval (.Call (.Name "isinstance" q1) [.Name x q2, .Name T q3] [] q4) env) Q E s := by
  refine wpAny_Call_Name_kw (Calls.Name_function_global hk gi (Calls.loadGlobal_builtin hg mi hb ((hbb "isinstance" (by decide)).trans (by decide +kernel : bootBuiltins "isinstance" = some (.builtin "isinstance"))) ?_))
  refine PyProof.Rows.callWith_builtin1 ?_ he1 (by rw [he2]; rfl)
  rw [he1, he2]
  show wpAny _ _ (spliced ((false, eval (.Name x q2) env) :: (false, eval (.Name T q3) env) :: [])) _ _ s
  refine Calls.spliced_cons (ldl hk hl hn hv (Calls.spliced_cons (Calls.Name_function_global hk gT (Calls.loadGlobal_builtin hg mT hb ((hbb T hTn).trans hT) (Calls.spliced_nil ?_)) hdT)) hd)
  exact PySem.W.kia_one PySem.W.kitx_int KX True.intro (kit_ty kt) (fun z => nomatch z) h
/-- the text of is_number -/
def numBody (n0 n1 n2 n3 n4 n5 n6 n7 n8 n9 n10 : Pos) : List Stmt := [.Return (some (.BoolOp .And [.Call (.Name "isinstance" n0) [.Name "thing" n1, .Name "int" n2] [] n3, .UnaryOp .Not (.Call (.Name "isinstance" n4) [.Name "thing" n5, .Name "bool" n6] [] n7) n8] n9)) n10]
def numArgs (p : Pos) : Arguments := { posonlyargs := [], args := [{ arg := "thing", annotation := none, pos := p }], vararg := none, kwonlyargs := [], kw_defaults := [], kwarg := none, defaults := [] }
def numScope : Scope := { kind := .function, names := [(PySem.Str.ofString "thing", .local), (PySem.Str.ofString "isinstance", .globalImplicit), (PySem.Str.ofString "int", .globalImplicit), (PySem.Str.ofString "bool", .globalImplicit)], isGenerator := false, isCoroutine := false, more := [] }
/-- what of is_number's text the walk needs -/
def NumAt (K : PySem.W.Frag) (f : Addr) : Prop := ∃ (oc : Value) (od : Option Addr) (kV doc pm : Value) (an : Option Addr) (cdv ct : Value) (osl : Array (Option Value)) (p n0 n1 n2 n3 n4 n5 n6 n7 n8 n9 n10 : Pos),
  K.lookup f = some ⟨oc, od, .func (PySem.W.fnOf "is_number" "is_number" (numArgs p) (numBody n0 n1 n2 n3 n4 n5 n6 n7 n8 n9 n10) numScope .none kV doc pm an cdv ct), osl⟩ ∧ PySem.W.codeIn K cdv "is_number" = true
theorem num_call {prog : Program} {w : World} {K : PySem.W.Frag} {mg mb : Str → Option Value} {A : Around} {E : Value → Shared → Prop} {s : Shared} {f : Addr} {i : Int} {t : Tok} {Q : Value → Shared → Prop} (N : NumAt K f) (KX : K.In s.heap) (hlim : s.heap.NoLimit) (hg : s.heap.Ns mainGlobals mg)
    (hb : s.heap.Ns builtinsNs mb) (hbb : ∀ y : Str, y ≠ "__name__" → mb y = bootBuiltins y) (mi : mg "isinstance" = none) (m1 : mg "int" = none) (m2 : mg "bool" = none) (hroom : A.depth < recursionLimit) (hq : ∀ s', Keeps s s' → Q (.bool true) s') :
    wpAny (model prog w) A (call (.ref f) [.int i t]) Q E s := by
  obtain ⟨oc, od, kV, doc, pm, an, cdv, ct, osl, p, n0, n1, n2, n3, n4, n5, n6, n7, n8, n9, n10, lk, hcd⟩ := N
  refine wpAny_call ?_
  refine Att.call_fn (binds := [("thing", .int i t)]) KX hlim lk hcd hroom (BindsTo.of_eq (by first | rfl | with_unfolding_all rfl)) (by first | rfl | decide | with_unfolding_all rfl) (fun s₁ IC => ?_) rfl rfl rfl
  obtain ⟨h₁, tk₁, rfl⟩ := IC.toInCall.same
  have kp : ∀ b o, s.heap.get? b = some o → h₁.get? b = some o := IC.toInCall.keep
  have hn := IC.toInCall.ns
  show wpAny _ _ (execs _ _) _ _ _
  refine wpAny_execs_cons (wpAny_Return_some ?_)
  refine BoolOp_and ?_
  refine isi_int (mg := mg) (mb := mb) (b := true) (KX.keeps kp) rfl rfl hn (by first | rfl | with_unfolding_all rfl | kernel_rfl) (hg.keeps kp) (hb.keeps kp) hbb rfl rfl mi m1 (by decide +kernel : bootBuiltins "int" = some (.type "int")) (by decide) kb_int_int (fun tk => ?_) (by decide) (by decide)
  refine wpAny_truthy_bool ?_
  show wpAny _ _ (eval (.BoolOp .And [.UnaryOp .Not (.Call (.Name "isinstance" n4) [.Name "thing" n5, .Name "bool" n6] [] n7) n8] n9) _) _ _ _
  refine BoolOp_one (UnaryOp_ ?_)
  refine isi_int (mg := mg) (mb := mb) (b := false) (KX.keeps kp) rfl rfl hn (by first | rfl | with_unfolding_all rfl | kernel_rfl) (hg.keeps kp) (hb.keeps kp) hbb rfl rfl mi m2 (by decide +kernel : bootBuiltins "bool" = some (.type "bool")) (by decide) kb_int_bool (fun tk => ?_) (by decide) (by decide)
  refine not_of (wpAny_truthy_bool ?_)
  exact hq _ ⟨h₁, tk, rfl, kp⟩
/-- the text of is_within -/
def withBody (n0 n1 n2 n3 n4 n5 n6 n7 n8 : Pos) : List Stmt := [.Return (some (.BoolOp .And [.Call (.Name "is_number" n0) [.Name "thing" n1] [] n2, .Compare (.Name "least" n3) [.LtE, .LtE] [.Name "thing" n4, .Name "most" n5] n6] n7)) n8]
def withArgs (p1 p2 p3 : Pos) : Arguments := { posonlyargs := [], args := [{ arg := "thing", annotation := none, pos := p1 }, { arg := "least", annotation := none, pos := p2 }, { arg := "most", annotation := none, pos := p3 }], vararg := none, kwonlyargs := [], kw_defaults := [], kwarg := none, defaults := [] }
def withScope : Scope := { kind := .function, names := [(PySem.Str.ofString "thing", .local), (PySem.Str.ofString "least", .local), (PySem.Str.ofString "most", .local), (PySem.Str.ofString "is_number", .globalImplicit)], isGenerator := false, isCoroutine := false, more := [] }
def WithAt (K : PySem.W.Frag) (f : Addr) : Prop := ∃ (oc : Value) (od : Option Addr) (kV doc pm : Value) (an : Option Addr) (cdv ct : Value) (osl : Array (Option Value)) (p1 p2 p3 n0 n1 n2 n3 n4 n5 n6 n7 n8 : Pos),
  K.lookup f = some ⟨oc, od, .func (PySem.W.fnOf "is_within" "is_within" (withArgs p1 p2 p3) (withBody n0 n1 n2 n3 n4 n5 n6 n7 n8) withScope .none kV doc pm an cdv ct), osl⟩ ∧ PySem.W.codeIn K cdv "is_within" = true
theorem with_call {prog : Program} {w : World} {K : PySem.W.Frag} {mg mb : Str → Option Value} {A : Around} {E : Value → Shared → Prop} {s : Shared} {f fn : Addr} {i l n : Int} {t tl tn : Tok} {Q : Value → Shared → Prop} (Wt : WithAt K f) (N : NumAt K fn) (kN : PySem.W.keepIn K (.ref fn) = true) (gN : mg "is_number" = some (.ref fn)) (KX : K.In s.heap) (hlim : s.heap.NoLimit) (hg : s.heap.Ns mainGlobals mg)
    (hb : s.heap.Ns builtinsNs mb) (hbb : ∀ y : Str, y ≠ "__name__" → mb y = bootBuiltins y) (mi : mg "isinstance" = none) (m1 : mg "int" = none) (m2 : mg "bool" = none) (hroom : A.depth + 1 < recursionLimit) (hq : ∀ s', Keeps s s' → Q (.bool (decide (l ≤ i) && decide (i ≤ n))) s') :
    wpAny (model prog w) A (call (.ref f) [.int i t, .int l tl, .int n tn]) Q E s := by
  obtain ⟨oc, od, kV, doc, pm, an, cdv, ct, osl, p1, p2, p3, n0, n1, n2, n3, n4, n5, n6, n7, n8, lk, hcd⟩ := Wt
  refine wpAny_call ?_
  refine Att.call_fn (binds := [("thing", .int i t), ("least", .int l tl), ("most", .int n tn)]) KX hlim lk hcd (by omega) (BindsTo.of_eq (by first | rfl | with_unfolding_all rfl)) (by first | rfl | decide | with_unfolding_all rfl) (fun s₁ IC => ?_) rfl rfl rfl
  obtain ⟨h₁, tk₁, rfl⟩ := IC.toInCall.same
  have kp : ∀ b o, s.heap.get? b = some o → h₁.get? b = some o := IC.toInCall.keep
  have hn := IC.toInCall.ns
  have hlim1 : h₁.NoLimit := hlim.keeps kp
  have hg1 := hg.keeps kp
  show wpAny _ _ (execs _ _) _ _ _
  refine wpAny_execs_cons (wpAny_Return_some ?_)
  refine BoolOp_and ?_
  refine wpAny_Call_Name_kw (Calls.Name_function_global rfl rfl (Calls.loadGlobal_global hg1 gN ?_))
  refine PySem.W.callWith_K (h₀ := h₁) (KX.keeps kp) kN ?_ (by rfl) (by rfl)
  show wpAny _ _ (spliced ((false, eval (.Name "thing" n1) _) :: [])) _ _ _
  refine Calls.spliced_cons (ldl (v := .int i t) rfl rfl hn (by first | rfl | with_unfolding_all rfl | kernel_rfl) (Calls.spliced_nil ⟨KX.keeps kp, ?_⟩) (by decide))
  refine num_call N (KX.keeps kp) hlim1 hg1 (hb.keeps kp) hbb mi m1 m2 (by show A.depth + 1 < _; omega) (fun s' hks => ?_)
  obtain ⟨h', tk', rfl, hkp⟩ := hks
  refine wpAny_truthy_bool ?_
  show wpAny _ _ (eval (.BoolOp .And [.Compare (.Name "least" n3) [.LtE, .LtE] [.Name "thing" n4, .Name "most" n5] n6] n7) _) _ _ _
  refine BoolOp_one ?_
  have kp2 : ∀ b o, s.heap.get? b = some o → h'.get? b = some o := fun b o e => hkp b o (kp b o e)
  refine Compare_chain (ldl (v := .int l tl) rfl rfl (hn.keeps hkp) (by first | rfl | with_unfolding_all rfl | kernel_rfl) (chain_link (ldl (v := .int i t) rfl rfl (hn.keeps hkp) (by first | rfl | with_unfolding_all rfl | kernel_rfl) (le_int (wpAny_truthy_bool ?_)) (by decide))) (by decide)) (by with_unfolding_all rfl)
  by_cases h1 : l ≤ i
  · rw [if_pos (decide_eq_true h1)]
    refine chain_last (ldl (v := .int n tn) rfl rfl (hn.keeps hkp) (by first | rfl | with_unfolding_all rfl | kernel_rfl) ?_ (by decide))
    refine le_int ?_
    have := hq ⟨h', s.gens, s.drawn, tk', s.os⟩ ⟨h', tk', rfl, kp2⟩
    rw [decide_eq_true h1, Bool.true_and] at this
    exact this
  · rw [if_neg (fun z => h1 (of_decide_eq_true z))]
    have := hq ⟨h', s.gens, s.drawn, tk', s.os⟩ ⟨h', tk', rfl, kp2⟩
    rw [decide_eq_false h1, Bool.false_and] at this
    show _
    rw [decide_eq_false h1]
    exact this
/-- is_within(x, 1, MOST) -/
theorem elt_num {X : Cx} {scope : Scope} {x M : Str} {f fn : Addr} {n : Int} {tn : Tok} {q0 q1 q2 q3 q4 : Pos} {k : Nat} (hr : Room k X.A) (Wt : WithAt X.K f) (kW : PySem.W.keepIn X.K (.ref f) = true) (gW : X.mg "is_within" = some (.ref f)) (N : NumAt X.K fn) (kp : PySem.W.keepIn X.K (.ref fn) = true) (gf : X.mg "is_number" = some (.ref fn)) (gM : X.mg M = some (.int n tn)) (hglob : X.env.globals = mainGlobals)
    (mi : X.mg "isinstance" = none) (m1 : X.mg "int" = none) (m2 : X.mg "bool" = none) (hk : scope.kind = .function) (hl : scope.names.lookup x = some .local) (hf : scope.names.lookup ("is_within" : Str) = some .globalImplicit) (hM : scope.names.lookup M = some .globalImplicit)
    (hd : (x == ("__debug__" : Str)) = false := by decide) (hdM : (M == ("__debug__" : Str)) = false := by decide) :
    EltI X scope x (.Call (.Name "is_within" q0) [.Name x q1, .Constant (.int 1) 0 q2, .Name M q3] [] q4) (fun i y => y = .bool (decide (1 ≤ i) && decide (i ≤ n))) := by
  intro cenv A' E' i t s₂ m₂ hs hG hB hA hD hU KX hlim hg hbl hn hm
  obtain ⟨mb, hb, hbb⟩ := hbl
  have hk' : cenv.scope.kind = .function := by rw [hs]; exact hk
  have hl' : cenv.kindOf x = some .local := show cenv.scope.names.lookup x = some .local by rw [hs]; exact hl
  have hf' : cenv.kindOf "is_within" = some .globalImplicit := show cenv.scope.names.lookup ("is_within" : Str) = _ by rw [hs]; exact hf
  have hM' : cenv.kindOf M = some .globalImplicit := show cenv.scope.names.lookup M = _ by rw [hs]; exact hM
  have hg' : s₂.heap.Ns cenv.globals X.mg := by rw [hG, hglob]; exact hg
  refine wpAny_Call_Name_kw (Calls.Name_function_global hk' hf' (Calls.loadGlobal_global hg' gW ?_))
  refine PySem.W.callWith_K (h₀ := s₂.heap) KX kW ?_ (by rfl) (by rfl)
  show wpAny _ _ (spliced ((false, eval (.Name x q1) cenv) :: (false, eval (.Constant (.int 1) 0 q2) cenv) :: (false, eval (.Name M q3) cenv) :: [])) _ _ s₂
  refine Calls.spliced_cons (ldl hk' hl' hn hm (Calls.spliced_cons (wpAny_Constant_int (Calls.spliced_cons (Calls.Name_function_global hk' hM' (Calls.loadGlobal_global hg' gM (Calls.spliced_nil ⟨KX, ?_⟩)) hdM)))) hd)
  exact with_call Wt N kp gf KX hlim hg hb hbb mi m1 m2 (by have := hr.dp; omega) (fun s' hks => ⟨rfl, hks⟩)

/-! ### zip of three lists -/
def It3 (K : PySem.W.Frag) (a b c : Addr) : It :=
  ⟨fun i H => ∃ (us vs ws : List V) (x y z : V), (SqL K H a us ∧ SqL K H b vs ∧ SqL K H c ws) ∧ us[i]? = some x ∧ vs[i]? = some y ∧ ws[i]? = some z,
    fun i H v H' => ∃ Tt x y z, v = .ref Tt ∧ H Tt = none ∧ H' = upd H Tt (.tup [x, y, z]) ∧ (∀ us, SqL K H a us → us[i]? = some x) ∧ (∀ vs, SqL K H b vs → vs[i]? = some y) ∧ ∀ ws, SqL K H c ws → ws[i]? = some z,
    fun i H => ∃ us vs ws : List V, SqL K H a us ∧ SqL K H b vs ∧ SqL K H c ws ∧ min (min us.length vs.length) ws.length = i⟩
theorem turn3 {P : Program} {w : World} {K : PySem.W.Frag} {elts : List Expr} {kk : Nat} {tpos : Pos} {a b c z TI TO j1 j2 j3 : Addr} (S : ZipSep3 z TI TO j1 j2 j3 [j1, a] [j2, b] [j3, c]) (ha : a ≠ j1) (hb : b ≠ j2) (hc3 : c ≠ j3) :
    Turn P w K (.Tuple elts kk tpos) (It3 K a b c) [z, TI, TO, j1, j2, j3] z (fun i h => IsZip h z TI TO .none ∧ IsTupOf3 h TI (.ref j1) (.ref j2) (.ref j3) ∧ (∃ x y u, IsTupOf3 h TO x y u) ∧ h.IsListIter j1 a i ∧ h.IsListIter j2 b i ∧ h.IsListIter j3 c i) where
  mem := by simp
  obj := fun i h st d hd => by
    obtain ⟨hz, hTI, ⟨x, y, u, hTO⟩, ⟨o1, e1, _, d1⟩, ⟨o2, e2, _, d2⟩, ⟨o3, e3, _, d3⟩⟩ := st
    have e' : d = z ∨ d = TI ∨ d = TO ∨ d = j1 ∨ d = j2 ∨ d = j3 := by simpa using hd
    rcases e' with rfl | rfl | rfl | rfl | rfl | rfl
    · exact ⟨_, hz, fun v q => nomatch q⟩
    · exact ⟨_, hTI, fun v q => nomatch q⟩
    · exact ⟨_, hTO, fun v q => nomatch q⟩
    · exact ⟨o1, e1, fun v q => by rw [d1] at q; cases q⟩
    · exact ⟨o2, e2, fun v q => by rw [d2] at q; cases q⟩
    · exact ⟨o3, e3, fun v q => by rw [d3] at q; cases q⟩
  keep := fun i h h' st k => by
    obtain ⟨hz, hTI, ⟨x, y, u, hTO⟩, h1, h2, h3⟩ := st
    exact ⟨k z (by simp) _ hz, k TI (by simp) _ hTI, ⟨x, y, u, k TO (by simp) _ hTO⟩, h1.at fun o q => k j1 (by simp) o q, h2.at fun o q => k j2 (by simp) o q, h3.at fun o q => k j3 (by simp) o q⟩
  item := by
    intro X hP hw hK hc i pins s σ H E I hf st hg
    subst hP hw hK
    obtain ⟨hz, hTI, hTO, h1, h2, h3⟩ := st
    obtain ⟨us, vs, ws, x, y, u, ⟨hqx, hqy, hqu⟩, hx, hy, hu⟩ := hg
    obtain ⟨its1, rv1, p1, _⟩ := I.list hqx
    obtain ⟨its2, rv2, p2, _⟩ := I.list hqy
    obtain ⟨its3, rv3, p3, _⟩ := I.list hqu
    obtain ⟨m1, g1, r1⟩ := rv1.get hx
    obtain ⟨m2, g2, r2⟩ := rv2.get hy
    obtain ⟨m3, g3, r3⟩ := rv3.get hu
    have hh : X.A.in1.handled = none := I.ok.hd hc
    have W := WalksT.zipD3 (prog := X.prog) (w := X.w) (A := X.A) S (Draws.list hh j1 a ha its1.toArray) (Draws.list hh j2 b hb its2.toArray) (Draws.list hh j3 c hc3 its3.toArray)
    have lt1 : i < its1.length := (List.getElem?_eq_some_iff.mp g1).1
    have lt2 : i < its2.length := (List.getElem?_eq_some_iff.mp g2).1
    have lt3 : i < its3.length := (List.getElem?_eq_some_iff.mp g3).1
    refine W.item i s _ _ (by simp only [List.size_toArray]; omega) ⟨hz, hTI, hTO, ⟨h1, p1.isList⟩, ⟨h2, p2.isList⟩, ⟨h3, p3.isList⟩⟩ fun Tt vals h' tk hPt hge hT hM hk => ⟨_, rfl, W.go elts kk tpos i Tt _ _ _ hM fun h'' hSt hk2 => ?_⟩
    obtain ⟨n1, n2, n3, f1, f2, f3, rfl⟩ := hPt
    have q1 : n1 = m1 := by have f : its1[i]? = some n1 := by simpa using f1
                            rw [g1] at f; exact (Option.some.inj f).symm
    have q2 : n2 = m2 := by have f : its2[i]? = some n2 := by simpa using f2
                            rw [g2] at f; exact (Option.some.inj f).symm
    have q3 : n3 = m3 := by have f : its3[i]? = some n3 := by simpa using f3
                            rw [g3] at f; exact (Option.some.inj f).symm
    subst q1 q2 q3
    have hT2 := hT.at fun o e => hk2 Tt o (W.apart _ _ _ hM) e
    have new : ObjOk X.prog X.w (upd H Tt (.tup [x, y, u])) h'' Tt (.tup [x, y, u]) := ⟨by show 3 ≤ sizeLine; decide, [n1, n2, n3], .cons r1 (.cons r2 (.cons r3 .nil)), hT2⟩
    have nin : ∀ d, d ∉ [z, TI, TO, j1, j2, j3] → d ∉ [z, TO, j1, j2, j3] := fun d hd hm => hd (by
      have : d = z ∨ d = TO ∨ d = j1 ∨ d = j2 ∨ d = j3 := by simpa using hm
      rcases this with rfl | rfl | rfl | rfl | rfl <;> simp)
    have I1 := I.turnedNew (t' := tk) (h' := h'') (ch := [z, TI, TO, j1, j2, j3]) (fun d o hd q => hk2 d o (nin d hd) (hk d o (nin d hd) q)) hf hge new
    obtain ⟨s1, s2, s3, s4, s5, s6⟩ := hSt
    refine ⟨.ref Tt, _, I1, rfl, ⟨Tt, x, y, u, rfl, I.hok.fresh hge, rfl, fun l hl => by rw [I.list_inj hl hqx]; exact hx, fun l hl => by rw [I.list_inj hl hqy]; exact hy, fun l hl => by rw [I.list_inj hl hqu]; exact hu⟩, ⟨s1, s2, s3, s4.1, s5.1, s6.1⟩, fun d hd => ?_⟩
    have hlt : d < s.heap.objs.size := by
      have e' : d = z ∨ d = TI ∨ d = TO ∨ d = j1 ∨ d = j2 ∨ d = j3 := by simpa using hd
      obtain ⟨x0, y0, u0, hTO⟩ := hTO
      rcases e' with rfl | rfl | rfl | rfl | rfl | rfl
      · exact Heap.lt_size hz
      · exact Heap.lt_size hTI
      · exact Heap.lt_size hTO
      · obtain ⟨_, e1, _⟩ := h1; exact Heap.lt_size e1
      · obtain ⟨_, e1, _⟩ := h2; exact Heap.lt_size e1
      · obtain ⟨_, e1, _⟩ := h3; exact Heap.lt_size e1
    rw [upd_ne (Nat.ne_of_lt (Nat.lt_of_lt_of_le hlt hge))]
    exact (hf d hd).1
  done := by
    intro X hP hw hK hc i pins s σ H E I hf st hg
    subst hP hw hK
    obtain ⟨hz, hTI, hTO, h1, h2, h3⟩ := st
    obtain ⟨us, vs, ws, hqx, hqy, hqu, hend⟩ := hg
    obtain ⟨its1, rv1, p1, _⟩ := I.list hqx
    obtain ⟨its2, rv2, p2, _⟩ := I.list hqy
    obtain ⟨its3, rv3, p3, _⟩ := I.list hqu
    have hh : X.A.in1.handled = none := I.ok.hd hc
    have W := WalksT.zipD3 (prog := X.prog) (w := X.w) (A := X.A) S (Draws.list hh j1 a ha its1.toArray) (Draws.list hh j2 b hb its2.toArray) (Draws.list hh j3 c hc3 its3.toArray)
    have l1 := rv1.length
    have l2 := rv2.length
    have l3 := rv3.length
    have en : min (min its1.toArray.size its2.toArray.size) its3.toArray.size = i := by simp only [List.size_toArray]; omega
    refine W.done s _ _ (by rw [en]; exact ⟨hz, hTI, hTO, ⟨h1, p1.isList⟩, ⟨h2, p2.isList⟩, ⟨h3, p3.isList⟩⟩) fun h' tk hk => ⟨rfl, I.turnedL (t' := tk) (ch := [z, TI, TO, j1, j2, j3]) (fun d o hd q => hk d o (fun hm => hd ?_) q) hf⟩
    have : d = z ∨ d = TO ∨ d = j1 ∨ d = j2 ∨ d = j3 := by simpa using hm
    rcases this with rfl | rfl | rfl | rfl | rfl <;> simp
  self := fun A i s Q E st h => wpAny_pyIter_zip st.1 h
def iZip3 (K : PySem.W.Frag) (ta : TA) : TI := fun σ H R => ta σ H fun xs H1 => ∃ a b c us vs ws, xs = [.ref a, .ref b, .ref c] ∧ SqL K H1 a us ∧ SqL K H1 b vs ∧ SqL K H1 c ws ∧ R (It3 K a b c) H1
theorem pi_zip3 {X : Cx} {e e2 e3 : Expr} {ta : TA} {p pos tpos : Pos} {elts : List Expr} {kk : Nat} (hg : Gl X "zip") (hm : X.mg "zip" = none) (ha : PA X [e, e2, e3] ta)
    (hs : starEach [e, e2, e3] X.env = (false, eval e X.env) :: starEach [e2, e3] X.env := by rfl) (hpl : (backTo pos (starEach [e2, e3] X.env)).any (·.1) = false := by rfl) :
    PI X (.Tuple elts kk tpos) (.Call (.Name "zip" p) [e, e2, e3] [] pos) (iZip3 X.K ta) := by
  refine ⟨fun pins s σ H R I h => Call_ (ld_blt I hg hm PyProof.Rows.boot_zip (PyProof.Rows.callWith_type1 (thn (ha.run pos pins s σ H _ I h) fun us s1 ⟨vs, H1, I1, r1, q1⟩ => ?_) hs hpl))⟩
  obtain ⟨a, b, c, as, bs, cs, ex, hqx, hqy, hqu, q⟩ := q1
  subst ex
  cases r1 with
  | cons r rr =>
    cases rr with
    | cons r' rr =>
      cases rr with
      | cons r'' rr =>
        cases rr
        cases r
        cases r'
        cases r''
        obtain ⟨its1, rv1, p1, _⟩ := I1.list hqx
        obtain ⟨its2, rv2, p2, _⟩ := I1.list hqy
        obtain ⟨its3, rv3, p3, _⟩ := I1.list hqu
        have la : a < s1.heap.objs.size := p1.lt
        have lb : b < s1.heap.objs.size := p2.lt
        have lc : c < s1.heap.objs.size := p3.lt
        refine zip_begins3 (begins_list a its1.toArray) (begins_list b its2.toArray) (begins_list c its3.toArray) p1.isList p2.isList p3.isList fun h' hz hTI hTO h1 h2 h3 hsz hk => wpAny_pyIter_zip hz ?_
        have I2 : Inv X pins σ H1 { s1 with heap := h' } := I1.kept (t' := s1.toks) hk
        have one : ∀ d : Addr, d < s1.heap.objs.size → ∀ e ∈ [d], e < s1.heap.objs.size := fun d hd e he => by rw [List.mem_singleton.mp he]; exact hd
        refine ⟨_, [s1.heap.objs.size + 5, s1.heap.objs.size + 3, s1.heap.objs.size + 4, s1.heap.objs.size, s1.heap.objs.size + 1, s1.heap.objs.size + 2], _, _, H1, rfl, I2, turn3 (zip_sep3 (one a la) (one b lb) (one c lc)) (Nat.ne_of_lt la) (Nat.ne_of_lt (Nat.lt_succ_of_lt lb)) (Nat.ne_of_lt (Nat.lt_add_right 2 lc)), ⟨hz, hTI, ⟨_, _, _, hTO⟩, ⟨_, h1, rfl, rfl⟩, ⟨_, h2, rfl, rfl⟩, ⟨_, h3, rfl, rfl⟩⟩, fun d hd => ?_, q⟩
        have hle : s1.heap.objs.size ≤ d := by
          have e' : d = s1.heap.objs.size + 5 ∨ d = s1.heap.objs.size + 3 ∨ d = s1.heap.objs.size + 4 ∨ d = s1.heap.objs.size ∨ d = s1.heap.objs.size + 1 ∨ d = s1.heap.objs.size + 2 := by simpa using hd
          rcases e' with z | z | z | z | z | z <;> rw [z] <;> first | exact Nat.le_refl _ | exact Nat.le_add_right _ _
        exact I1.fpOk hle (I1.hok.fresh hle)
/-- each turn's three in a new tuple -/
def YTri (us vs ws : List V) : Nat → Hp → V → Hp → Prop := fun i H v H' => ∃ Tt x y z, v = .ref Tt ∧ H Tt = none ∧ H' = upd H Tt (.tup [x, y, z]) ∧ us[i]? = some x ∧ vs[i]? = some y ∧ ws[i]? = some z
theorem walk_zip3 {K : PySem.W.Frag} {a b c : Addr} {us vs ws : List V} {n : Nat} (hn : n = min (min us.length vs.length) ws.length) : Walk (It3 K a b c) n (fun H => SqL K H a us ∧ SqL K H b vs ∧ SqL K H c ws) (YTri us vs ws) := by
  subst hn
  refine ⟨fun i _ hi q => ?_, fun _ q => ⟨us, vs, ws, q.1, q.2.1, q.2.2, rfl⟩, fun i H v H' _ q y => ?_⟩
  · have h1 : i < us.length := by omega
    have h2 : i < vs.length := by omega
    have h3 : i < ws.length := by omega
    exact ⟨us, vs, ws, us[i], vs[i], ws[i], q, by simp [h1], by simp [h2], by simp [h3]⟩
  · obtain ⟨Tt, x, z, u, h1, h2, h3, h4, h5, h6⟩ := y
    exact ⟨Tt, x, z, u, h1, h2, h3, h4 us q.1, h5 vs q.2.1, h6 ws q.2.2⟩

/-! ### one own class: fields, methods, making -/
section
variable {X : Cx} {C : Addr} {f : Str} {e o value : Expr} {te ta tv : TE} {pos pos' apos p : Pos}
def tFc (C : Addr) (te : TE) (f : Str) : TE := fun σ H Q => te σ H fun x H1 => ∃ a dx fs v, x = .ref a ∧ H1 a = some (.ins C dx fs) ∧ fs.lookup f = some v ∧ Q v H1
theorem pe_fc (c : Cls X.K C) (n : NoAttr X.K C f) (he : PE X e te) (hb : attributeBase e f X.env (eval e X.env) = eval e X.env := by rfl) : PE X (.Attribute e f pos) (tFc C te f) := by
  refine ⟨fun pins s σ H Q I h => attr_of hb (thn (he.run pins s σ H _ I h) fun u s1 hh => ?_)⟩
  obtain ⟨x, H1, I1, rx, a, dx, fs, v, ex, ea, l, q⟩ := hh
  subst ex
  obtain rfl : u = Value.ref a := rx
  exact getattr_ok I1 ea c n l fun u' s2 I2 ru => ⟨v, H1, I2, ru, q⟩
def sFc (C : Addr) (ta tv : TE) (f : Str) : TS := fun D σ H => tv σ H fun y H1 => ta σ H1 fun x H2 => ∃ a dx fs, x = .ref a ∧ H2 a = some (.ins C dx fs) ∧ fs.length < 1000 ∧ D.nx σ (upd H2 a (.ins C dx (putF f y fs)))
theorem ps_fc (c : Cls X.K C) (n : NoAttr X.K C f) (ha : PE X o ta) (hv : PE X value tv) (hs : swapsWith value (some (.Attribute o f pos')) pos.line X.env = pure false := by rfl) : PS X (.Assign [.Attribute o f pos'] value pos) (sFc C ta tv f) := by
  refine ⟨fun pins s σ H D I h => plainObj_wpAny_Assign_Attribute (thn (hv.run pins s σ H _ I h) fun u s1 hh => ?_) hs⟩
  obtain ⟨y, H1, I1, ry, q⟩ := hh
  refine thn (ha.run pins s1 σ H1 _ I1 q) fun ov s2 hk => ?_
  obtain ⟨x, H2, I2, rx, a, dx, fs, ex, ea, l, q2⟩ := hk
  subst ex
  obtain rfl : ov = Value.ref a := rx
  exact setattr_ok I2 ea c n l ry fun s3 I3 => ⟨σ, _, I3, q2⟩
end
/-- a method, ready to be called; one that may raise -/
structure Mt (P : Program) (w : World) (K : PySem.W.Frag) (mg : Str → Option Value) (base : Heap) (C : Addr) (k : Nat) (m : Str) (ps : List Str) (sp : Sp) : Prop where
  ex : ∃ f fd, FnOk P w K mg base CX0 k f fd ps sp ∧ Meth K C m f ∧ Binds K fd ps []
structure Mx (P : Program) (w : World) (K : PySem.W.Frag) (mg : Str → Option Value) (base : Heap) (C : Addr) (k : Nat) (m : Str) (ps : List Str) (sp : Sp) : Prop where
  ex : ∃ f fd, FnOk P w K mg base (L2.CX P w) k f fd ps sp ∧ Meth K C m f ∧ Binds K fd ps []
structure Mn (P : Program) (w : World) (K : PySem.W.Frag) (mg : Str → Option Value) (base : Heap) (C : Addr) (k : Nat) (x : Str) (ps : List Str) (sp : Sp) : Prop where
  ex : ∃ f fd, FnOk P w K mg base CX0 k f fd ps sp ∧ Mk K C f ∧ Binds K fd ps [] ∧ mg x = some (.ref C)
structure Mnx (P : Program) (w : World) (K : PySem.W.Frag) (mg : Str → Option Value) (base : Heap) (C : Addr) (k : Nat) (x : Str) (ps : List Str) (sp : Sp) : Prop where
  ex : ∃ f fd, FnOk P w K mg base (L2.CX P w) k f fd ps sp ∧ Mk K C f ∧ Binds K fd ps [] ∧ mg x = some (.ref C)
section
variable {X : Cx} {C : Addr} {k : Nat} {m x : Str} {ps : List Str} {sp : Sp} {o e : Expr} {es : List Expr} {ta : TE} {t : TA} {p pos apos : Pos} {E : XK} {pl : Sem Bool}
theorem pe_mt (M : Mt X.prog X.w X.K X.mg X.base C k m ps sp) (c : Cls X.K C) (hr : Room k X.A) (he : PE X o ta) (ha : PA X (e :: es) t)
    (hst : starEach (e :: es) X.env = (false, eval e X.env) :: starEach es X.env := by rfl) (hpl : (backTo pos (starEach es X.env)).any (·.1) = false := by rfl)
    (ht : eval (.Call (.Attribute o m apos) (e :: es) [] pos) X.env = (do
      let ov ← eval o X.env
      standAt apos.atName
      let (f, first) ← holding [ov] (getMethod ov m pl)
      callWith pos f first (backTo pos (starEach (e :: es) X.env)) (backToKw pos (keywordEach [] X.env))) := by rfl) :
    PE X (.Call (.Attribute o m apos) (e :: es) [] pos) (tMeth C m sp [] E0 ta t) := by
  obtain ⟨f, fd, h, mm, b⟩ := M.ex
  exact pe_meth he c mm h hr b .nil pass0 ha hst hpl ht
theorem pe_mt0 (M : Mt X.prog X.w X.K X.mg X.base C k m ps sp) (c : Cls X.K C) (hr : Room k X.A) (he : PE X o ta)
    (ht : eval (.Call (.Attribute o m apos) [] [] pos) X.env = (do
      let ov ← eval o X.env
      standAt apos.atName
      let (f, first) ← holding [ov] (getMethod ov m pl)
      callWith pos f first (backTo pos (starEach [] X.env)) (backToKw pos (keywordEach [] X.env))) := by rfl) :
    PE X (.Call (.Attribute o m apos) [] [] pos) (tMeth C m sp [] E0 ta tNil) := by
  obtain ⟨f, fd, h, mm, b⟩ := M.ex
  exact pe_meth0 he c mm h hr b .nil pass0 ht
theorem pe_mx (M : Mx X.prog X.w X.K X.mg X.base C k m ps sp) (c : Cls X.K C) (hr : Room k X.A) (tk : Takes X (fun cls d _ H => E cls d H)) (he : PE X o ta) (ha : PA X (e :: es) t)
    (hst : starEach (e :: es) X.env = (false, eval e X.env) :: starEach es X.env := by rfl) (hpl : (backTo pos (starEach es X.env)).any (·.1) = false := by rfl)
    (ht : eval (.Call (.Attribute o m apos) (e :: es) [] pos) X.env = (do
      let ov ← eval o X.env
      standAt apos.atName
      let (f, first) ← holding [ov] (getMethod ov m pl)
      callWith pos f first (backTo pos (starEach (e :: es) X.env)) (backToKw pos (keywordEach [] X.env))) := by rfl) :
    PE X (.Call (.Attribute o m apos) (e :: es) [] pos) (tMeth C m sp [] E ta t) := by
  obtain ⟨f, fd, h, mm, b⟩ := M.ex
  exact pe_meth he c mm h hr b .nil (passes_call tk fun _ _ _ _ h => h) ha hst hpl ht
theorem pe_mx_ (M : Mx X.prog X.w X.K X.mg X.base C k m ps sp) (c : Cls X.K C) (hr : Room k X.A) (he : PE X o ta) (ha : PA X (e :: es) t)
    (hst : starEach (e :: es) X.env = (false, eval e X.env) :: starEach es X.env := by rfl) (hpl : (backTo pos (starEach es X.env)).any (·.1) = false := by rfl)
    (ht : eval (.Call (.Attribute o m apos) (e :: es) [] pos) X.env = (do
      let ov ← eval o X.env
      standAt apos.atName
      let (f, first) ← holding [ov] (getMethod ov m pl)
      callWith pos f first (backTo pos (starEach (e :: es) X.env)) (backToKw pos (keywordEach [] X.env))) := by rfl) :
    PE X (.Call (.Attribute o m apos) (e :: es) [] pos) (tMeth C m sp [] E0 ta t) := by
  obtain ⟨f, fd, h, mm, b⟩ := M.ex
  exact pe_meth he c mm h hr b .nil passL ha hst hpl ht
theorem pe_mn (M : Mn X.prog X.w X.K X.mg X.base C k x ps sp) (hr : Room (k + 1) X.A) (ha : PA X (e :: es) t) (hg : Gl X x := by rfl) (hdb : (x == ("__debug__" : Str)) = false := by decide)
    (he : starEach (e :: es) X.env = (false, eval e X.env) :: starEach es X.env := by rfl) (hpl : (backTo pos (starEach es X.env)).any (·.1) = false := by rfl) :
    PE X (.Call (.Name x p) (e :: es) [] pos) (tMake C sp [] E0 t) := by
  obtain ⟨f, fd, h, mm, b, g⟩ := M.ex
  exact pe_make mm h hr hg g b .nil pass0 ha hdb he hpl
theorem pe_mnx (M : Mnx X.prog X.w X.K X.mg X.base C k x ps sp) (hr : Room (k + 1) X.A) (tk : Takes X (fun cls d _ H => E cls d H)) (ha : PA X (e :: es) t) (hg : Gl X x := by rfl) (hdb : (x == ("__debug__" : Str)) = false := by decide)
    (he : starEach (e :: es) X.env = (false, eval e X.env) :: starEach es X.env := by rfl) (hpl : (backTo pos (starEach es X.env)).any (·.1) = false := by rfl) :
    PE X (.Call (.Name x p) (e :: es) [] pos) (tMake C sp [] E t) := by
  obtain ⟨f, fd, h, mm, b, g⟩ := M.ex
  exact pe_make mm h hr hg g b .nil (passes_call tk fun _ _ _ _ h => h) ha hdb he hpl
theorem pe_mnx_ (M : Mnx X.prog X.w X.K X.mg X.base C k x ps sp) (hr : Room (k + 1) X.A) (ha : PA X (e :: es) t) (hg : Gl X x := by rfl) (hdb : (x == ("__debug__" : Str)) = false := by decide)
    (he : starEach (e :: es) X.env = (false, eval e X.env) :: starEach es X.env := by rfl) (hpl : (backTo pos (starEach es X.env)).any (·.1) = false := by rfl) :
    PE X (.Call (.Name x p) (e :: es) [] pos) (tMake C sp [] E0 t) := by
  obtain ⟨f, fd, h, mm, b, g⟩ := M.ex
  exact pe_make mm h hr hg g b .nil passL ha hdb he hpl
end

def sp_p_common_divisor (K : PySem.W.Frag) (T : Tb) : Sp := fun vs H Q _ => ∃ a b : Nat, vs = [.int a, .int b] ∧ Q (.int (Nat.gcd a b : Nat)) H
theorem ok_p_common_divisor {f : Addr} {fd : FuncData} (F : Fun K "common_divisor" "common_divisor" s_p_common_divisor f fd) : FnOk P w K mg base CX0 1 f fd ["one", "other"] (sp_p_common_divisor K T) := by
  refine F.ok sc_p_common_divisor (fun vs H Q E h => ?_) (fun cdv A outer s H vs Q E hr h => ?_)
  · obtain ⟨a, b, rfl, _⟩ := h
    rfl
  · obtain ⟨a, b, rfl, q⟩ := h
    refine ⟨_, (pss_cons (ps_while PassesOwn.never (pt_truth (pv 1) (by intro _; rfl)) (pss_one (ps_par (i := 0) (j := 1) (by rfl) sc_p_common_divisor.nd rfl rfl (by decide) rfl rfl (pa_cons (pv 1) (pa_cons (pe_op op_mod (pv 0) (pv 1)) pa_nil)) (by rfl))))
      (pss_one (ps_ret (pv 0)))), ?_⟩
    refine while_by (fun σ H' => ∃ x y : Nat, σ = [some (.int x), some (.int y)] ∧ H' = H ∧ Nat.gcd x y = Nat.gcd a b) (fun σ _ => match σ with | [_, some (.int y)] => y.toNat | _ => 0) ⟨a, b, rfl, rfl, rfl⟩ ?_ ?_
    · rintro σ H' ⟨x, y, rfl, rfl, hg⟩
      refine ⟨_, rfl, _, rfl, ite2 (fun e => ?_) (fun e => ?_)⟩
      · have hy : 0 < y := by
          cases y with
          | zero => cases e
          | succ n => exact Nat.succ_pos n
        refine ⟨_, rfl, _, rfl, _, rfl, _, _, rfl, rfl, (by show (0 : Int) < (y : Int); omega), _, _, rfl, ⟨y, x % y, ?_, rfl, ?_⟩, ?_⟩
        · show [some (V.int y), some (V.int ((x : Int) % (y : Int)))] = _
          rw [Int.natCast_emod]
        · rw [← hg, Nat.gcd_comm x y, Nat.gcd_rec y x, Nat.gcd_comm]
        · show ((x : Int) % (y : Int)).toNat < (y : Int).toNat
          rw [← Int.natCast_emod, Int.toNat_natCast, Int.toNat_natCast]
          exact Nat.mod_lt _ hy
      · have hy : y = 0 := by
          cases y with
          | zero => rfl
          | succ n => exact absurd rfl e
        subst hy
        refine ⟨_, rfl, ?_⟩
        rw [← hg, Nat.gcd_zero_right] at q
        exact q
    · rintro σ H Q Q' m ⟨v, e, k, t, q⟩
      exact ⟨v, e, k, t, m _ _ q⟩

def sp_p_amount (K : PySem.W.Frag) (T : Tb) : Sp := fun vs H Q _ => ∃ n d : Int, vs = [.int n, .int d] ∧ d ≠ 0 ∧ d.natAbs < 2 ^ 8900 ∧ ∀ p H', Sm T H H' → H p = none → H' p = some (.tup (tv (amt n d))) → Q (.ref p) H'
theorem gcd_bound {n d : Int} (hd : d ≠ 0) (hb : d.natAbs < 2 ^ 8900) : 0 < Nat.gcd n.natAbs d.natAbs ∧ (Nat.gcd n.natAbs d.natAbs) < 2 ^ 8900 :=
  ⟨Nat.gcd_pos_of_pos_right _ (by omega), Nat.lt_of_le_of_lt (Nat.gcd_le_right _ (by omega)) hb⟩
theorem ok_p_amount {f : Addr} {fd : FuncData} (F : Fun K "amount" "amount" s_p_amount f fd) (B : Bn mg) (F_p_common_divisor : Fn P w K mg base 1 "common_divisor" ["one", "other"] (sp_p_common_divisor K T)) : FnOk P w K mg base CX0 2 f fd ["num", "den"] (sp_p_amount K T) := by
  refine F.ok sc_p_amount (fun vs H Q E h => ?_) (fun cdv A outer s H vs Q E hr h => ?_)
  · obtain ⟨n, d, rfl, _⟩ := h
    rfl
  · obtain ⟨n, d, rfl, hd, hb, q⟩ := h
    refine ⟨_, (pss_cons (ps_if (pt_cmpR op_lt (pv 1) pe_int (nomark _)) (pss_one (ps_par (i := 0) (j := 1) (by rfl) sc_p_amount.nd rfl rfl (by decide) rfl rfl (pa_cons (pe_un un_neg (pv 0)) (pa_cons (pe_un un_neg (pv 1)) pa_nil)) (by rfl))) pss_nil)
      (pss_cons (ps_set (i := 2) sc_p_amount.nd rfl (.inl rfl) (pe_fn F_p_common_divisor (hr.mono (by decide)) (pa_cons (pe_callB call_abs (by rfl) B.abs_ (by decide +kernel) (pa_cons (pv 0) pa_nil)) (pa_cons (pv 1) pa_nil))))
      (pss_one (ps_ret (pe_tup (pa_cons (pe_op op_fdivW (pv 0) (pv 2)) (pa_cons (pe_op op_fdivW (pv 1) (pv 2)) pa_nil))))))), ?_⟩
    have hg := gcd_bound (n := n) hd hb
    refine seq_if (fun σ' H' => H' = H ∧ σ' = [some (.int (if d < 0 then -n else n)), some (.int d.natAbs), none]) (fun σ' H' p => ?_) (fun k => ?_)
    · obtain ⟨rfl, rfl⟩ := p
      refine ⟨_, rfl, _, rfl, _, rfl, n.natAbs, d.natAbs, ?_, ?_⟩
      · have : (if (if d < 0 then -n else n) < 0 then -(if d < 0 then -n else n) else (if d < 0 then -n else n)) = (n.natAbs : Int) := by split <;> split <;> omega
        rw [this] <;> rfl
      · refine ⟨_, rfl, _, rfl, _, _, rfl, rfl, wide_div (b := 8900) (by omega) (by rw [Int.natAbs_natCast]; exact hg.2) (by decide) (by decide), ?_⟩
        refine ⟨_, rfl, _, rfl, _, _, rfl, rfl, wide_div (b := 8900) (by omega) (by rw [Int.natAbs_natCast]; exact hg.2) (by decide) (by decide), ?_⟩
        refine ⟨by show 2 ≤ sizeLine; decide, fun p hp => ?_⟩
        exact q p _ (same_upd hp) hp upd_same
    · refine ⟨_, rfl, _, _, rfl, rfl, _, rfl, ite2 (fun e => ?_) (fun e => ?_)⟩
      · have e' : d < 0 := of_decide_eq_true e
        refine ⟨_, rfl, _, rfl, _, rfl, _, rfl, _, _, rfl, ?_⟩
        refine k _ _ ⟨rfl, ?_⟩
        rw [if_pos e', show ((d.natAbs : Nat) : Int) = -d by omega]
        all_goals rfl
      · have e' : ¬ d < 0 := fun z => e (decide_eq_true z)
        refine k _ _ ⟨rfl, ?_⟩
        rw [if_neg e', show ((d.natAbs : Nat) : Int) = d by omega]
        all_goals rfl

def Bd (n : Nat) (x : Am) : Prop := x.1.natAbs < 2 ^ n ∧ x.2.natAbs < 2 ^ n
theorem Bd.mono {n m : Nat} {x : Am} (h : Bd n x) (e : n ≤ m) : Bd m x := ⟨Nat.lt_of_lt_of_le h.1 (Nat.pow_le_pow_right (by decide) e), Nat.lt_of_lt_of_le h.2 (Nat.pow_le_pow_right (by decide) e)⟩
def plusA (x y : Am) : Am := amt (x.1 * y.2 + y.1 * x.2) (x.2 * y.2)
def minusA (x y : Am) : Am := amt (x.1 * y.2 - y.1 * x.2) (x.2 * y.2)
def timesA (x y : Am) : Am := amt (x.1 * y.1) (x.2 * y.2)
def overA (x y : Am) : Am := amt (x.1 * y.2) (x.2 * y.1)
def belowA (x y : Am) : Bool := decide (x.1 * y.2 < y.1 * x.2)
def spBin (pre : Am → Am → Prop) (g : Am → Am → Am) (K : PySem.W.Frag) (T : Tb) : Sp := fun vs H Q _ => ∃ a b x y, vs = [.ref a, .ref b] ∧ SqT K H a (tv x) ∧ SqT K H b (tv y) ∧ (Bd 4000 x ∧ Bd 4000 y) ∧ pre x y ∧
  ∀ p H', Sm T H H' → H p = none → H' p = some (.tup (tv (g x y))) → Q (.ref p) H'
abbrev sp_p_plus : PySem.W.Frag → Tb → Sp := spBin (fun x y => 0 < x.2 ∧ 0 < y.2) plusA
abbrev sp_p_minus : PySem.W.Frag → Tb → Sp := spBin (fun x y => 0 < x.2 ∧ 0 < y.2) minusA
abbrev sp_p_times : PySem.W.Frag → Tb → Sp := spBin (fun x y => 0 < x.2 ∧ 0 < y.2) timesA
abbrev sp_p_over : PySem.W.Frag → Tb → Sp := spBin (fun x y => 0 < x.2 ∧ 0 < y.2 ∧ y.1 ≠ 0) overA
def sp_p_below (K : PySem.W.Frag) (T : Tb) : Sp := fun vs H Q _ => ∃ a b x y, vs = [.ref a, .ref b] ∧ SqT K H a (tv x) ∧ SqT K H b (tv y) ∧ (Bd 4000 x ∧ Bd 4000 y) ∧ Q (.bl (belowA x y)) H
theorem wm {i j : Int} (hi : i.natAbs < 2 ^ 4000) (hj : j.natAbs < 2 ^ 4000) : CMulW i j := wide_mul hi hj (by decide) (by decide) (by decide)
theorem wl {i j : Int} (hi : i.natAbs < 2 ^ 4000) (hj : j.natAbs < 2 ^ 4000) : (i * j).natAbs < 2 ^ 8900 := Nat.lt_trans (wide_lt hi hj) (Nat.pow_lt_pow_right (by decide) (by decide))

/-! ### amounts as rationals -/
def am (r : Rat) : Am := (r.num, (r.den : Int))
def vl (x : Am) : Rat := (x.1 : Rat) / (x.2 : Rat)
theorem am_low (r : Rat) : Low (am r) := ⟨by have := r.den_nz; show (0 : Int) < (r.den : Int); omega, by show Nat.gcd r.num.natAbs ((r.den : Int)).natAbs = 1; rw [Int.natAbs_natCast]; exact r.reduced⟩
theorem am_pos (r : Rat) : 0 < (am r).2 := (am_low r).1
theorem vl_am (r : Rat) : vl (am r) = r := by
  show (r.num : Rat) / ((r.den : Int) : Rat) = r
  have := Rat.num_divInt_den r
  rw [Rat.divInt_eq_div] at this
  exact this
theorem ci {a b : Int} (h : (a : Rat) = (b : Rat)) : a = b := Rat.intCast_inj.mp h
theorem cn {a : Int} (h : a ≠ 0) : (a : Rat) ≠ 0 := fun z => h (ci z)
theorem cp {a : Int} (h : 0 < a) : (0 : Rat) < (a : Rat) := Rat.intCast_pos.mpr h
theorem vl_eq {x y : Am} (hx : Low x) (hy : Low y) (e : vl x = vl y) : x = y := by
  refine low_eq hx hy (ci ?_)
  have h1 := cn (a := x.2) (by have := hx.1; omega)
  have h2 := cn (a := y.2) (by have := hy.1; omega)
  unfold vl at e
  rw [Rat.intCast_mul, Rat.intCast_mul]
  grind
theorem am_vl {x : Am} (hx : Low x) : am (vl x) = x := vl_eq (am_low _) hx (vl_am _)
theorem am_inj {a b : Rat} (h : am a = am b) : a = b := by rw [← vl_am a, h, vl_am]
theorem vl_amt {n d : Int} (hd : d ≠ 0) : vl (amt n d) = (n : Rat) / (d : Rat) := by
  have s := amt_spec (n := n) hd
  have h1 := cn (a := (amt n d).2) (by have := s.1.1; omega)
  have h2 := cn hd
  have e : (((amt n d).1 * d : Int) : Rat) = ((n * (amt n d).2 : Int) : Rat) := by rw [s.2.1]
  rw [Rat.intCast_mul, Rat.intCast_mul] at e
  unfold vl
  grind
theorem amt_am {n d : Int} (hd : d ≠ 0) : amt n d = am ((n : Rat) / (d : Rat)) := by
  rw [← vl_amt hd, am_vl (amt_spec hd).1]
theorem vle (x : Am) : vl x = (x.1 : Rat) / (x.2 : Rat) := rfl
theorem plus_am (a b : Rat) : plusA (am a) (am b) = am (a + b) := by
  have h1 := am_pos a
  have h2 := am_pos b
  unfold plusA
  rw [amt_am (by exact Int.mul_ne_zero (by omega) (by omega))]
  congr 1
  have e1 := vl_am a
  have e2 := vl_am b
  have k1 := cn (a := (am a).2) (by omega)
  have k2 := cn (a := (am b).2) (by omega)
  unfold vl at e1 e2
  rw [Rat.intCast_add, Rat.intCast_mul, Rat.intCast_mul, Rat.intCast_mul]
  grind
theorem minus_am (a b : Rat) : minusA (am a) (am b) = am (a - b) := by
  have h1 := am_pos a
  have h2 := am_pos b
  unfold minusA
  rw [amt_am (by exact Int.mul_ne_zero (by omega) (by omega))]
  congr 1
  have e1 := vl_am a
  have e2 := vl_am b
  have k1 := cn (a := (am a).2) (by omega)
  have k2 := cn (a := (am b).2) (by omega)
  unfold vl at e1 e2
  rw [Rat.intCast_sub, Rat.intCast_mul, Rat.intCast_mul, Rat.intCast_mul]
  grind
theorem times_am (a b : Rat) : timesA (am a) (am b) = am (a * b) := by
  have h1 := am_pos a
  have h2 := am_pos b
  unfold timesA
  rw [amt_am (by exact Int.mul_ne_zero (by omega) (by omega))]
  congr 1
  have e1 := vl_am a
  have e2 := vl_am b
  have k1 := cn (a := (am a).2) (by omega)
  have k2 := cn (a := (am b).2) (by omega)
  unfold vl at e1 e2
  rw [Rat.intCast_mul, Rat.intCast_mul]
  grind
theorem am_ne {b : Rat} (h : b ≠ 0) : (am b).1 ≠ 0 := fun z => h (by
  rw [← vl_am b]
  unfold vl
  rw [z]
  show (0 : Rat) / _ = 0
  grind)
theorem over_am (a b : Rat) (hb : b ≠ 0) : overA (am a) (am b) = am (a / b) := by
  have h1 := am_pos a
  have h2 := am_pos b
  have h3 := am_ne hb
  unfold overA
  rw [amt_am (by exact Int.mul_ne_zero (by omega) h3)]
  congr 1
  have e1 := vl_am a
  have e2 := vl_am b
  have k1 := cn (a := (am a).2) (by omega)
  have k2 := cn (a := (am b).2) (by omega)
  have k3 := cn h3
  unfold vl at e1 e2
  rw [Rat.intCast_mul, Rat.intCast_mul]
  grind
theorem below_am (a b : Rat) : belowA (am a) (am b) = decide (a < b) := by
  have h1 := am_pos a
  have h2 := am_pos b
  have k1 := cp h1
  have k2 := cp h2
  have e1 := vl_am a
  have e2 := vl_am b
  unfold belowA
  rw [decide_eq_decide, ← Rat.intCast_lt_intCast, Rat.intCast_mul, Rat.intCast_mul]
  unfold vl at e1 e2
  have f1 : ((am a).1 : Rat) = a * ((am a).2 : Rat) := by grind
  have f2 : ((am b).1 : Rat) = b * ((am b).2 : Rat) := by grind
  rw [f1, f2]
  have k3 := Rat.mul_pos k1 k2
  constructor
  · intro h
    by_cases z : a < b
    · exact z
    · have := Rat.mul_le_mul_of_nonneg_right (a := b) (b := a) (Rat.not_lt.mp z) (Rat.le_of_lt k3)
      grind
  · intro h
    have := Rat.mul_lt_mul_of_pos_right h k3
    grind
theorem am_int (z : Int) : am (z : Rat) = (z, 1) := by
  refine vl_eq (am_low _) ⟨by show (0 : Int) < 1; decide, by show Nat.gcd _ 1 = 1; exact Nat.gcd_one_right _⟩ ?_
  rw [vl_am]
  show (z : Rat) = (z : Rat) / ((1 : Int) : Rat)
  have : ((1 : Int) : Rat) = 1 := rfl
  rw [this]
  grind
theorem am_zero : am 0 = (0, 1) := am_int 0
theorem am_one : am 1 = (1, 1) := am_int 1
theorem am_eq_iff {a b : Rat} : am a = am b ↔ a = b := ⟨am_inj, fun h => by rw [h]⟩
theorem sub_nn {a b : Rat} (h : a < b) : 0 ≤ b - a := by grind
theorem sub_nn' {a b : Rat} (h : a ≤ b) : 0 ≤ b - a := by grind
theorem sub_le' {a b c : Rat} (h : b ≤ c) (h0 : 0 ≤ a) : b - a ≤ c := by grind
theorem neg_le {a c : Rat} (h : 0 ≤ a) (hc : 0 ≤ c) : -c ≤ a := by grind

/-! ### walking -/
def mnI (p q : Int) : Int := if q < p then q else p
def spd : List Int → List Rat → List Int
  | p :: ns, x :: xs => (match xs, spd ns xs with
      | y :: _, s :: _ => if x = y then mnI p s else p
      | _, _ => p) :: spd ns xs
  | _, _ => []
theorem spd_len : ∀ (ns : List Int) (xs : List Rat), ns.length = xs.length → (spd ns xs).length = ns.length
  | [], [], _ => rfl
  | [], _ :: _, h => by simp at h
  | _ :: _, [], h => by simp at h
  | p :: ns, x :: xs, h => by
    have := spd_len ns xs (by simpa using h)
    simp only [spd, List.length_cons, this]
theorem spd_step {ns : List Int} {xs : List Rat} (hl : ns.length = xs.length) {j : Nat} (hj : j < ns.length) :
    spd (ns.drop j) (xs.drop j) = (if h : j + 1 < ns.length then (if xs[j] = xs[j + 1] then mnI ns[j] ((spd (ns.drop (j + 1)) (xs.drop (j + 1))).headD 0) else ns[j]) else ns[j]) :: spd (ns.drop (j + 1)) (xs.drop (j + 1)) := by
  rw [List.drop_eq_getElem_cons hj, List.drop_eq_getElem_cons (show j < xs.length by omega)]
  by_cases h : j + 1 < ns.length
  · rw [dif_pos h]
    have e2 := List.drop_eq_getElem_cons (show j + 1 < xs.length by omega)
    have l := spd_len (ns.drop (j + 1)) (xs.drop (j + 1)) (by rw [List.length_drop, List.length_drop, hl])
    simp only [spd]
    cases hs : spd (ns.drop (j + 1)) (xs.drop (j + 1)) with
    | nil => rw [hs, List.length_drop] at l; simp at l; omega
    | cons s r =>
      rw [e2]
      simp
  · rw [dif_neg h]
    have e1 : ns.drop (j + 1) = [] := List.drop_eq_nil_of_le (by omega)
    have e2 : xs.drop (j + 1) = [] := List.drop_eq_nil_of_le (by omega)
    rw [e1, e2]
    simp [spd]
/-- the law's own -/
def ptl (x : Rat) : Int → List Int → List Rat → Int
  | p, q :: ns, y :: ys => ptl x (if y = x then mnI p q else p) ns ys
  | p, _, _ => p
theorem mnI_assoc (p q r : Int) : mnI (mnI p q) r = mnI p (mnI q r) := by unfold mnI; grind
theorem ptl_min (x : Rat) (p : Int) : ∀ (q : Int) (ns : List Int) (ys : List Rat), ptl x (mnI p q) ns ys = mnI p (ptl x q ns ys)
  | q, [], _ => by cases ‹List Rat› <;> rfl
  | q, _ :: _, [] => rfl
  | q, r :: ns, y :: ys => by
    simp only [ptl]
    by_cases h : y = x
    · rw [if_pos h, if_pos h, mnI_assoc, ptl_min x p]
    · rw [if_neg h, if_neg h, ptl_min x p]
theorem ptl_none (x : Rat) (p : Int) : ∀ (ns : List Int) (ys : List Rat), (∀ y ∈ ys, y ≠ x) → ptl x p ns ys = p
  | [], _, _ => by cases ‹List Rat› <;> rfl
  | _ :: _, [], _ => rfl
  | r :: ns, y :: ys, h => by
    simp only [ptl]
    rw [if_neg (h y List.mem_cons_self)]
    exact ptl_none x p ns ys fun z hz => h z (List.mem_cons_of_mem _ hz)
theorem spd_ptl : ∀ (p : Int) (x : Rat) (ns : List Int) (xs : List Rat), ns.length = xs.length → (x :: xs).Pairwise (· ≤ ·) → (spd (p :: ns) (x :: xs)).headD 0 = ptl x p ns xs
  | p, x, [], [], _, _ => rfl
  | _, _, [], _ :: _, h, _ => by simp at h
  | _, _, _ :: _, [], h, _ => by simp at h
  | p, x, q :: ns, y :: ys, h, hp => by
    have hp' := List.pairwise_cons.mp hp
    have ih := spd_ptl q y ns ys (by simpa using h) hp'.2
    have l := spd_len (q :: ns) (y :: ys) h
    cases hs : spd (q :: ns) (y :: ys) with
    | nil => rw [hs] at l; simp at l
    | cons s r =>
      rw [hs, List.headD_cons] at ih
      have e0 : spd (p :: q :: ns) (x :: y :: ys) = (if x = y then mnI p s else p) :: (s :: r) := by
        have : spd (p :: q :: ns) (x :: y :: ys) = (match y :: ys, spd (q :: ns) (y :: ys) with | y :: _, s :: _ => if x = y then mnI p s else p | _, _ => p) :: spd (q :: ns) (y :: ys) := rfl
        rw [this, hs]
      rw [e0, List.headD_cons]
      simp only [ptl]
      by_cases e : x = y
      · subst e
        rw [if_pos rfl, if_pos rfl, ptl_min, ih]
      · have hxy := hp'.1 y List.mem_cons_self
        have hl := (List.pairwise_cons.mp hp'.2).1
        rw [if_neg e, if_neg (fun z => e z.symm)]
        refine (ptl_none x p ns ys fun z hz => ?_).symm
        have := hl z hz
        grind
theorem spd_get {ns : List Int} {xs : List Rat} (hl : ns.length = xs.length) (hp : xs.Pairwise (· ≤ ·)) : ∀ {j : Nat} (hj : j < ns.length), (spd ns xs)[j]? = some (ptl xs[j] ns[j] (ns.drop (j + 1)) (xs.drop (j + 1))) := by
  intro j hj
  induction j generalizing ns xs with
  | zero =>
    match ns, xs, hl, hp, hj with
    | p :: ns, x :: xs, hl, hp, _ =>
      have := spd_ptl p x ns xs (by simpa using hl) hp
      simp only [spd] at this ⊢
      simp only [List.headD_cons] at this
      simp [this]
  | succ j ih =>
    match ns, xs, hl, hp, hj with
    | p :: ns, x :: xs, hl, hp, hj =>
      have := ih (ns := ns) (xs := xs) (by simpa using hl) (List.pairwise_cons.mp hp).2 (by simpa using hj)
      simp only [spd]
      simpa using this

/-! ### amounts over a common lower number -/
def Fr (D : Int) (r : Rat) : Prop := ∃ z : Int, r = (z : Rat) / (D : Rat)
theorem Fr.add {D : Int} {a b : Rat} (ha : Fr D a) (hb : Fr D b) : Fr D (a + b) := by
  obtain ⟨x, rfl⟩ := ha
  obtain ⟨y, rfl⟩ := hb
  exact ⟨x + y, by rw [Rat.intCast_add]; grind⟩
theorem Fr.sub {D : Int} {a b : Rat} (ha : Fr D a) (hb : Fr D b) : Fr D (a - b) := by
  obtain ⟨x, rfl⟩ := ha
  obtain ⟨y, rfl⟩ := hb
  exact ⟨x - y, by rw [Rat.intCast_sub]; grind⟩
theorem Fr.mulI {D : Int} {a : Rat} (ha : Fr D a) (k : Int) : Fr D ((k : Rat) * a) := by
  obtain ⟨x, rfl⟩ := ha
  exact ⟨k * x, by rw [Rat.intCast_mul]; grind⟩
theorem Fr.divI {D : Int} {a : Rat} (hD : D ≠ 0) (ha : Fr D a) {k : Int} (hk : k ≠ 0) : Fr (D * k) (a / (k : Rat)) := by
  obtain ⟨x, rfl⟩ := ha
  have h1 := cn hD
  have h2 := cn hk
  exact ⟨x, by rw [Rat.intCast_mul]; grind⟩
theorem Fr.int {D : Int} (hD : D ≠ 0) (k : Int) : Fr D (k : Rat) := ⟨k * D, by have := cn hD; rw [Rat.intCast_mul]; grind⟩
theorem Fr.zero {D : Int} (hD : D ≠ 0) : Fr D 0 := Fr.int hD 0
theorem Fr.scale {D : Int} {a : Rat} (hD : D ≠ 0) (ha : Fr D a) {k : Int} (hk : k ≠ 0) : Fr (D * k) a := by
  obtain ⟨x, rfl⟩ := ha
  have h1 := cn hD
  have h2 := cn hk
  exact ⟨x * k, by rw [Rat.intCast_mul, Rat.intCast_mul]; grind⟩
theorem Fr.of {n d D k : Int} (hd : d ≠ 0) (hk : k ≠ 0) (e : D = d * k) : Fr D ((n : Rat) / (d : Rat)) := by
  subst e
  have h1 := cn hd
  have h2 := cn hk
  exact ⟨n * k, by rw [Rat.intCast_mul, Rat.intCast_mul]; grind⟩
theorem ile {a b : Int} (h : (a : Rat) ≤ (b : Rat)) : a ≤ b := Rat.intCast_le_intCast.mp h
theorem fr_bd {D B : Int} {r : Rat} {k : Nat} (hD : 0 < D) (h : Fr D r) (h0 : -(B : Rat) ≤ r) (h1 : r ≤ (B : Rat)) (hb : (B * D).natAbs < 2 ^ k) (hd : D.natAbs < 2 ^ k) : Bd k (am r) := by
  obtain ⟨z, rfl⟩ := h
  have kD := cp hD
  have e1 : z ≤ B * D := ile (by
    rw [Rat.intCast_mul]
    have := Rat.mul_le_mul_of_nonneg_right h1 (Rat.le_of_lt kD)
    rw [Rat.div_mul_cancel (cn (by omega))] at this
    exact this)
  have e2 : -(B * D) ≤ z := ile (by
    rw [Rat.intCast_neg, Rat.intCast_mul]
    have := Rat.mul_le_mul_of_nonneg_right h0 (Rat.le_of_lt kD)
    rw [Rat.div_mul_cancel (cn (by omega)), Rat.neg_mul] at this
    exact this)
  have s := amt_spec (n := z) (d := D) (by omega)
  rw [← amt_am (by omega)]
  exact ⟨Nat.lt_of_le_of_lt (Nat.le_trans s.2.2.1 (by omega)) hb, Nat.lt_of_le_of_lt s.2.2.2 hd⟩

/-! ### meetings -/
def mnR (a b : Rat) : Rat := if b < a then b else a
def meetF (g : List Int) (ps : List Rat) (h : Rat) : Nat → Rat
  | 0 => h
  | i + 1 => if g.getD (i + 1) 0 < g.getD i 0 then mnR (meetF g ps h i) ((ps.getD (i + 1) 0 - ps.getD i 0) / ((g.getD i 0 - g.getD (i + 1) 0 : Int) : Rat)) else meetF g ps h i
def lastH (L : Int) (ns : List Int) (ps : List Rat) : Rat := ((L : Rat) - ps.getD (ns.length - 1) 0) / ((ns.getD (ns.length - 1) 0 : Int) : Rat)
def meetM (L : Int) (ns : List Int) (ps : List Rat) : Rat := meetF (spd ns ps) ps (lastH L ns ps) (ns.length - 1)
/-- hands on a way of labour L, all places over D -/
structure Wk (D L : Int) (ns : List Int) (ps : List Rat) : Prop where
  eq : ns.length = ps.length
  n8 : ns.length ≤ 8
  pace : ∀ n ∈ ns, 1 ≤ n ∧ n ≤ 12
  rise : ps.Pairwise (· ≤ ·)
  nn : ∀ p ∈ ps, 0 ≤ p
  fire : ∀ p ∈ ps, p ≤ (L : Rat)
  fr : ∀ p ∈ ps, Fr D p
theorem getD_mem {α : Type} {l : List α} {i : Nat} {d : α} (h : i < l.length) : l.getD i d ∈ l := by
  rw [List.getD_eq_getElem?_getD, List.getElem?_eq_getElem h]
  exact List.getElem_mem h
theorem getD_lt {α : Type} {l : List α} {i : Nat} {d : α} (h : i < l.length) : l.getD i d = l[i] := by
  rw [List.getD_eq_getElem?_getD, List.getElem?_eq_getElem h]
  rfl
theorem spd_at {ns : List Int} {xs : List Rat} (hl : ns.length = xs.length) {j : Nat} (hj : j < ns.length) : (spd ns xs).drop j = spd (ns.drop j) (xs.drop j) := by
  induction j generalizing ns xs with
  | zero => rfl
  | succ j ih =>
    match ns, xs, hl, hj with
    | p :: ns, x :: xs, hl, hj =>
      simp only [spd, List.drop_succ_cons]
      exact ih (by simpa using hl) (by simpa using hj)
theorem spd_rec {ns : List Int} {xs : List Rat} (hl : ns.length = xs.length) {j : Nat} (hj : j < ns.length) :
    (spd ns xs).getD j 0 = if j + 1 < ns.length ∧ xs.getD j 0 = xs.getD (j + 1) 0 then mnI (ns.getD j 0) ((spd ns xs).getD (j + 1) 0) else ns.getD j 0 := by
  have st := spd_step hl hj
  have e0 : (spd ns xs).getD j 0 = ((spd ns xs).drop j).headD 0 := by
    rw [List.getD_eq_getElem?_getD, List.headD_eq_head?_getD, List.head?_drop]
  rw [e0, spd_at hl hj, st, List.headD_cons, getD_lt hj]
  by_cases h : j + 1 < ns.length
  · rw [dif_pos h, getD_lt (show j < xs.length by omega), getD_lt (show j + 1 < xs.length by omega)]
    have e1 : (spd (ns.drop (j + 1)) (xs.drop (j + 1))).headD 0 = (spd ns xs).getD (j + 1) 0 := by
      rw [← spd_at hl h, List.getD_eq_getElem?_getD, List.headD_eq_head?_getD, List.head?_drop]
    rw [e1]
    by_cases e : xs[j] = xs[j + 1]
    · rw [if_pos e, if_pos ⟨h, e⟩]
    · rw [if_neg e, if_neg (fun z => e z.2)]
  · rw [dif_neg h, if_neg (fun z => h z.1)]
theorem mnI_le_l (p q : Int) : mnI p q ≤ p := by unfold mnI; split <;> omega
theorem mnI_le_r (p q : Int) : mnI p q ≤ q := by unfold mnI; split <;> omega
section
variable {D L : Int} {ns : List Int} {ps : List Rat}
theorem spd_bd (w : Wk D L ns ps) : ∀ {j : Nat}, j < ns.length → 1 ≤ (spd ns ps).getD j 0 ∧ (spd ns ps).getD j 0 ≤ 12 := by
  have key : ∀ k j, j < ns.length → ns.length - j ≤ k → 1 ≤ (spd ns ps).getD j 0 ∧ (spd ns ps).getD j 0 ≤ 12 := by
    intro k
    induction k with
    | zero => intro j h1 h2; omega
    | succ k ih =>
      intro j h1 h2
      have hp := w.pace _ (getD_mem (d := 0) h1)
      rw [spd_rec w.eq h1]
      split
      · rename_i h
        have := ih (j + 1) h.1 (by omega)
        unfold mnI
        split <;> omega
      · exact hp
  intro j h
  exact key _ j h (Nat.le_refl _)
theorem spd_same (w : Wk D L ns ps) {j : Nat} (h : j + 1 < ns.length) (e : ps.getD j 0 = ps.getD (j + 1) 0) : (spd ns ps).getD j 0 ≤ (spd ns ps).getD (j + 1) 0 := by
  rw [spd_rec w.eq (show j < ns.length by omega), if_pos ⟨h, e⟩]
  exact mnI_le_r _ _
theorem spd_last (w : Wk D L ns ps) (h : 0 < ns.length) : (spd ns ps).getD (ns.length - 1) 0 = ns.getD (ns.length - 1) 0 := by
  rw [spd_rec w.eq (by omega), if_neg (fun z => by omega)]
theorem ps_le (w : Wk D L ns ps) {j : Nat} (h : j + 1 < ns.length) : ps.getD j 0 ≤ ps.getD (j + 1) 0 := by
  have h2 : j + 1 < ps.length := by have := w.eq; omega
  rw [getD_lt (show j < ps.length by omega), getD_lt h2]
  exact List.pairwise_iff_getElem.mp w.rise j (j + 1) (by omega) h2 (by omega)
/-- where the one behind is quicker, they are apart -/
theorem apart (w : Wk D L ns ps) {j : Nat} (h : j + 1 < ns.length) (g : (spd ns ps).getD (j + 1) 0 < (spd ns ps).getD j 0) : ps.getD j 0 < ps.getD (j + 1) 0 := by
  have h1 := ps_le w h
  by_cases e : ps.getD j 0 = ps.getD (j + 1) 0
  · have := spd_same w h e
    omega
  · grind
theorem mnR_le_l (a b : Rat) : mnR a b ≤ a := by unfold mnR; split <;> grind
theorem mnR_le_r (a b : Rat) : mnR a b ≤ b := by unfold mnR; split <;> grind
theorem mnR_or (a b : Rat) : mnR a b = a ∨ mnR a b = b := by unfold mnR; split <;> simp
def cand (g : List Int) (ps : List Rat) (j : Nat) : Rat := (ps.getD (j + 1) 0 - ps.getD j 0) / ((g.getD j 0 - g.getD (j + 1) 0 : Int) : Rat)
theorem meetF_or (g : List Int) (ps : List Rat) (h : Rat) : ∀ i, meetF g ps h i = h ∨ ∃ j, j < i ∧ g.getD (j + 1) 0 < g.getD j 0 ∧ meetF g ps h i = cand g ps j
  | 0 => .inl rfl
  | i + 1 => by
    simp only [meetF]
    split
    · rename_i hg
      rcases mnR_or (meetF g ps h i) ((ps.getD (i + 1) 0 - ps.getD i 0) / ((g.getD i 0 - g.getD (i + 1) 0 : Int) : Rat)) with e | e
      · rw [e]
        rcases meetF_or g ps h i with e | ⟨j, hj, hgj, e⟩
        · exact .inl e
        · exact .inr ⟨j, by omega, hgj, e⟩
      · rw [e]
        exact .inr ⟨i, by omega, hg, rfl⟩
    · rcases meetF_or g ps h i with e | ⟨j, hj, hgj, e⟩
      · exact .inl e
      · exact .inr ⟨j, by omega, hgj, e⟩
theorem meetF_le (g : List Int) (ps : List Rat) (h : Rat) : ∀ i, meetF g ps h i ≤ h ∧ ∀ j, j < i → g.getD (j + 1) 0 < g.getD j 0 → meetF g ps h i ≤ cand g ps j
  | 0 => ⟨by simp only [meetF]; grind, fun j hj => by omega⟩
  | i + 1 => by
    have ih := meetF_le g ps h i
    simp only [meetF]
    split
    · rename_i hg
      have a := mnR_le_l (meetF g ps h i) ((ps.getD (i + 1) 0 - ps.getD i 0) / ((g.getD i 0 - g.getD (i + 1) 0 : Int) : Rat))
      have b := mnR_le_r (meetF g ps h i) ((ps.getD (i + 1) 0 - ps.getD i 0) / ((g.getD i 0 - g.getD (i + 1) 0 : Int) : Rat))
      refine ⟨by grind, fun j hj hgj => ?_⟩
      by_cases e : j = i
      · subst e; exact b
      · have := ih.2 j (by omega) hgj
        grind
    · rename_i hg
      refine ⟨ih.1, fun j hj hgj => ?_⟩
      by_cases e : j = i
      · subst e; exact absurd hgj hg
      · exact ih.2 j (by omega) hgj
theorem lt_div {a b : Rat} {k : Int} (hk : 0 < k) (h : a < b) : 0 < (b - a) / (k : Rat) := (Rat.lt_div_iff (cp hk)).mpr (by rw [Rat.zero_mul]; grind)
theorem div_mul {a : Rat} {k : Int} (hk : 0 < k) : a / (k : Rat) * (k : Rat) = a := Rat.div_mul_cancel (cn (by omega))
theorem div_le1 {a : Rat} {k : Int} (hk : 1 ≤ k) (ha : 0 ≤ a) : a / (k : Rat) ≤ a := by
  have e := div_mul (a := a) (show 0 < k by omega)
  have kp := cp (show 0 < k by omega)
  have h1 : (1 : Rat) ≤ (k : Rat) := Rat.intCast_le_intCast.mpr hk
  by_cases c : a / (k : Rat) < 0
  · have := Rat.mul_lt_mul_of_pos_right c kp
    grind
  · have := Rat.mul_le_mul_of_nonneg_left h1 (Rat.not_lt.mp c)
    grind
/-- the hours up to the i-th step of the search: over one of 1 to 12 parts -/
theorem meetF_ok (w : Wk D L ns ps) (hD : D ≠ 0) (hn : 0 < ns.length) {i : Nat} (hi : i ≤ ns.length - 1) : ∃ k : Int, 1 ≤ k ∧ k ≤ 12 ∧ Fr (D * k) (meetF (spd ns ps) ps (lastH L ns ps) i) ∧ 0 ≤ meetF (spd ns ps) ps (lastH L ns ps) i ∧ meetF (spd ns ps) ps (lastH L ns ps) i ≤ (L : Rat) := by
  have hle := w.eq
  have p0 := w.pace _ (getD_mem (d := 0) (show ns.length - 1 < ns.length by omega))
  have q0 := w.nn _ (getD_mem (d := 0) (show ns.length - 1 < ps.length by omega))
  have q1 := w.fire _ (getD_mem (d := 0) (show ns.length - 1 < ps.length by omega))
  have q2 := w.fr _ (getD_mem (d := 0) (show ns.length - 1 < ps.length by omega))
  have dp := cp (show 0 < ns.getD (ns.length - 1) 0 by omega)
  have em : lastH L ns ps * ((ns.getD (ns.length - 1) 0 : Int) : Rat) = (L : Rat) - ps.getD (ns.length - 1) 0 := div_mul (by omega)
  have h1 : (1 : Rat) ≤ ((ns.getD (ns.length - 1) 0 : Int) : Rat) := Rat.intCast_le_intCast.mpr p0.1
  have l0 : 0 ≤ lastH L ns ps := by
    by_cases c : lastH L ns ps < 0
    · have := Rat.mul_lt_mul_of_pos_right c dp
      grind
    · exact Rat.not_lt.mp c
  have lL : lastH L ns ps ≤ (L : Rat) := by
    have := Rat.mul_le_mul_of_nonneg_left h1 l0
    grind
  rcases meetF_or (spd ns ps) ps (lastH L ns ps) i with e | ⟨j, hj, hg, e⟩
  · rw [e]
    exact ⟨_, p0.1, p0.2, ((Fr.int hD L).sub q2).divI hD (by omega), l0, lL⟩
  · rw [e]
    have hj1 : j + 1 < ns.length := by omega
    have b0 := spd_bd w (show j < ns.length by omega)
    have b1 := spd_bd w hj1
    have ap := apart w hj1 hg
    have r2 := w.fr _ (getD_mem (d := 0) (show j < ps.length by omega))
    have r3 := w.fr _ (getD_mem (d := 0) (show j + 1 < ps.length by omega))
    refine ⟨(spd ns ps).getD j 0 - (spd ns ps).getD (j + 1) 0, by omega, by omega, (r3.sub r2).divI hD (by omega), Rat.le_of_lt (lt_div (by omega) ap), ?_⟩
    rw [← e]
    exact Rat.le_trans (meetF_le (spd ns ps) ps (lastH L ns ps) i).1 lL
theorem meet_pos (w : Wk D L ns ps) (hn : 0 < ns.length) (hf : ∀ p ∈ ps, p < (L : Rat)) : 0 < meetM L ns ps := by
  have hle := w.eq
  unfold meetM
  rcases meetF_or (spd ns ps) ps (lastH L ns ps) (ns.length - 1) with e | ⟨j, hj, hg, e⟩
  · rw [e]
    have p0 := w.pace _ (getD_mem (d := 0) (show ns.length - 1 < ns.length by omega))
    exact lt_div (by omega) (hf _ (getD_mem (d := 0) (show ns.length - 1 < ps.length by omega)))
  · rw [e]
    exact lt_div (by omega) (apart w (by omega) hg)
/-- for so long nobody is beyond the next one -/
theorem meet_order (w : Wk D L ns ps) {t : Rat} (h0 : 0 ≤ t) (ht : t ≤ meetM L ns ps) {j : Nat} (hj : j + 1 < ns.length) :
    ps.getD j 0 + t * (((spd ns ps).getD j 0 : Int) : Rat) ≤ ps.getD (j + 1) 0 + t * (((spd ns ps).getD (j + 1) 0 : Int) : Rat) := by
  have h1 := ps_le w hj
  by_cases g : (spd ns ps).getD (j + 1) 0 < (spd ns ps).getD j 0
  · have c := (meetF_le (spd ns ps) ps (lastH L ns ps) (ns.length - 1)).2 j (by omega) g
    have c2 : t ≤ cand (spd ns ps) ps j := Rat.le_trans ht c
    have kp := cp (show 0 < (spd ns ps).getD j 0 - (spd ns ps).getD (j + 1) 0 by omega)
    have e : cand (spd ns ps) ps j * (((spd ns ps).getD j 0 - (spd ns ps).getD (j + 1) 0 : Int) : Rat) = ps.getD (j + 1) 0 - ps.getD j 0 := div_mul (by omega)
    have := Rat.mul_le_mul_of_nonneg_right c2 (Rat.le_of_lt kp)
    rw [e, Rat.intCast_sub] at this
    grind
  · have k : (((spd ns ps).getD j 0 : Int) : Rat) ≤ (((spd ns ps).getD (j + 1) 0 : Int) : Rat) := Rat.intCast_le_intCast.mpr (by omega)
    have := Rat.mul_le_mul_of_nonneg_left k h0
    grind
theorem meet_fire (w : Wk D L ns ps) (hn : 0 < ns.length) {t : Rat} (ht : t ≤ meetM L ns ps) : ps.getD (ns.length - 1) 0 + t * (((spd ns ps).getD (ns.length - 1) 0 : Int) : Rat) ≤ (L : Rat) := by
  have c := (meetF_le (spd ns ps) ps (lastH L ns ps) (ns.length - 1)).1
  have c2 : t ≤ lastH L ns ps := Rat.le_trans ht c
  have p0 := w.pace _ (getD_mem (d := 0) (show ns.length - 1 < ns.length by omega))
  have e : lastH L ns ps * ((ns.getD (ns.length - 1) 0 : Int) : Rat) = (L : Rat) - ps.getD (ns.length - 1) 0 := div_mul (by omega)
  rw [spd_last w hn]
  have := Rat.mul_le_mul_of_nonneg_right c2 (Rat.le_of_lt (cp (show 0 < ns.getD (ns.length - 1) 0 by omega)))
  grind
/-- somebody has come up -/
theorem meet_come (w : Wk D L ns ps) (hn : 0 < ns.length) : (ps.getD (ns.length - 1) 0 + meetM L ns ps * (((spd ns ps).getD (ns.length - 1) 0 : Int) : Rat) = (L : Rat)) ∨
    ∃ j, j + 1 < ns.length ∧ ps.getD j 0 ≠ ps.getD (j + 1) 0 ∧ ps.getD j 0 + meetM L ns ps * (((spd ns ps).getD j 0 : Int) : Rat) = ps.getD (j + 1) 0 + meetM L ns ps * (((spd ns ps).getD (j + 1) 0 : Int) : Rat) := by
  have p0 := w.pace _ (getD_mem (d := 0) (show ns.length - 1 < ns.length by omega))
  unfold meetM
  rcases meetF_or (spd ns ps) ps (lastH L ns ps) (ns.length - 1) with e | ⟨j, hj, hg, e⟩
  · refine .inl ?_
    rw [e, spd_last w hn]
    have e : lastH L ns ps * ((ns.getD (ns.length - 1) 0 : Int) : Rat) = (L : Rat) - ps.getD (ns.length - 1) 0 := div_mul (by omega)
    grind
  · refine .inr ⟨j, by omega, ?_, ?_⟩
    · have := apart w (j := j) (by omega) hg
      grind
    · rw [e]
      have e : cand (spd ns ps) ps j * (((spd ns ps).getD j 0 - (spd ns ps).getD (j + 1) 0 : Int) : Rat) = ps.getD (j + 1) 0 - ps.getD j 0 := div_mul (by omega)
      rw [Rat.intCast_sub] at e
      grind
end

theorem shaped_am (x : Am) : SeqAt.shaped (.tuple [.int x.1, .int x.2]) = true := by
  simp [SeqAt.shaped, PyData.canLay0, PyData.canLayAll0, PyData.depth, PyData.depthAll]
theorem eqv_am (x y : Am) : PyData.eqv (.tuple [.int x.1, .int x.2]) (.tuple [.int y.1, .int y.2]) = decide (x = y) := by
  obtain ⟨a, b⟩ := x
  obtain ⟨c, d⟩ := y
  simp only [PyData.eqv, PyData.eqvAll, Bool.and_true, Prod.mk.injEq]
  by_cases h1 : a = c <;> by_cases h2 : b = d <;> simp [h1, h2]
theorem ne_am {x y : Am} (h : x = y) : (!PyData.eqv (.tuple [.int x.1, .int x.2]) (.tuple [.int y.1, .int y.2])) = false := by rw [eqv_am, decide_eq_true h]; rfl

theorem dpa_ints {K : PySem.W.Frag} {H : Hp} : ∀ ns : List Int, DpAll K H (ns.map V.int) (ns.map PyData.int)
  | [] => .nil
  | n :: ns => .cons (.int n) (dpa_ints ns)
theorem dp_ints {K : PySem.W.Frag} {H : Hp} {a : Addr} {ns : List Int} (h : SqL K H a (ns.map V.int)) : Dp K H (.ref a) (.list (ns.map PyData.int)) := .lst h (dpa_ints ns)
theorem depOk_ints {n : Nat} {ns : List Int} (h : ns.length ≤ 9000) : depOk (n + 1) (.list (ns.map PyData.int)) = true := by
  show (decide ((ns.map PyData.int).length ≤ 9000) && (ns.map PyData.int).all (depOk n)) = true
  rw [List.length_map, decide_eq_true h, Bool.true_and, List.all_map]
  exact List.all_eq_true.mpr fun q _ => by cases n <;> rfl
theorem depOk_amsN {n : Nat} {qs : List Am} (h : qs.length ≤ 9000) : depOk (n + 2) (.list (qs.map amD)) = true := by
  show (decide ((qs.map amD).length ≤ 9000) && (qs.map amD).all (depOk (n + 1))) = true
  rw [List.length_map, decide_eq_true h, Bool.true_and, List.all_map]
  refine List.all_eq_true.mpr fun q _ => ?_
  cases n <;> rfl

theorem ok_p_plus {f : Addr} {fd : FuncData} (F : Fun K "plus" "plus" s_p_plus f fd) (F_p_amount : Fn P w K mg base 2 "amount" ["num", "den"] (sp_p_amount K T)) : FnOk P w K mg base CX0 3 f fd ["one", "other"] (sp_p_plus K T) := by
  refine F.ok sc_p_plus (fun vs H Q E h => ?_) (fun cdv A outer s H vs Q E hr h => ?_)
  · obtain ⟨a, b, x, y, rfl, _⟩ := h
    rfl
  · obtain ⟨a, b, x, y, rfl, ha, hb, ⟨bx, by_⟩, ⟨hx, hy⟩, q⟩ := h
    refine ⟨_, (pss_one (ps_ret (pe_fn F_p_amount (hr.mono (by decide)) (pa_cons (pe_op op_add (pe_op op_mulW (pe_ix ix_tup (pv 0) pe_int (fun _ _ => rfl)) (pe_ix ix_tup (pv 1) pe_int (fun _ _ => rfl))) (pe_op op_mulW (pe_ix ix_tup (pv 1) pe_int (fun _ _ => rfl)) (pe_ix ix_tup (pv 0) pe_int (fun _ _ => rfl)))) (pa_cons (pe_op op_mulW (pe_ix ix_tup (pv 0) pe_int (fun _ _ => rfl)) (pe_ix ix_tup (pv 1) pe_int (fun _ _ => rfl))) pa_nil))))), ?_⟩
    refine ⟨_, rfl, a, _, 0, .int x.1, rfl, rfl, ha, atI_nat (j := 0) rfl, _, rfl, b, _, 1, .int y.2, rfl, rfl, hb, atI_nat (j := 1) rfl, _, _, rfl, rfl, wm bx.1 by_.2, ?_⟩
    refine ⟨_, rfl, b, _, 0, .int y.1, rfl, rfl, hb, atI_nat (j := 0) rfl, _, rfl, a, _, 1, .int x.2, rfl, rfl, ha, atI_nat (j := 1) rfl, _, _, rfl, rfl, wm by_.1 bx.2, _, _, rfl, rfl, ?_⟩
    refine ⟨_, rfl, a, _, 1, .int x.2, rfl, rfl, ha, atI_nat (j := 1) rfl, _, rfl, b, _, 1, .int y.2, rfl, rfl, hb, atI_nat (j := 1) rfl, _, _, rfl, rfl, wm bx.2 by_.2, ?_⟩
    exact ⟨_, _, rfl, Int.mul_ne_zero (by omega) (by omega), wl bx.2 by_.2, q⟩

theorem ok_p_minus {f : Addr} {fd : FuncData} (F : Fun K "minus" "minus" s_p_minus f fd) (F_p_amount : Fn P w K mg base 2 "amount" ["num", "den"] (sp_p_amount K T)) : FnOk P w K mg base CX0 3 f fd ["one", "other"] (sp_p_minus K T) := by
  refine F.ok sc_p_minus (fun vs H Q E h => ?_) (fun cdv A outer s H vs Q E hr h => ?_)
  · obtain ⟨a, b, x, y, rfl, _⟩ := h
    rfl
  · obtain ⟨a, b, x, y, rfl, ha, hb, ⟨bx, by_⟩, ⟨hx, hy⟩, q⟩ := h
    refine ⟨_, (pss_one (ps_ret (pe_fn F_p_amount (hr.mono (by decide)) (pa_cons (pe_op op_sub (pe_op op_mulW (pe_ix ix_tup (pv 0) pe_int (fun _ _ => rfl)) (pe_ix ix_tup (pv 1) pe_int (fun _ _ => rfl))) (pe_op op_mulW (pe_ix ix_tup (pv 1) pe_int (fun _ _ => rfl)) (pe_ix ix_tup (pv 0) pe_int (fun _ _ => rfl)))) (pa_cons (pe_op op_mulW (pe_ix ix_tup (pv 0) pe_int (fun _ _ => rfl)) (pe_ix ix_tup (pv 1) pe_int (fun _ _ => rfl))) pa_nil))))), ?_⟩
    refine ⟨_, rfl, a, _, 0, .int x.1, rfl, rfl, ha, atI_nat (j := 0) rfl, _, rfl, b, _, 1, .int y.2, rfl, rfl, hb, atI_nat (j := 1) rfl, _, _, rfl, rfl, wm bx.1 by_.2, ?_⟩
    refine ⟨_, rfl, b, _, 0, .int y.1, rfl, rfl, hb, atI_nat (j := 0) rfl, _, rfl, a, _, 1, .int x.2, rfl, rfl, ha, atI_nat (j := 1) rfl, _, _, rfl, rfl, wm by_.1 bx.2, _, _, rfl, rfl, ?_⟩
    refine ⟨_, rfl, a, _, 1, .int x.2, rfl, rfl, ha, atI_nat (j := 1) rfl, _, rfl, b, _, 1, .int y.2, rfl, rfl, hb, atI_nat (j := 1) rfl, _, _, rfl, rfl, wm bx.2 by_.2, ?_⟩
    exact ⟨_, _, rfl, Int.mul_ne_zero (by omega) (by omega), wl bx.2 by_.2, q⟩

theorem ok_p_times {f : Addr} {fd : FuncData} (F : Fun K "times" "times" s_p_times f fd) (F_p_amount : Fn P w K mg base 2 "amount" ["num", "den"] (sp_p_amount K T)) : FnOk P w K mg base CX0 3 f fd ["one", "other"] (sp_p_times K T) := by
  refine F.ok sc_p_times (fun vs H Q E h => ?_) (fun cdv A outer s H vs Q E hr h => ?_)
  · obtain ⟨a, b, x, y, rfl, _⟩ := h
    rfl
  · obtain ⟨a, b, x, y, rfl, ha, hb, ⟨bx, by_⟩, ⟨hx, hy⟩, q⟩ := h
    refine ⟨_, (pss_one (ps_ret (pe_fn F_p_amount (hr.mono (by decide)) (pa_cons (pe_op op_mulW (pe_ix ix_tup (pv 0) pe_int (fun _ _ => rfl)) (pe_ix ix_tup (pv 1) pe_int (fun _ _ => rfl))) (pa_cons (pe_op op_mulW (pe_ix ix_tup (pv 0) pe_int (fun _ _ => rfl)) (pe_ix ix_tup (pv 1) pe_int (fun _ _ => rfl))) pa_nil))))), ?_⟩
    refine ⟨_, rfl, a, _, 0, .int x.1, rfl, rfl, ha, atI_nat (j := 0) rfl, _, rfl, b, _, 0, .int y.1, rfl, rfl, hb, atI_nat (j := 0) rfl, _, _, rfl, rfl, wm bx.1 by_.1, ?_⟩
    refine ⟨_, rfl, a, _, 1, .int x.2, rfl, rfl, ha, atI_nat (j := 1) rfl, _, rfl, b, _, 1, .int y.2, rfl, rfl, hb, atI_nat (j := 1) rfl, _, _, rfl, rfl, wm bx.2 by_.2, ?_⟩
    exact ⟨_, _, rfl, Int.mul_ne_zero (by omega) (by omega), wl bx.2 by_.2, q⟩

theorem ok_p_over {f : Addr} {fd : FuncData} (F : Fun K "over" "over" s_p_over f fd) (F_p_amount : Fn P w K mg base 2 "amount" ["num", "den"] (sp_p_amount K T)) : FnOk P w K mg base CX0 3 f fd ["one", "other"] (sp_p_over K T) := by
  refine F.ok sc_p_over (fun vs H Q E h => ?_) (fun cdv A outer s H vs Q E hr h => ?_)
  · obtain ⟨a, b, x, y, rfl, _⟩ := h
    rfl
  · obtain ⟨a, b, x, y, rfl, ha, hb, ⟨bx, by_⟩, ⟨hx, hy, hn⟩, q⟩ := h
    refine ⟨_, (pss_one (ps_ret (pe_fn F_p_amount (hr.mono (by decide)) (pa_cons (pe_op op_mulW (pe_ix ix_tup (pv 0) pe_int (fun _ _ => rfl)) (pe_ix ix_tup (pv 1) pe_int (fun _ _ => rfl))) (pa_cons (pe_op op_mulW (pe_ix ix_tup (pv 0) pe_int (fun _ _ => rfl)) (pe_ix ix_tup (pv 1) pe_int (fun _ _ => rfl))) pa_nil))))), ?_⟩
    refine ⟨_, rfl, a, _, 0, .int x.1, rfl, rfl, ha, atI_nat (j := 0) rfl, _, rfl, b, _, 1, .int y.2, rfl, rfl, hb, atI_nat (j := 1) rfl, _, _, rfl, rfl, wm bx.1 by_.2, ?_⟩
    refine ⟨_, rfl, a, _, 1, .int x.2, rfl, rfl, ha, atI_nat (j := 1) rfl, _, rfl, b, _, 0, .int y.1, rfl, rfl, hb, atI_nat (j := 0) rfl, _, _, rfl, rfl, wm bx.2 by_.1, ?_⟩
    exact ⟨_, _, rfl, Int.mul_ne_zero (by omega) hn, wl bx.2 by_.1, q⟩

theorem ok_p_below {f : Addr} {fd : FuncData} (F : Fun K "below" "below" s_p_below f fd) : FnOk P w K mg base CX0 1 f fd ["one", "other"] (sp_p_below K T) := by
  refine F.ok sc_p_below (fun vs H Q E h => ?_) (fun cdv A outer s H vs Q E hr h => ?_)
  · obtain ⟨a, b, x, y, rfl, _⟩ := h
    rfl
  · obtain ⟨a, b, x, y, rfl, ha, hb, ⟨bx, by_⟩, q⟩ := h
    refine ⟨_, (pss_one (ps_ret (pe_cmpR op_lt (pe_op op_mulW (pe_ix ix_tup (pv 0) pe_int (fun _ _ => rfl)) (pe_ix ix_tup (pv 1) pe_int (fun _ _ => rfl))) (pe_op op_mulW (pe_ix ix_tup (pv 1) pe_int (fun _ _ => rfl)) (pe_ix ix_tup (pv 0) pe_int (fun _ _ => rfl))) (nomark _)))), ?_⟩
    refine ⟨_, rfl, a, _, 0, .int x.1, rfl, rfl, ha, atI_nat (j := 0) rfl, _, rfl, b, _, 1, .int y.2, rfl, rfl, hb, atI_nat (j := 1) rfl, _, _, rfl, rfl, wm bx.1 by_.2, ?_⟩
    exact ⟨_, rfl, b, _, 0, .int y.1, rfl, rfl, hb, atI_nat (j := 0) rfl, _, rfl, a, _, 1, .int x.2, rfl, rfl, ha, atI_nat (j := 1) rfl, _, _, rfl, rfl, wm by_.1 bx.2, _, _, rfl, rfl, q⟩

def sp_p_lesser (K : PySem.W.Frag) (T : Tb) : Sp := fun vs H Q _ => ∃ a b x y, vs = [.ref a, .ref b] ∧ SqT K H a (tv x) ∧ SqT K H b (tv y) ∧ (Bd 4000 x ∧ Bd 4000 y) ∧ Q (.ref (if belowA x y = true then a else b)) H
theorem ok_p_lesser {f : Addr} {fd : FuncData} (F : Fun K "lesser" "lesser" s_p_lesser f fd) (F_p_below : Fn P w K mg base 1 "below" ["one", "other"] (sp_p_below K T)) : FnOk P w K mg base CX0 2 f fd ["one", "other"] (sp_p_lesser K T) := by
  refine F.ok sc_p_lesser (fun vs H Q E h => ?_) (fun cdv A outer s H vs Q E hr h => ?_)
  · obtain ⟨a, b, x, y, rfl, _⟩ := h
    rfl
  · obtain ⟨a, b, x, y, rfl, ha, hb, bd, q⟩ := h
    refine ⟨_, (pss_one (ps_ret (pe_ifExp (pt_val (pe_fn F_p_below (hr.mono (by decide)) (pa_cons (pv 0) (pa_cons (pv 1) pa_nil)))) (pv 0) (pv 1)))), ?_⟩
    refine ⟨_, rfl, _, rfl, a, b, x, y, rfl, ha, hb, bd, _, rfl, ?_⟩
    cases hz : belowA x y with
    | true =>
      rw [hz, if_pos rfl] at q
      exact iteT ⟨_, rfl, q⟩
    | false =>
      rw [hz, if_neg (by decide)] at q
      exact iteF ⟨_, rfl, q⟩

theorem lesser_sq {K : PySem.W.Frag} {H : Hp} {a b : Addr} {x y : Rat} (ha : SqT K H a (tv (am x))) (hb : SqT K H b (tv (am y))) : SqT K H (if belowA (am x) (am y) = true then a else b) (tv (am (mnR x y))) := by
  rw [below_am]
  unfold mnR
  by_cases h : x < y
  · rw [decide_eq_true h, if_pos rfl, if_neg (by grind)]
    exact ha
  · rw [decide_eq_false h, if_neg (by decide)]
    by_cases h2 : y < x
    · rw [if_pos h2]
      exact hb
    · rw [if_neg h2, show x = y by grind]
      exact hb

theorem ok_PailError {f : Addr} {fd : FuncData} (F : Fun K "__init__" "PailError.__init__" s_p_PailError___init__ f fd) (mV : mg "ValueError" = none) (vV : PySem.W.findCls K (.type "ValueError") (.type "type") "__init__" = some (.val (.builtin "ValueError.__init__"))) :
    FnOk P w K mg base CX0 1 f fd ["self", "word"] (spInit2 K) := by
  refine F.ok sc_p_PailError___init__ (fun vs H Q E h => ?_) (fun cdv A outer s H vs Q E hr h => ?_)
  · obtain ⟨a, C, w, rfl, _⟩ := h
    rfl
  · obtain ⟨a, C, w, rfl, oc, nw, ea, q⟩ := h
    refine ⟨_, (pss_cons (ps_expr (pe_veinit (by rfl) mV vV (pa_cons (pv 0) (pa_cons (pv 1) pa_nil))))
      (pss_one (ps_ost (pv 0) (pv 1)))), ?_⟩
    refine ⟨_, rfl, _, rfl, a, C, [.str w], rfl, by show 1 ≤ 1000; decide, oc, ea, ?_⟩
    exact ⟨_, rfl, _, rfl, a, C, rfl, oc, nw, .inl ⟨ea, fun dx n ne => q dx n ne⟩⟩
theorem ok_BadWay {f fP CP : Addr} {fd fdP : FuncData} {mc : Value} (F : Fun K "__init__" "BadWay.__init__" s_p_BadWay___init__ f fd) (cr : ClX.CRead K CP mc) (hat : PySem.W.findCls K (.ref CP) mc "__init__" = some (.val (.ref fP))) (FP : FnOk P w K mg base CX0 1 fP fdP ["self", "word"] (spInit2 K))
    (gP : mg "PailError" = some (.ref CP)) (kP : PySem.W.keepIn K (.ref fP) = true) (bP : Binds K fdP ["self", "word"] []) : FnOk P w K mg base CX0 2 f fd ["self"] (spInit "bad way" K) := by
  refine F.ok sc_p_BadWay___init__ (fun vs H Q E h => ?_) (fun cdv A outer s H vs Q E hr h => ?_)
  · obtain ⟨a, C, rfl, _⟩ := h
    rfl
  · obtain ⟨a, C, rfl, oc, nw, ea, q⟩ := h
    refine ⟨_, (pss_one (ps_expr (pe_clsfn cr hat FP hr (by rfl) gP kP bP (pa_cons (pv 0) (pa_cons pe_str pa_nil))))), ?_⟩
    exact ⟨_, rfl, a, C, "bad way", rfl, oc, nw, ea, q⟩
theorem ok_BadName {f fP CP : Addr} {fd fdP : FuncData} {mc : Value} (F : Fun K "__init__" "BadName.__init__" s_p_BadName___init__ f fd) (cr : ClX.CRead K CP mc) (hat : PySem.W.findCls K (.ref CP) mc "__init__" = some (.val (.ref fP))) (FP : FnOk P w K mg base CX0 1 fP fdP ["self", "word"] (spInit2 K))
    (gP : mg "PailError" = some (.ref CP)) (kP : PySem.W.keepIn K (.ref fP) = true) (bP : Binds K fdP ["self", "word"] []) : FnOk P w K mg base CX0 2 f fd ["self"] (spInit "bad name" K) := by
  refine F.ok sc_p_BadName___init__ (fun vs H Q E h => ?_) (fun cdv A outer s H vs Q E hr h => ?_)
  · obtain ⟨a, C, rfl, _⟩ := h
    rfl
  · obtain ⟨a, C, rfl, oc, nw, ea, q⟩ := h
    refine ⟨_, (pss_one (ps_expr (pe_clsfn cr hat FP hr (by rfl) gP kP bP (pa_cons (pv 0) (pa_cons pe_str pa_nil))))), ?_⟩
    exact ⟨_, rfl, a, C, "bad name", rfl, oc, nw, ea, q⟩
theorem ok_Taken {f fP CP : Addr} {fd fdP : FuncData} {mc : Value} (F : Fun K "__init__" "Taken.__init__" s_p_Taken___init__ f fd) (cr : ClX.CRead K CP mc) (hat : PySem.W.findCls K (.ref CP) mc "__init__" = some (.val (.ref fP))) (FP : FnOk P w K mg base CX0 1 fP fdP ["self", "word"] (spInit2 K))
    (gP : mg "PailError" = some (.ref CP)) (kP : PySem.W.keepIn K (.ref fP) = true) (bP : Binds K fdP ["self", "word"] []) : FnOk P w K mg base CX0 2 f fd ["self"] (spInit "taken" K) := by
  refine F.ok sc_p_Taken___init__ (fun vs H Q E h => ?_) (fun cdv A outer s H vs Q E hr h => ?_)
  · obtain ⟨a, C, rfl, _⟩ := h
    rfl
  · obtain ⟨a, C, rfl, oc, nw, ea, q⟩ := h
    refine ⟨_, (pss_one (ps_expr (pe_clsfn cr hat FP hr (by rfl) gP kP bP (pa_cons (pv 0) (pa_cons pe_str pa_nil))))), ?_⟩
    exact ⟨_, rfl, a, C, "taken", rfl, oc, nw, ea, q⟩
theorem ok_BadPace {f fP CP : Addr} {fd fdP : FuncData} {mc : Value} (F : Fun K "__init__" "BadPace.__init__" s_p_BadPace___init__ f fd) (cr : ClX.CRead K CP mc) (hat : PySem.W.findCls K (.ref CP) mc "__init__" = some (.val (.ref fP))) (FP : FnOk P w K mg base CX0 1 fP fdP ["self", "word"] (spInit2 K))
    (gP : mg "PailError" = some (.ref CP)) (kP : PySem.W.keepIn K (.ref fP) = true) (bP : Binds K fdP ["self", "word"] []) : FnOk P w K mg base CX0 2 f fd ["self"] (spInit "bad pace" K) := by
  refine F.ok sc_p_BadPace___init__ (fun vs H Q E h => ?_) (fun cdv A outer s H vs Q E hr h => ?_)
  · obtain ⟨a, C, rfl, _⟩ := h
    rfl
  · obtain ⟨a, C, rfl, oc, nw, ea, q⟩ := h
    refine ⟨_, (pss_one (ps_expr (pe_clsfn cr hat FP hr (by rfl) gP kP bP (pa_cons (pv 0) (pa_cons pe_str pa_nil))))), ?_⟩
    exact ⟨_, rfl, a, C, "bad pace", rfl, oc, nw, ea, q⟩
theorem ok_Full {f fP CP : Addr} {fd fdP : FuncData} {mc : Value} (F : Fun K "__init__" "Full.__init__" s_p_Full___init__ f fd) (cr : ClX.CRead K CP mc) (hat : PySem.W.findCls K (.ref CP) mc "__init__" = some (.val (.ref fP))) (FP : FnOk P w K mg base CX0 1 fP fdP ["self", "word"] (spInit2 K))
    (gP : mg "PailError" = some (.ref CP)) (kP : PySem.W.keepIn K (.ref fP) = true) (bP : Binds K fdP ["self", "word"] []) : FnOk P w K mg base CX0 2 f fd ["self"] (spInit "full" K) := by
  refine F.ok sc_p_Full___init__ (fun vs H Q E h => ?_) (fun cdv A outer s H vs Q E hr h => ?_)
  · obtain ⟨a, C, rfl, _⟩ := h
    rfl
  · obtain ⟨a, C, rfl, oc, nw, ea, q⟩ := h
    refine ⟨_, (pss_one (ps_expr (pe_clsfn cr hat FP hr (by rfl) gP kP bP (pa_cons (pv 0) (pa_cons pe_str pa_nil))))), ?_⟩
    exact ⟨_, rfl, a, C, "full", rfl, oc, nw, ea, q⟩
theorem ok_NoHand {f fP CP : Addr} {fd fdP : FuncData} {mc : Value} (F : Fun K "__init__" "NoHand.__init__" s_p_NoHand___init__ f fd) (cr : ClX.CRead K CP mc) (hat : PySem.W.findCls K (.ref CP) mc "__init__" = some (.val (.ref fP))) (FP : FnOk P w K mg base CX0 1 fP fdP ["self", "word"] (spInit2 K))
    (gP : mg "PailError" = some (.ref CP)) (kP : PySem.W.keepIn K (.ref fP) = true) (bP : Binds K fdP ["self", "word"] []) : FnOk P w K mg base CX0 2 f fd ["self"] (spInit "no hand" K) := by
  refine F.ok sc_p_NoHand___init__ (fun vs H Q E h => ?_) (fun cdv A outer s H vs Q E hr h => ?_)
  · obtain ⟨a, C, rfl, _⟩ := h
    rfl
  · obtain ⟨a, C, rfl, oc, nw, ea, q⟩ := h
    refine ⟨_, (pss_one (ps_expr (pe_clsfn cr hat FP hr (by rfl) gP kP bP (pa_cons (pv 0) (pa_cons pe_str pa_nil))))), ?_⟩
    exact ⟨_, rfl, a, C, "no hand", rfl, oc, nw, ea, q⟩
theorem ok_BadCount {f fP CP : Addr} {fd fdP : FuncData} {mc : Value} (F : Fun K "__init__" "BadCount.__init__" s_p_BadCount___init__ f fd) (cr : ClX.CRead K CP mc) (hat : PySem.W.findCls K (.ref CP) mc "__init__" = some (.val (.ref fP))) (FP : FnOk P w K mg base CX0 1 fP fdP ["self", "word"] (spInit2 K))
    (gP : mg "PailError" = some (.ref CP)) (kP : PySem.W.keepIn K (.ref fP) = true) (bP : Binds K fdP ["self", "word"] []) : FnOk P w K mg base CX0 2 f fd ["self"] (spInit "bad count" K) := by
  refine F.ok sc_p_BadCount___init__ (fun vs H Q E h => ?_) (fun cdv A outer s H vs Q E hr h => ?_)
  · obtain ⟨a, C, rfl, _⟩ := h
    rfl
  · obtain ⟨a, C, rfl, oc, nw, ea, q⟩ := h
    refine ⟨_, (pss_one (ps_expr (pe_clsfn cr hat FP hr (by rfl) gP kP bP (pa_cons (pv 0) (pa_cons pe_str pa_nil))))), ?_⟩
    exact ⟨_, rfl, a, C, "bad count", rfl, oc, nw, ea, q⟩
theorem ok_Nobody {f fP CP : Addr} {fd fdP : FuncData} {mc : Value} (F : Fun K "__init__" "Nobody.__init__" s_p_Nobody___init__ f fd) (cr : ClX.CRead K CP mc) (hat : PySem.W.findCls K (.ref CP) mc "__init__" = some (.val (.ref fP))) (FP : FnOk P w K mg base CX0 1 fP fdP ["self", "word"] (spInit2 K))
    (gP : mg "PailError" = some (.ref CP)) (kP : PySem.W.keepIn K (.ref fP) = true) (bP : Binds K fdP ["self", "word"] []) : FnOk P w K mg base CX0 2 f fd ["self"] (spInit "nobody" K) := by
  refine F.ok sc_p_Nobody___init__ (fun vs H Q E h => ?_) (fun cdv A outer s H vs Q E hr h => ?_)
  · obtain ⟨a, C, rfl, _⟩ := h
    rfl
  · obtain ⟨a, C, rfl, oc, nw, ea, q⟩ := h
    refine ⟨_, (pss_one (ps_expr (pe_clsfn cr hat FP hr (by rfl) gP kP bP (pa_cons (pv 0) (pa_cons pe_str pa_nil))))), ?_⟩
    exact ⟨_, rfl, a, C, "nobody", rfl, oc, nw, ea, q⟩
theorem ok_BadPlace {f fP CP : Addr} {fd fdP : FuncData} {mc : Value} (F : Fun K "__init__" "BadPlace.__init__" s_p_BadPlace___init__ f fd) (cr : ClX.CRead K CP mc) (hat : PySem.W.findCls K (.ref CP) mc "__init__" = some (.val (.ref fP))) (FP : FnOk P w K mg base CX0 1 fP fdP ["self", "word"] (spInit2 K))
    (gP : mg "PailError" = some (.ref CP)) (kP : PySem.W.keepIn K (.ref fP) = true) (bP : Binds K fdP ["self", "word"] []) : FnOk P w K mg base CX0 2 f fd ["self"] (spInit "bad place" K) := by
  refine F.ok sc_p_BadPlace___init__ (fun vs H Q E h => ?_) (fun cdv A outer s H vs Q E hr h => ?_)
  · obtain ⟨a, C, rfl, _⟩ := h
    rfl
  · obtain ⟨a, C, rfl, oc, nw, ea, q⟩ := h
    refine ⟨_, (pss_one (ps_expr (pe_clsfn cr hat FP hr (by rfl) gP kP bP (pa_cons (pv 0) (pa_cons pe_str pa_nil))))), ?_⟩
    exact ⟨_, rfl, a, C, "bad place", rfl, oc, nw, ea, q⟩
theorem ok_NotRising {f fP CP : Addr} {fd fdP : FuncData} {mc : Value} (F : Fun K "__init__" "NotRising.__init__" s_p_NotRising___init__ f fd) (cr : ClX.CRead K CP mc) (hat : PySem.W.findCls K (.ref CP) mc "__init__" = some (.val (.ref fP))) (FP : FnOk P w K mg base CX0 1 fP fdP ["self", "word"] (spInit2 K))
    (gP : mg "PailError" = some (.ref CP)) (kP : PySem.W.keepIn K (.ref fP) = true) (bP : Binds K fdP ["self", "word"] []) : FnOk P w K mg base CX0 2 f fd ["self"] (spInit "not rising" K) := by
  refine F.ok sc_p_NotRising___init__ (fun vs H Q E h => ?_) (fun cdv A outer s H vs Q E hr h => ?_)
  · obtain ⟨a, C, rfl, _⟩ := h
    rfl
  · obtain ⟨a, C, rfl, oc, nw, ea, q⟩ := h
    refine ⟨_, (pss_one (ps_expr (pe_clsfn cr hat FP hr (by rfl) gP kP bP (pa_cons (pv 0) (pa_cons pe_str pa_nil))))), ?_⟩
    exact ⟨_, rfl, a, C, "not rising", rfl, oc, nw, ea, q⟩

theorem Drawn.get : ∀ {ds qs : List Int} {i : Nat} {q : Int}, Drawn ds qs → qs[i]? = some q → ∃ d, ds[i]? = some d ∧ 0 ≤ d ∧ d < q
  | [], [], i, q, _, e => by simp at e
  | [], _ :: _, _, _, h, _ => h.elim
  | _ :: _, [], _, _, h, _ => h.elim
  | d :: _, _ :: _, 0, q, h, e => by
    obtain rfl := Option.some.inj e
    exact ⟨d, rfl, h.1.1, h.1.2⟩
  | _ :: ds, _ :: qs, i + 1, q, h, e => Drawn.get (ds := ds) (qs := qs) h.2 e
theorem at_map {ds : List Int} {i : Nat} {d z : Int} (hz : z = (i : Int)) (h : ds[i]? = some d) : atI (ds.map V.int) z = some (.int d) := by
  subst hz
  exact at_of (j := i) rfl (by rw [List.getElem?_map, h]; rfl)

theorem am_at {K : PySem.W.Frag} {H : Hp} {us : List V} {ps : List Rat} (hd : DpAll K H us ((ps.map am).map amD)) {i : Nat} (hi : i < ps.length) : ∃ b, us[i]? = some (.ref b) ∧ SqT K H b (tv (am ps[i])) := by
  obtain ⟨v, e1, e2⟩ := dpa_get hd (i := i) (d := amD (am ps[i])) (by rw [List.getElem?_map, List.getElem?_map, List.getElem?_eq_getElem hi]; rfl)
  obtain ⟨b, rfl, hb⟩ := pd_at e2
  exact ⟨b, e1, hb⟩

theorem bd_int {k : Int} (h : k.natAbs < 2 ^ 3900) : Bd 4000 ((k, 1) : Am) := ⟨Nat.lt_trans h (Nat.pow_lt_pow_right (by decide) (by decide)), by show (1 : Int).natAbs < 2 ^ 4000; exact Nat.one_lt_two_pow (by decide)⟩
theorem small {k : Int} (h : k.natAbs < 2 ^ 60) : k.natAbs < 2 ^ 3900 := Nat.lt_trans h (Nat.pow_lt_pow_right (by decide) (by decide))
theorem bd_fr {D k : Int} {r : Rat} (hD : 0 < D) (hd : D.natAbs < 2 ^ 3900) (h1 : 1 ≤ k) (h2 : k ≤ 12) (h : Fr (D * k) r) (h3 : -(1000 : Rat) ≤ r) (h4 : r ≤ 1000) : Bd 4000 (am r) := by
  have e : (2 : Nat) ^ 4000 = 2 ^ 100 * 2 ^ 3900 := by rw [← Nat.pow_add]
  have a1 : (D * k).natAbs ≤ 16 * D.natAbs := by rw [Int.natAbs_mul, Nat.mul_comm]; exact Nat.mul_le_mul_right _ (by omega)
  have a2 : (1000 * (D * k)).natAbs ≤ 16000 * D.natAbs := by rw [Int.natAbs_mul]; show 1000 * _ ≤ _; omega
  have a3 : (2 : Nat) ^ 100 * 2 ^ 3900 ≥ 16000 * 2 ^ 3900 := Nat.mul_le_mul_right _ (by decide)
  exact fr_bd (D := D * k) (B := 1000) (Int.mul_pos hD (by omega)) h h3 h4 (by omega) (by omega)
theorem bd_fr1 {D : Int} {r : Rat} (hD : 0 < D) (hd : D.natAbs < 2 ^ 3900) (h : Fr D r) (h3 : -(1000 : Rat) ≤ r) (h4 : r ≤ 1000) : Bd 4000 (am r) :=
  bd_fr (k := 1) hD hd (by decide) (by decide) (by rw [Int.mul_one]; exact h) h3 h4

theorem bdL {D : Int} {r : Rat} (hD : 0 < D) (hd : D.natAbs < 2 ^ 3900) (h : Fr D r) (h3 : 0 ≤ r) (h4 : r ≤ 1000000) : Bd 4000 (am r) := by
  have e : (2 : Nat) ^ 4000 = 2 ^ 100 * 2 ^ 3900 := by rw [← Nat.pow_add]
  have a2 : (1000000 * D).natAbs ≤ 1000000 * D.natAbs := by rw [Int.natAbs_mul]; exact Nat.le_refl _
  have a3 : (2 : Nat) ^ 100 * 2 ^ 3900 ≥ 1000001 * 2 ^ 3900 := Nat.mul_le_mul_right _ (by decide)
  exact fr_bd (D := D) (B := 1000000) hD h (neg_le h3 (by decide)) h4 (by omega) (by omega)
theorem bdX {D : Int} {r : Rat} (hD : 0 < D) (hd : D.natAbs < 2 ^ 3900) (h : Fr D r) (h3 : 0 ≤ r) (h4 : r ≤ 1000000000) : Bd 4000 (am r) := by
  have e : (2 : Nat) ^ 4000 = 2 ^ 100 * 2 ^ 3900 := by rw [← Nat.pow_add]
  have a2 : (1000000000 * D).natAbs ≤ 1000000000 * D.natAbs := by rw [Int.natAbs_mul]; exact Nat.le_refl _
  have a3 : (2 : Nat) ^ 100 * 2 ^ 3900 ≥ 1000000001 * 2 ^ 3900 := Nat.mul_le_mul_right _ (by decide)
  exact fr_bd (D := D) (B := 1000000000) hD h (neg_le h3 (by decide)) h4 (by omega) (by omega)
theorem mul_rng {m L g : Rat} (h0 : 0 ≤ m) (h1 : m ≤ L) (g0 : 1 ≤ g) (g1 : g ≤ 12) : 0 ≤ m * g ∧ m * g ≤ 12 * L := by
  have a := Rat.mul_le_mul_of_nonneg_left g1 h0
  have b := Rat.mul_le_mul_of_nonneg_left g0 h0
  exact ⟨by grind, by grind⟩
theorem mul_rng0 {m L g : Rat} (h0 : 0 ≤ m) (h1 : m ≤ L) (g0 : 0 ≤ g) (g1 : g ≤ 12) : 0 ≤ m * g ∧ m * g ≤ 12 * L := by
  have a := Rat.mul_le_mul_of_nonneg_left g1 h0
  have b := Rat.mul_nonneg h0 g0
  exact ⟨b, by grind⟩
theorem div_nn {a : Rat} {k : Int} (hk : 1 ≤ k) (ha : 0 ≤ a) : 0 ≤ a / (k : Rat) := by
  have e := div_mul (a := a) (show 0 < k by omega)
  by_cases c : a / (k : Rat) < 0
  · have := Rat.mul_lt_mul_of_pos_right c (cp (show 0 < k by omega))
    grind
  · exact Rat.not_lt.mp c
/-- lists of amounts -/
def AmL (K : PySem.W.Frag) (H : Hp) (us : List V) (rs : List Rat) : Prop := DpAll K H us ((rs.map am).map amD)
theorem AmL.len {K : PySem.W.Frag} {H : Hp} {us : List V} {rs : List Rat} (h : AmL K H us rs) : us.length = rs.length := by rw [dpa_len h, List.length_map, List.length_map]
theorem AmL.at {K : PySem.W.Frag} {H : Hp} {us : List V} {rs : List Rat} (h : AmL K H us rs) {i : Nat} (hi : i < rs.length) : ∃ b, us[i]? = some (.ref b) ∧ SqT K H b (tv (am (rs.getD i 0))) := by
  rw [getD_lt hi]
  exact am_at h hi
theorem AmL.keep {T : Tb} {K : PySem.W.Frag} {H H' : Hp} {us : List V} {rs : List Rat} (h : AmL K H us rs) (s : Sm T H H') : AmL K H' us rs := dpa_same s _ _ h
theorem AmL.push {K : PySem.W.Frag} {H : Hp} {us : List V} {rs : List Rat} {D b : Addr} {xs : List V} {o : HO} {r : Rat} (h : AmL K H us rs) (hD : H D = some (.lst xs)) (hb : SqT K H b (tv (am r))) : AmL K (upd H D o) (us ++ [.ref b]) (rs ++ [r]) := by
  unfold AmL
  rw [List.map_append, List.map_append]
  exact dpa_app (pds_mut hD h) (.cons (pd_mut (amD_dp hb) hD) .nil)
theorem AmL.mut {K : PySem.W.Frag} {H : Hp} {us : List V} {rs : List Rat} {D : Addr} {xs : List V} {o : HO} (h : AmL K H us rs) (hD : H D = some (.lst xs)) : AmL K (upd H D o) us rs := pds_mut hD h
theorem AmL.dp {K : PySem.W.Frag} {H : Hp} {us : List V} {rs : List Rat} {a : Addr} (h : AmL K H us rs) (ha : SqL K H a us) : Dp K H (.ref a) (.list ((rs.map am).map amD)) := .lst ha h
theorem take_range {α : Type} {f : Nat → α} {i : Nat} : ((List.range (i + 1)).map f) = (List.range i).map f ++ [f i] := by rw [List.range_succ, List.map_append]; rfl

theorem at_neg1 {α : Type} {xs : List α} {v : α} (h : 0 < xs.length) (e : xs[xs.length - 1]? = some v) : atI xs (-1) = some v := by
  have hne : xs ≠ [] := by intro c; rw [c] at h; exact Nat.lt_irrefl _ h
  obtain ⟨ys, z, rfl⟩ : ∃ ys z, xs = ys ++ [z] := ⟨xs.dropLast, xs.getLast hne, (List.dropLast_concat_getLast hne).symm⟩
  rw [List.length_append, show ys.length + [z].length - 1 = ys.length by simp, List.getElem?_append_right (Nat.le_refl _), Nat.sub_self] at e
  obtain rfl : z = v := Option.some.inj e
  exact atI_last _ _

theorem by_am (r : Rat) {k : Int} (hk : 0 < k) : amt (am r).1 ((am r).2 * k) = am (r / (k : Rat)) := by
  have h1 := am_pos r
  rw [amt_am (Int.mul_ne_zero (by omega) (by omega))]
  congr 1
  have e1 := vl_am r
  unfold vl at e1
  have k1 := cn (a := (am r).2) (by omega)
  have k2 := cn (a := k) (by omega)
  rw [Rat.intCast_mul]
  grind
theorem mul_am (r : Rat) (k : Int) : amt ((am r).1 * k) (am r).2 = am (r * (k : Rat)) := by
  have h1 := am_pos r
  rw [amt_am (by omega)]
  congr 1
  have e1 := vl_am r
  unfold vl at e1
  have k1 := cn (a := (am r).2) (by omega)
  rw [Rat.intCast_mul]
  grind

def sp_l_cell (K : PySem.W.Frag) (T : Tb) : Sp := fun vs H Q _ => ∃ (a : Addr) (ns : List Int) (k : Int), vs = [.ref a, .int k] ∧ SqL K H a (ns.map V.int) ∧ 0 ≤ k ∧ ∀ z : Int, Q (.int z) H
theorem ok_l_cell {f : Addr} {fd : FuncData} (F : Fun K "_law_cell" "_law_cell" s_l_cell f fd) (B : Bn mg) : FnOk P w K mg base CX0 1 f fd ["_law_script", "_law_k"] (sp_l_cell K T) := by
  refine F.ok sc_l_cell (fun vs H Q E h => ?_) (fun cdv A outer s H vs Q E hr h => ?_)
  · obtain ⟨a, ns, k, rfl, _⟩ := h
    rfl
  · obtain ⟨a, ns, k, rfl, hS, hk, q⟩ := h
    refine ⟨_, (pss_cons (ps_if (pt_cmpR op_lt (pv 1) (pe_callB call_len_seq (by rfl) B.len_ (by decide +kernel) (pa_cons (pv 0) pa_nil)) (nomark _)) (pss_one (ps_ret (pe_ix ix_list (pv 0) (pv 1) (fun _ _ => rfl)))) pss_nil)
      (pss_one (ps_ret (pe_op op_add (pe_op op_add (pe_op op_mul (pe_op op_mod (pe_callB (cr_sum rfl) (by rfl) B.sum_ (by decide +kernel) (pa_cons (pv 0) pa_nil)) pe_int) pe_int) (pe_op op_mul (pe_callB call_len_seq (by rfl) B.len_ (by decide +kernel) (pa_cons (pv 0) pa_nil)) pe_int)) (pe_op op_mul (pv 1) pe_int))))), ?_⟩
    refine ⟨_, rfl, _, rfl, a, _, rfl, .inl hS, _, _, rfl, rfl, _, rfl, ite2 (fun e => ?_) (fun e => ?_)⟩
    · have e' : k < ((ns.map V.int).length : Int) := of_decide_eq_true e
      rw [List.length_map] at e'
      obtain ⟨j, rfl⟩ : ∃ j : Nat, k = (j : Int) := ⟨k.toNat, by omega⟩
      have hj : j < ns.length := by omega
      refine ⟨_, rfl, _, rfl, a, _, _, .int ns[j], rfl, rfl, hS, atI_nat (by rw [List.getElem?_map, List.getElem?_eq_getElem hj]; rfl), q _⟩
    · refine ⟨_, rfl, a, ns, rfl, hS, ?_⟩
      refine ⟨_, _, rfl, rfl, (by show (0 : Int) < 1000003; decide), _, _, rfl, rfl, .inr ⟨by decide, by decide⟩, ?_⟩
      refine ⟨_, rfl, a, _, rfl, .inl hS, _, _, rfl, rfl, .inr ⟨by decide, by decide⟩, _, _, rfl, rfl, ?_⟩
      refine ⟨_, rfl, _, _, rfl, rfl, .inr ⟨by decide, by decide⟩, _, _, rfl, rfl, q _⟩

def sp_l_draws (K : PySem.W.Frag) (T : Tb) : Sp := fun vs H Q _ => ∃ (c : Int) (a : Addr) (qs : List Int), vs = [.int c, .ref a] ∧ SqL K H a (qs.map V.int) ∧ qs.length ≤ 1000 ∧ (∀ q ∈ qs, 0 < q ∧ q.natAbs < 2 ^ 100) ∧
  ∀ p H' (ds : List Int), Sm T H H' → H p = none → H' p = some (.lst (ds.map V.int)) → Drawn ds qs → Q (.ref p) H'
theorem ok_l_draws {f : Addr} {fd : FuncData} (F : Fun K "_law_draws" "_law_draws" s_l_draws f fd) : FnOk P w K mg base CX0 1 f fd ["_law_cell_here", "_law_parts"] (sp_l_draws K T) := by
  refine F.ok sc_l_draws (fun vs H Q E h => ?_) (fun cdv A outer s H vs Q E hr h => ?_)
  · obtain ⟨c, a, qs, rfl, _⟩ := h
    rfl
  · obtain ⟨c, a, qs, rfl, hS, hlen, hpos, q⟩ := h
    refine ⟨_, (pss_cons (ps_if (pt_cmpR op_lt (pv 0) (pe_op op_pow pe_int pe_int) (nomark _)) (pss_cons (ps_set (i := 2) sc_l_draws.nd rfl (.inl rfl) (pe_op op_mod (pe_op op_add (pe_op op_mul (pv 0) pe_int) pe_int) pe_int))
      (pss_cons (ps_set (i := 3) sc_l_draws.nd rfl (.inl rfl) (pe_op op_mod (pe_op op_add (pe_op op_add (pe_op op_mul (pv 2) (pv 2)) (pe_op op_mul pe_int (pv 2))) (pv 0)) pe_int))
      (pss_cons (ps_set (i := 4) sc_l_draws.nd rfl (.inl rfl) (pe_op op_mod (pe_op op_add (pe_op op_mul (pv 3) pe_int) (pv 2)) pe_int))
      (pss_one (ps_set (i := 0) sc_l_draws.nd rfl (.inl rfl) (pe_op op_add (pv 3) (pe_op op_mul pe_int (pe_op op_add (pv 4) (pe_op op_mul pe_int (pv 2)))))))))) (pss_one (ps_set (i := 0) sc_l_draws.nd rfl (.inl rfl) (pe_op op_sub (pv 0) (pe_op op_pow pe_int pe_int)))))
      (pss_cons (ps_set (i := 5) sc_l_draws.nd rfl (.inl rfl) (pe_lst pa_nil))
      (pss_cons (ps_for PassesOwn.never rfl (pi_list (pv 1)) (pg_name (i := 6) sc_l_draws.nd rfl (.inl rfl))
      (pss_cons (ps_expr (pe_bm PySem.F.plainAttrs_list PySem.F.slot_list_append PySem.F.type_list_append mt_append (pv 5) (pa_cons (pe_op op_mod (pv 0) (pv 6)) pa_nil)))
      (pss_one (ps_set (i := 0) sc_l_draws.nd rfl (.inl rfl) (pe_op op_fdivW (pv 0) (pv 6))))))
      (pss_one (ps_ret (pv 5)))))), ?_⟩
    refine seq_if (fun σ' H' => H' = H ∧ ∃ (c : Int) (x2 x3 x4 : Option V), σ' = [some (.int c), some (.ref a), x2, x3, x4, none, none]) (fun σ' H' p => ?_) (fun k => ?_)
    · obtain ⟨rfl, c, x2, x3, x4, rfl⟩ := p
      refine ⟨Nat.zero_le _, fun o no => ?_⟩
      refine ⟨_, rfl, a, rfl, ⟨_, (same_upd (T := T) no).seq hS⟩, for_list (K := K) (a := a) (xs := qs.map V.int)
        (fun i σ H3 => ∃ (c : Int) (x6 : Option V) (ds : List Int), σ = [some (.int c), some (.ref a), x2, x3, x4, some (.ref o), x6] ∧ Sm T H' H3 ∧ H3 o = some (.lst (ds.map V.int)) ∧ Drawn ds (qs.take i))
        ⟨c, none, [], rfl, same_upd no, upd_same, trivial⟩ (fun i σ H3 _ ⟨_, _, _, _, sm, _⟩ => sm.seq hS) ?_ ?_⟩
      · rintro i y σ H3 hi ⟨c, x6, ds, rfl, sm, eo, hd⟩
        rw [List.getElem?_map] at hi
        obtain ⟨qi, hq, rfl⟩ : ∃ qi, qs[i]? = some qi ∧ V.int qi = y := Option.map_eq_some_iff.mp hi
        have hqm := hpos qi (List.mem_of_getElem? hq)
        have hil : i < qs.length := (List.getElem?_eq_some_iff.mp hq).1
        refine ⟨_, rfl, .inl ⟨rfl, _, SqL.of eo⟩, _, rfl, _, rfl, _, _, rfl, rfl, hqm.1, o, _, _, rfl, rfl, eo, ?_, ?_⟩
        · rw [List.length_map, hd.length, List.length_take]
          exact szl (by omega)
        · refine ⟨_, rfl, _, rfl, _, _, rfl, rfl, wide_div hqm.1 hqm.2 (by decide) (by decide), ?_⟩
          refine ⟨_, _, ds ++ [c % qi], rfl, same_mut sm no eo, ?_, ?_⟩
          · rw [upd_same, List.map_append]
            rfl
          · rw [List.take_add_one, hq]
            exact hd.snoc (Int.emod_nonneg _ (by omega)) (Int.emod_lt_of_pos _ hqm.1)
      · rintro σ H3 ⟨c, x6, ds, rfl, sm, eo, hd⟩
        rw [List.length_map, List.take_length] at hd
        exact ⟨_, rfl, q o H3 ds sm no eo hd⟩
    · have b1 := Int.emod_nonneg (c * 48271 + 11) (show (2147483647 : Int) ≠ 0 by decide)
      have b2 := Int.emod_lt_of_pos (c * 48271 + 11) (show (0 : Int) < 2147483647 by decide)
      refine ⟨_, rfl, _, _, rfl, rfl, ⟨by decide, by decide, by decide⟩, _, _, rfl, rfl, _, rfl, ite2 (fun e => ?_) (fun e => ?_)⟩
      · refine ⟨_, rfl, _, _, rfl, rfl, .inr ⟨by decide, by decide⟩, _, _, rfl, rfl, _, _, rfl, rfl, (by show (0 : Int) < 2147483647; decide), ?_⟩
        refine ⟨_, rfl, _, rfl, _, _, rfl, rfl, .inl ⟨by omega, by omega⟩, ?_⟩
        refine ⟨_, rfl, _, _, rfl, rfl, .inl ⟨by decide, by decide⟩, _, _, rfl, rfl, _, rfl, _, _, rfl, rfl, _, _, rfl, rfl, (by show (0 : Int) < 2147483399; decide), ?_⟩
        refine ⟨_, rfl, _, _, rfl, rfl, .inr ⟨by decide, by decide⟩, _, rfl, _, _, rfl, rfl, _, _, rfl, rfl, (by show (0 : Int) < 1000000007; decide), ?_⟩
        refine ⟨_, rfl, _, rfl, _, rfl, _, _, rfl, rfl, .inl ⟨by decide, by decide⟩, _, _, rfl, rfl, _, _, rfl, rfl, .inl ⟨by decide, by decide⟩, _, _, rfl, rfl, ?_⟩
        exact k _ _ ⟨rfl, _, _, _, _, rfl⟩
      · refine ⟨_, rfl, _, _, rfl, rfl, ⟨by decide, by decide, by decide⟩, _, _, rfl, rfl, ?_⟩
        exact k _ _ ⟨rfl, _, _, _, _, rfl⟩

def sp_l_many (K : PySem.W.Frag) (T : Tb) : Sp := fun vs H Q _ => ∃ (a : Addr) (ns : List Int) (k : Int), vs = [.ref a, .int k] ∧ SqL K H a (ns.map V.int) ∧ 0 ≤ k ∧ k ≤ 63 ∧ ∀ m : Nat, m ≤ 63 → Q (.int m) H
theorem ok_l_many {f : Addr} {fd : FuncData} (F : Fun K "_law_many" "_law_many" s_l_many f fd) (B : Bn mg) : FnOk P w K mg base CX0 1 f fd ["_law_script", "_law_few"] (sp_l_many K T) := by
  refine F.ok sc_l_many (fun vs H Q E h => ?_) (fun cdv A outer s H vs Q E hr h => ?_)
  · obtain ⟨a, ns, k, rfl, _⟩ := h
    rfl
  · obtain ⟨a, ns, k, rfl, hS, h0, h1, q⟩ := h
    refine ⟨_, (pss_one (ps_ret (pe_callB (call_max2 rfl) (by rfl) B.max_ (by decide +kernel) (pa_cons (pv 1) (pa_cons (pe_callB (call_min2 rfl) (by rfl) B.min_ (by decide +kernel) (pa_cons (pe_callB call_len_seq (by rfl) B.len_ (by decide +kernel) (pa_cons (pv 0) pa_nil)) (pa_cons pe_int pa_nil))) pa_nil))))), ?_⟩
    refine ⟨_, rfl, _, rfl, a, _, rfl, .inl hS, _, _, rfl, _, _, rfl, ?_⟩
    rw [List.length_map]
    have e : ∃ m : Nat, m ≤ 63 ∧ (if (if (63 : Int) < (ns.length : Int) then 63 else (ns.length : Int)) > k then (if (63 : Int) < (ns.length : Int) then 63 else (ns.length : Int)) else k) = (m : Int) := by
      refine ⟨(if (if (63 : Int) < (ns.length : Int) then 63 else (ns.length : Int)) > k then (if (63 : Int) < (ns.length : Int) then 63 else (ns.length : Int)) else k).toNat, ?_, ?_⟩ <;> (split <;> (try split) <;> omega)
    obtain ⟨m, hm, em⟩ := e
    rw [em]
    exact q m hm

/-! ### chains in the heap -/
structure Ad where
  dx : Addr
  st : Addr
  nw : Addr
  rw : Addr
  ld : Addr
  sp : Addr
  tm : Addr
  lv : Addr
  lg : Addr
  mr : Addr
  pr : Addr
def FLD : List Str := ["fire", "stretches", "now", "row", "loads", "spots", "tempos", "leaving", "ledgers", "marks", "poured"]
def flds (L : Int) (A : Ad) : List (Str × V) := [("fire", .int L), ("stretches", .ref A.st), ("now", .ref A.nw), ("row", .ref A.rw), ("loads", .ref A.ld), ("spots", .ref A.sp), ("tempos", .ref A.tm), ("leaving", .ref A.lv), ("ledgers", .ref A.lg), ("marks", .ref A.mr), ("poured", .ref A.pr)]
theorem lookup_no {fs : List (Str × V)} {m : Str} (h : m ∉ fs.map (·.1)) : fs.lookup m = none := by
  induction fs with
  | nil => rfl
  | cons a l ih =>
    obtain ⟨k, v⟩ := a
    rw [List.map_cons, List.mem_cons, not_or] at h
    rw [List.lookup_cons]
    have e : (m == k) = false := by
      cases q : (m == k) with
      | false => rfl
      | true => exact absurd (eq_of_beq q) h.1
    rw [e]
    exact ih h.2
theorem fl_no {L : Int} {A : Ad} {m : Str} (h : m ∉ FLD) : (flds L A).lookup m = none := lookup_no h
theorem fl_fire {L : Int} {A : Ad} : (flds L A).lookup ("fire" : Str) = some (.int L) := rfl
theorem fl_st {L : Int} {A : Ad} : (flds L A).lookup ("stretches" : Str) = some (.ref A.st) := rfl
theorem fl_nw {L : Int} {A : Ad} : (flds L A).lookup ("now" : Str) = some (.ref A.nw) := rfl
theorem fl_rw {L : Int} {A : Ad} : (flds L A).lookup ("row" : Str) = some (.ref A.rw) := rfl
theorem fl_ld {L : Int} {A : Ad} : (flds L A).lookup ("loads" : Str) = some (.ref A.ld) := rfl
theorem fl_sp {L : Int} {A : Ad} : (flds L A).lookup ("spots" : Str) = some (.ref A.sp) := rfl
theorem fl_tm {L : Int} {A : Ad} : (flds L A).lookup ("tempos" : Str) = some (.ref A.tm) := rfl
theorem fl_lv {L : Int} {A : Ad} : (flds L A).lookup ("leaving" : Str) = some (.ref A.lv) := rfl
theorem fl_lg {L : Int} {A : Ad} : (flds L A).lookup ("ledgers" : Str) = some (.ref A.lg) := rfl
theorem fl_mk {L : Int} {A : Ad} : (flds L A).lookup ("marks" : Str) = some (.ref A.mr) := rfl
theorem fl_pr {L : Int} {A : Ad} : (flds L A).lookup ("poured" : Str) = some (.ref A.pr) := rfl
theorem pf_nw {L : Int} {A : Ad} {a : Addr} : putF "now" (.ref a) (flds L A) = flds L { A with nw := a } := rfl
theorem pf_rw {L : Int} {A : Ad} {a : Addr} : putF "row" (.ref a) (flds L A) = flds L { A with rw := a } := rfl
theorem pf_ld {L : Int} {A : Ad} {a : Addr} : putF "loads" (.ref a) (flds L A) = flds L { A with ld := a } := rfl
theorem pf_sp {L : Int} {A : Ad} {a : Addr} : putF "spots" (.ref a) (flds L A) = flds L { A with sp := a } := rfl
theorem pf_tm {L : Int} {A : Ad} {a : Addr} : putF "tempos" (.ref a) (flds L A) = flds L { A with tm := a } := rfl
theorem pf_lv {L : Int} {A : Ad} {a : Addr} : putF "leaving" (.ref a) (flds L A) = flds L { A with lv := a } := rfl
theorem pf_lg {L : Int} {A : Ad} {a : Addr} : putF "ledgers" (.ref a) (flds L A) = flds L { A with lg := a } := rfl
theorem pf_mk {L : Int} {A : Ad} {a : Addr} : putF "marks" (.ref a) (flds L A) = flds L { A with mr := a } := rfl
theorem pf_pr {L : Int} {A : Ad} {a : Addr} : putF "poured" (.ref a) (flds L A) = flds L { A with pr := a } := rfl
/-! ### what a deed leaves: all but the objects S -/
def imm : HO → Bool
  | .tup _ => true
  | .frz _ _ => true
  | .own _ => true
  | _ => false
def mutO : HO → Bool
  | .lst _ => true
  | .dK _ => true
  | .ins _ _ _ => true
  | _ => false
structure Sx (T : Tb) (S : List Addr) (H H' : Hp) : Prop where
  keep : ∀ b o, H b = some o → nTbl o → (imm o = true ∨ b ∉ S) → H' b = some o
  ok : Ok T H → Ok T H'
  free : ∀ l, H' l = none → H l = none
theorem Sm.sx {T : Tb} {S : List Addr} {H H' : Hp} (s : Sm T H H') : Sx T S H H' := ⟨fun b o e n _ => s.keep b o e n, s.ok, s.free⟩
theorem Sx.sm {T : Tb} {H H' : Hp} (s : Sx T [] H H') : Sm T H H' := ⟨fun b o e n => s.keep b o e n (.inr (by simp)), s.ok, s.free⟩
theorem Sx.refl {T : Tb} {S : List Addr} {H : Hp} : Sx T S H H := Sm.refl.sx
theorem Sx.trans {T : Tb} {S S2 : List Addr} {H H1 H2 : Hp} (a : Sx T S H H1) (b : Sx T S2 H1 H2) (h : ∀ x ∈ S2, x ∈ S ∨ H x = none) : Sx T S H H2 :=
  ⟨fun c o e n i => b.keep c o (a.keep c o e n i) n (i.imp id fun hc hc2 => (h c hc2).elim hc fun z => by rw [z] at e; cases e), fun k => b.ok (a.ok k), fun l k => a.free l (b.free l k)⟩
theorem Sx.step {T : Tb} {S : List Addr} {H H1 H2 : Hp} (a : Sx T S H H1) (b : Sx T S H1 H2) : Sx T S H H2 := a.trans b fun _ h => .inl h
theorem Sx.sm' {T : Tb} {S : List Addr} {H H1 H2 : Hp} (a : Sx T S H H1) (b : Sm T H1 H2) : Sx T S H H2 := a.trans (S2 := []) b.sx fun _ h => nomatch h
theorem Sx.mono {T : Tb} {S S2 : List Addr} {H H' : Hp} (a : Sx T S H H') (h : ∀ x ∈ S, x ∈ S2 ∨ H x = none) : Sx T S2 H H' := Sx.refl.trans a h
theorem okP_mut2 {H : Hp} {p : Addr × Option Str} {a : Addr} {o u : HO} (h : OkP H p) (ha : H a = some u) (hm : mutO u = true) : OkP (upd H a o) p := by
  have k : ∀ b v, H b = some v → mutO v = false → upd H a o b = some v := fun b v e n => by
    rw [upd_ne (fun z => by rw [z, ha] at e; cases e; rw [hm] at n; cases n)]
    exact e
  obtain ⟨Q, q⟩ := p
  cases q with
  | none =>
    obtain ⟨ps, h1, h2⟩ := (show GxR.TabG H Q from h)
    exact ⟨ps, k _ _ h1 rfl, h2⟩
  | some q =>
    obtain ⟨ps, h1, h2, h3⟩ := (show LamX.TabS H Q q from h)
    refine ⟨ps, k _ _ h1 rfl, h2, fun pos cv hc => ?_⟩
    obtain ⟨c, e1, e2⟩ := h3 pos cv hc
    exact ⟨c, e1, k _ _ e2 (by unfold LamX.CodeO; rfl)⟩
theorem sx_upd {T : Tb} {S : List Addr} {H : Hp} {a : Addr} {o u : HO} (ha : H a = some u) (hm : mutO u = true) (hS : a ∈ S) : Sx T S H (upd H a o) := by
  refine ⟨fun b v e _ i => ?_, fun hk q hq => okP_mut2 (hk q hq) ha hm, fun l hl => ?_⟩
  · rw [upd_ne]
    · exact e
    · rintro rfl
      rcases i with i | i
      · rw [e] at ha
        cases ha
        cases u <;> simp_all [mutO, imm]
      · exact i hS
  · by_cases z : l = a
    · rw [z, upd_same] at hl; cases hl
    · rw [upd_ne z] at hl; exact hl
theorem Sx.tup {T : Tb} {S : List Addr} {K : PySem.W.Frag} {H H' : Hp} {a : Addr} {xs : List V} (e : Sx T S H H') (h : SqT K H a xs) : SqT K H' a xs := by
  rcases h with (h | ⟨o, h⟩) | h
  · exact .inl (.inl (e.keep _ _ h trivial (.inl rfl)))
  · exact .inl (.inr ⟨o, e.keep _ _ h trivial (.inl rfl)⟩)
  · exact .inr h
theorem Sx.lst {T : Tb} {S : List Addr} {H H' : Hp} {a : Addr} {xs : List V} (e : Sx T S H H') (h : H a = some (.lst xs)) (ha : a ∉ S) : H' a = some (.lst xs) := e.keep _ _ h trivial (.inr ha)
theorem Sx.seq {T : Tb} {S : List Addr} {K : PySem.W.Frag} {H H' : Hp} {a : Addr} {xs : List V} (e : Sx T S H H') (h : SqL K H a xs) (ha : a ∉ S) : SqL K H' a xs := by
  rcases h with (h | ⟨o, h⟩) | h
  · exact .inl (.inl (e.keep _ _ h trivial (.inr ha)))
  · exact .inl (.inr ⟨o, e.keep _ _ h trivial (.inl rfl)⟩)
  · exact .inr h
mutual
theorem Sx.dp {T : Tb} {S : List Addr} {K : PySem.W.Frag} {H H' : Hp} (e : Sx T S H H') : ∀ (n : Nat) (d : PyData) (v : V), noL n d = true → Dp K H v d → Dp K H' v d
  | _, .none, _, _, h => by cases h; exact .non
  | _, .bool b, _, _, h => by cases h; exact .bl b
  | _, .int i, _, _, h => by cases h; exact .int i
  | _, .str x, _, _, h => by cases h; exact .str x
  | 0, .tuple _, _, z, _ => by cases z
  | n + 1, .tuple ds, _, z, h => by
    cases h with
    | tup hs hall => exact .tup (e.tup hs) (Sx.dps e n ds _ z hall)
  | 0, .list _, _, z, _ => by cases z
  | _ + 1, .list _, _, z, _ => by cases z
  | 0, .dict _, _, z, _ => by cases z
  | _ + 1, .dict _, _, z, _ => by cases z
theorem Sx.dps {T : Tb} {S : List Addr} {K : PySem.W.Frag} {H H' : Hp} (e : Sx T S H H') : ∀ (n : Nat) (ds : List PyData) (vs : List V), ds.all (noL n) = true → DpAll K H vs ds → DpAll K H' vs ds
  | _, [], _, _, h => by cases h; exact .nil
  | n, d :: ds, _, z, h => by
    cases h with
    | cons h1 h2 =>
      rw [List.all_cons, Bool.and_eq_true] at z
      exact .cons (Sx.dp e n d _ z.1 h1) (Sx.dps e n ds _ z.2 h2)
end
/-! ### a chain, as it stands -/
structure Ch where
  fire : Int
  way : List Am
  now : Rat
  row : List Str
  loads : List Int
  spots : List Rat
  tempos : List (Str × Int)
  leaving : List Str
  ledgers : List (Str × (Rat × Rat × Rat))
  marks : List (List (Str × Rat))
  poured : List Int
def tmV (l : List (Str × Int)) : List (L2.Key × V) := l.map fun x => (Sum.inr x.1, V.int x.2)
def ledD (x : Rat × Rat × Rat) : PyData := .tuple [amD (am x.1), amD (am x.2.1), amD (am x.2.2)]
def mkD (l : List (Str × Rat)) : PyData := .tuple (l.map fun x => .tuple [.str x.1, amD (am x.2)])
def LedL (K : PySem.W.Frag) (H : Hp) (kvs : List (L2.Key × V)) (l : List (Str × (Rat × Rat × Rat))) : Prop := kvs.map (·.1) = l.map (fun x => (Sum.inr x.1 : L2.Key)) ∧ DpAll K H (kvs.map (·.2)) (l.map fun x => ledD x.2)
def ownC (c : Addr) (A : Ad) : List Addr := [c, A.rw, A.ld, A.sp, A.tm, A.lv, A.lg, A.mr, A.pr]
structure ChAt (K : PySem.W.Frag) (C : Addr) (H : Hp) (c : Addr) (A : Ad) (s : Ch) : Prop where
  ins : H c = some (.ins C A.dx (flds s.fire A))
  own : H A.dx = some (.own c)
  st : ∃ us, SqT K H A.st us ∧ DpAll K H us (s.way.map amD)
  nw : SqT K H A.nw (tv (am s.now))
  rw : H A.rw = some (.lst (s.row.map V.str))
  ld : H A.ld = some (.lst (s.loads.map V.int))
  sp : ∃ us, H A.sp = some (.lst us) ∧ AmL K H us s.spots
  tm : H A.tm = some (.dK (tmV s.tempos))
  lv : H A.lv = some (.lst (s.leaving.map V.str))
  lg : ∃ kvs, H A.lg = some (.dK kvs) ∧ LedL K H kvs s.ledgers
  mr : ∃ us, H A.mr = some (.lst us) ∧ DpAll K H us (s.marks.map mkD)
  pr : H A.pr = some (.lst (s.poured.map V.int))
  nd : (ownC c A).Nodup
theorem noL_ams (rs : List Rat) : ((rs.map am).map amD).all (noL 3) = true := by
  rw [List.all_map]
  exact List.all_eq_true.mpr fun _ _ => rfl
theorem noL_way (qs : List Am) : (qs.map amD).all (noL 3) = true := by
  rw [List.all_map]
  exact List.all_eq_true.mpr fun _ _ => rfl
theorem noL_led (l : List (Str × (Rat × Rat × Rat))) : (l.map fun x => ledD x.2).all (noL 3) = true := by
  rw [List.all_map]
  exact List.all_eq_true.mpr fun _ _ => rfl
theorem noL_mk (l : List (Str × Rat)) : noL 4 (mkD l) = true := by
  show (l.map fun x => PyData.tuple [.str x.1, amD (am x.2)]).all (noL 3) = true
  rw [List.all_map]
  exact List.all_eq_true.mpr fun _ _ => rfl
theorem noL_mks (l : List (List (Str × Rat))) : (l.map mkD).all (noL 4) = true := by
  rw [List.all_map]
  exact List.all_eq_true.mpr fun x _ => noL_mk x
theorem Sx.ams {T : Tb} {S : List Addr} {K : PySem.W.Frag} {H H' : Hp} {us : List V} {rs : List Rat} (e : Sx T S H H') (h : AmL K H us rs) : AmL K H' us rs := e.dps 3 _ _ (noL_ams rs) h
theorem Sx.led {T : Tb} {S : List Addr} {K : PySem.W.Frag} {H H' : Hp} {kvs : List (L2.Key × V)} {l : List (Str × (Rat × Rat × Rat))} (e : Sx T S H H') (h : LedL K H kvs l) : LedL K H' kvs l := ⟨h.1, e.dps 3 _ _ (noL_led l) h.2⟩
theorem Sx.mks {T : Tb} {S : List Addr} {K : PySem.W.Frag} {H H' : Hp} {us : List V} {l : List (List (Str × Rat))} (e : Sx T S H H') (h : DpAll K H us (l.map mkD)) : DpAll K H' us (l.map mkD) := e.dps 4 _ _ (noL_mks l) h
theorem nd_set {l : List Addr} (h : l.Nodup) {i : Nat} {x y : Addr} (hi : l[i]? = some x) (hy : y ∉ l) : (l.set i y).Nodup := by
  rw [List.nodup_iff_pairwise_ne, List.pairwise_iff_getElem] at *
  intro a b ha hb hab
  rw [List.length_set] at ha hb
  rw [List.getElem_set, List.getElem_set]
  split
  · split
    · omega
    · intro z; exact hy (by rw [z]; exact List.getElem_mem _)
  · split
    · intro z; exact hy (by rw [← z]; exact List.getElem_mem _)
    · exact h a b ha hb hab
section
variable {K : PySem.W.Frag} {T : Tb} {C : Addr} {H H' : Hp} {c : Addr} {A : Ad} {s : Ch} {S : List Addr}
/-- a chain stays where others are changed -/
theorem ChAt.sx (h : ChAt K C H c A s) (e : Sx T S H H') (hd : ∀ x ∈ ownC c A, x ∉ S) : ChAt K C H' c A s := by
  have m : ∀ x, x ∈ ownC c A → ∀ o, H x = some o → nTbl o → H' x = some o := fun x hx o ho n => e.keep x o ho n (.inr (hd x hx))
  obtain ⟨us, s1, s2⟩ := h.st
  obtain ⟨ps, p1, p2⟩ := h.sp
  obtain ⟨kv, k1, k2⟩ := h.lg
  obtain ⟨ms, m1, m2⟩ := h.mr
  exact ⟨m _ (by simp [ownC]) _ h.ins trivial, e.keep _ _ h.own trivial (.inl rfl), ⟨us, e.tup s1, e.dps 3 _ _ (noL_way _) s2⟩, e.tup h.nw, m _ (by simp [ownC]) _ h.rw trivial, m _ (by simp [ownC]) _ h.ld trivial, ⟨ps, m _ (by simp [ownC]) _ p1 trivial, e.ams p2⟩,
    m _ (by simp [ownC]) _ h.tm trivial, m _ (by simp [ownC]) _ h.lv trivial, ⟨kv, m _ (by simp [ownC]) _ k1 trivial, e.led k2⟩, ⟨ms, m _ (by simp [ownC]) _ m1 trivial, e.mks m2⟩, m _ (by simp [ownC]) _ h.pr trivial, h.nd⟩
theorem ChAt.sm (h : ChAt K C H c A s) (e : Sm T H H') : ChAt K C H' c A s := h.sx (S := []) e.sx fun _ _ => by simp
theorem ChAt.ne (h : ChAt K C H c A s) {i j : Nat} {x y : Addr} (hi : (ownC c A)[i]? = some x) (hj : (ownC c A)[j]? = some y) (hij : i ≠ j) : x ∉ [y] := fun z => by
  rw [List.mem_singleton.mp z] at hi
  exact hij (nd_ix h.nd hi hj)
theorem ChAt.set_rw (h : ChAt K C H c A s) (r : List Str) : ChAt K C (upd H A.rw (.lst (r.map V.str))) c A { s with row := r } := by
  obtain ⟨us0, s1, s2⟩ := h.st
  obtain ⟨ps, p1, p2⟩ := h.sp
  obtain ⟨kv, k1, k2⟩ := h.lg
  obtain ⟨ms, m1, m2⟩ := h.mr
  have e : Sx [] [A.rw] H (upd H A.rw (.lst (r.map V.str))) := sx_upd h.rw rfl List.mem_cons_self
  exact ⟨e.keep _ _ h.ins trivial (.inr (h.ne (i := 0) (j := 1) rfl rfl (by decide))), e.keep _ _ h.own trivial (.inl rfl), ⟨us0, e.tup s1, e.dps 3 _ _ (noL_way _) s2⟩, e.tup h.nw, upd_same, e.keep _ _ h.ld trivial (.inr (h.ne (i := 2) (j := 1) rfl rfl (by decide))), ⟨ps, e.keep _ _ p1 trivial (.inr (h.ne (i := 3) (j := 1) rfl rfl (by decide))), e.ams p2⟩, e.keep _ _ h.tm trivial (.inr (h.ne (i := 4) (j := 1) rfl rfl (by decide))), e.keep _ _ h.lv trivial (.inr (h.ne (i := 5) (j := 1) rfl rfl (by decide))), ⟨kv, e.keep _ _ k1 trivial (.inr (h.ne (i := 6) (j := 1) rfl rfl (by decide))), e.led k2⟩, ⟨ms, e.keep _ _ m1 trivial (.inr (h.ne (i := 7) (j := 1) rfl rfl (by decide))), e.mks m2⟩, e.keep _ _ h.pr trivial (.inr (h.ne (i := 8) (j := 1) rfl rfl (by decide))), h.nd⟩
theorem ChAt.set_ld (h : ChAt K C H c A s) (r : List Int) : ChAt K C (upd H A.ld (.lst (r.map V.int))) c A { s with loads := r } := by
  obtain ⟨us0, s1, s2⟩ := h.st
  obtain ⟨ps, p1, p2⟩ := h.sp
  obtain ⟨kv, k1, k2⟩ := h.lg
  obtain ⟨ms, m1, m2⟩ := h.mr
  have e : Sx [] [A.ld] H (upd H A.ld (.lst (r.map V.int))) := sx_upd h.ld rfl List.mem_cons_self
  exact ⟨e.keep _ _ h.ins trivial (.inr (h.ne (i := 0) (j := 2) rfl rfl (by decide))), e.keep _ _ h.own trivial (.inl rfl), ⟨us0, e.tup s1, e.dps 3 _ _ (noL_way _) s2⟩, e.tup h.nw, e.keep _ _ h.rw trivial (.inr (h.ne (i := 1) (j := 2) rfl rfl (by decide))), upd_same, ⟨ps, e.keep _ _ p1 trivial (.inr (h.ne (i := 3) (j := 2) rfl rfl (by decide))), e.ams p2⟩, e.keep _ _ h.tm trivial (.inr (h.ne (i := 4) (j := 2) rfl rfl (by decide))), e.keep _ _ h.lv trivial (.inr (h.ne (i := 5) (j := 2) rfl rfl (by decide))), ⟨kv, e.keep _ _ k1 trivial (.inr (h.ne (i := 6) (j := 2) rfl rfl (by decide))), e.led k2⟩, ⟨ms, e.keep _ _ m1 trivial (.inr (h.ne (i := 7) (j := 2) rfl rfl (by decide))), e.mks m2⟩, e.keep _ _ h.pr trivial (.inr (h.ne (i := 8) (j := 2) rfl rfl (by decide))), h.nd⟩
theorem ChAt.set_sp (h : ChAt K C H c A s) {us : List V} {r : List Rat} (hu : AmL K H us r) : ChAt K C (upd H A.sp (.lst us)) c A { s with spots := r } := by
  obtain ⟨us0, s1, s2⟩ := h.st
  obtain ⟨ps, p1, p2⟩ := h.sp
  obtain ⟨kv, k1, k2⟩ := h.lg
  obtain ⟨ms, m1, m2⟩ := h.mr
  have e : Sx [] [A.sp] H (upd H A.sp (.lst us)) := sx_upd p1 rfl List.mem_cons_self
  exact ⟨e.keep _ _ h.ins trivial (.inr (h.ne (i := 0) (j := 3) rfl rfl (by decide))), e.keep _ _ h.own trivial (.inl rfl), ⟨us0, e.tup s1, e.dps 3 _ _ (noL_way _) s2⟩, e.tup h.nw, e.keep _ _ h.rw trivial (.inr (h.ne (i := 1) (j := 3) rfl rfl (by decide))), e.keep _ _ h.ld trivial (.inr (h.ne (i := 2) (j := 3) rfl rfl (by decide))), ⟨us, upd_same, e.ams hu⟩, e.keep _ _ h.tm trivial (.inr (h.ne (i := 4) (j := 3) rfl rfl (by decide))), e.keep _ _ h.lv trivial (.inr (h.ne (i := 5) (j := 3) rfl rfl (by decide))), ⟨kv, e.keep _ _ k1 trivial (.inr (h.ne (i := 6) (j := 3) rfl rfl (by decide))), e.led k2⟩, ⟨ms, e.keep _ _ m1 trivial (.inr (h.ne (i := 7) (j := 3) rfl rfl (by decide))), e.mks m2⟩, e.keep _ _ h.pr trivial (.inr (h.ne (i := 8) (j := 3) rfl rfl (by decide))), h.nd⟩
theorem ChAt.set_tm (h : ChAt K C H c A s) (r : List (Str × Int)) : ChAt K C (upd H A.tm (.dK (tmV r))) c A { s with tempos := r } := by
  obtain ⟨us0, s1, s2⟩ := h.st
  obtain ⟨ps, p1, p2⟩ := h.sp
  obtain ⟨kv, k1, k2⟩ := h.lg
  obtain ⟨ms, m1, m2⟩ := h.mr
  have e : Sx [] [A.tm] H (upd H A.tm (.dK (tmV r))) := sx_upd h.tm rfl List.mem_cons_self
  exact ⟨e.keep _ _ h.ins trivial (.inr (h.ne (i := 0) (j := 4) rfl rfl (by decide))), e.keep _ _ h.own trivial (.inl rfl), ⟨us0, e.tup s1, e.dps 3 _ _ (noL_way _) s2⟩, e.tup h.nw, e.keep _ _ h.rw trivial (.inr (h.ne (i := 1) (j := 4) rfl rfl (by decide))), e.keep _ _ h.ld trivial (.inr (h.ne (i := 2) (j := 4) rfl rfl (by decide))), ⟨ps, e.keep _ _ p1 trivial (.inr (h.ne (i := 3) (j := 4) rfl rfl (by decide))), e.ams p2⟩, upd_same, e.keep _ _ h.lv trivial (.inr (h.ne (i := 5) (j := 4) rfl rfl (by decide))), ⟨kv, e.keep _ _ k1 trivial (.inr (h.ne (i := 6) (j := 4) rfl rfl (by decide))), e.led k2⟩, ⟨ms, e.keep _ _ m1 trivial (.inr (h.ne (i := 7) (j := 4) rfl rfl (by decide))), e.mks m2⟩, e.keep _ _ h.pr trivial (.inr (h.ne (i := 8) (j := 4) rfl rfl (by decide))), h.nd⟩
theorem ChAt.set_lv (h : ChAt K C H c A s) (r : List Str) : ChAt K C (upd H A.lv (.lst (r.map V.str))) c A { s with leaving := r } := by
  obtain ⟨us0, s1, s2⟩ := h.st
  obtain ⟨ps, p1, p2⟩ := h.sp
  obtain ⟨kv, k1, k2⟩ := h.lg
  obtain ⟨ms, m1, m2⟩ := h.mr
  have e : Sx [] [A.lv] H (upd H A.lv (.lst (r.map V.str))) := sx_upd h.lv rfl List.mem_cons_self
  exact ⟨e.keep _ _ h.ins trivial (.inr (h.ne (i := 0) (j := 5) rfl rfl (by decide))), e.keep _ _ h.own trivial (.inl rfl), ⟨us0, e.tup s1, e.dps 3 _ _ (noL_way _) s2⟩, e.tup h.nw, e.keep _ _ h.rw trivial (.inr (h.ne (i := 1) (j := 5) rfl rfl (by decide))), e.keep _ _ h.ld trivial (.inr (h.ne (i := 2) (j := 5) rfl rfl (by decide))), ⟨ps, e.keep _ _ p1 trivial (.inr (h.ne (i := 3) (j := 5) rfl rfl (by decide))), e.ams p2⟩, e.keep _ _ h.tm trivial (.inr (h.ne (i := 4) (j := 5) rfl rfl (by decide))), upd_same, ⟨kv, e.keep _ _ k1 trivial (.inr (h.ne (i := 6) (j := 5) rfl rfl (by decide))), e.led k2⟩, ⟨ms, e.keep _ _ m1 trivial (.inr (h.ne (i := 7) (j := 5) rfl rfl (by decide))), e.mks m2⟩, e.keep _ _ h.pr trivial (.inr (h.ne (i := 8) (j := 5) rfl rfl (by decide))), h.nd⟩
theorem ChAt.set_lg (h : ChAt K C H c A s) {kvs : List (L2.Key × V)} {r : List (Str × (Rat × Rat × Rat))} (hu : LedL K H kvs r) : ChAt K C (upd H A.lg (.dK kvs)) c A { s with ledgers := r } := by
  obtain ⟨us0, s1, s2⟩ := h.st
  obtain ⟨ps, p1, p2⟩ := h.sp
  obtain ⟨kv, k1, k2⟩ := h.lg
  obtain ⟨ms, m1, m2⟩ := h.mr
  have e : Sx [] [A.lg] H (upd H A.lg (.dK kvs)) := sx_upd k1 rfl List.mem_cons_self
  exact ⟨e.keep _ _ h.ins trivial (.inr (h.ne (i := 0) (j := 6) rfl rfl (by decide))), e.keep _ _ h.own trivial (.inl rfl), ⟨us0, e.tup s1, e.dps 3 _ _ (noL_way _) s2⟩, e.tup h.nw, e.keep _ _ h.rw trivial (.inr (h.ne (i := 1) (j := 6) rfl rfl (by decide))), e.keep _ _ h.ld trivial (.inr (h.ne (i := 2) (j := 6) rfl rfl (by decide))), ⟨ps, e.keep _ _ p1 trivial (.inr (h.ne (i := 3) (j := 6) rfl rfl (by decide))), e.ams p2⟩, e.keep _ _ h.tm trivial (.inr (h.ne (i := 4) (j := 6) rfl rfl (by decide))), e.keep _ _ h.lv trivial (.inr (h.ne (i := 5) (j := 6) rfl rfl (by decide))), ⟨kvs, upd_same, e.led hu⟩, ⟨ms, e.keep _ _ m1 trivial (.inr (h.ne (i := 7) (j := 6) rfl rfl (by decide))), e.mks m2⟩, e.keep _ _ h.pr trivial (.inr (h.ne (i := 8) (j := 6) rfl rfl (by decide))), h.nd⟩
theorem ChAt.set_mr (h : ChAt K C H c A s) {us : List V} {r : List (List (Str × Rat))} (hu : DpAll K H us (r.map mkD)) : ChAt K C (upd H A.mr (.lst us)) c A { s with marks := r } := by
  obtain ⟨us0, s1, s2⟩ := h.st
  obtain ⟨ps, p1, p2⟩ := h.sp
  obtain ⟨kv, k1, k2⟩ := h.lg
  obtain ⟨ms, m1, m2⟩ := h.mr
  have e : Sx [] [A.mr] H (upd H A.mr (.lst us)) := sx_upd m1 rfl List.mem_cons_self
  exact ⟨e.keep _ _ h.ins trivial (.inr (h.ne (i := 0) (j := 7) rfl rfl (by decide))), e.keep _ _ h.own trivial (.inl rfl), ⟨us0, e.tup s1, e.dps 3 _ _ (noL_way _) s2⟩, e.tup h.nw, e.keep _ _ h.rw trivial (.inr (h.ne (i := 1) (j := 7) rfl rfl (by decide))), e.keep _ _ h.ld trivial (.inr (h.ne (i := 2) (j := 7) rfl rfl (by decide))), ⟨ps, e.keep _ _ p1 trivial (.inr (h.ne (i := 3) (j := 7) rfl rfl (by decide))), e.ams p2⟩, e.keep _ _ h.tm trivial (.inr (h.ne (i := 4) (j := 7) rfl rfl (by decide))), e.keep _ _ h.lv trivial (.inr (h.ne (i := 5) (j := 7) rfl rfl (by decide))), ⟨kv, e.keep _ _ k1 trivial (.inr (h.ne (i := 6) (j := 7) rfl rfl (by decide))), e.led k2⟩, ⟨us, upd_same, e.mks hu⟩, e.keep _ _ h.pr trivial (.inr (h.ne (i := 8) (j := 7) rfl rfl (by decide))), h.nd⟩
theorem ChAt.set_pr (h : ChAt K C H c A s) (r : List Int) : ChAt K C (upd H A.pr (.lst (r.map V.int))) c A { s with poured := r } := by
  obtain ⟨us0, s1, s2⟩ := h.st
  obtain ⟨ps, p1, p2⟩ := h.sp
  obtain ⟨kv, k1, k2⟩ := h.lg
  obtain ⟨ms, m1, m2⟩ := h.mr
  have e : Sx [] [A.pr] H (upd H A.pr (.lst (r.map V.int))) := sx_upd h.pr rfl List.mem_cons_self
  exact ⟨e.keep _ _ h.ins trivial (.inr (h.ne (i := 0) (j := 8) rfl rfl (by decide))), e.keep _ _ h.own trivial (.inl rfl), ⟨us0, e.tup s1, e.dps 3 _ _ (noL_way _) s2⟩, e.tup h.nw, e.keep _ _ h.rw trivial (.inr (h.ne (i := 1) (j := 8) rfl rfl (by decide))), e.keep _ _ h.ld trivial (.inr (h.ne (i := 2) (j := 8) rfl rfl (by decide))), ⟨ps, e.keep _ _ p1 trivial (.inr (h.ne (i := 3) (j := 8) rfl rfl (by decide))), e.ams p2⟩, e.keep _ _ h.tm trivial (.inr (h.ne (i := 4) (j := 8) rfl rfl (by decide))), e.keep _ _ h.lv trivial (.inr (h.ne (i := 5) (j := 8) rfl rfl (by decide))), ⟨kv, e.keep _ _ k1 trivial (.inr (h.ne (i := 6) (j := 8) rfl rfl (by decide))), e.led k2⟩, ⟨ms, e.keep _ _ m1 trivial (.inr (h.ne (i := 7) (j := 8) rfl rfl (by decide))), e.mks m2⟩, upd_same, h.nd⟩
theorem ChAt.re_nw (h : ChAt K C H c A s) {n : Addr} {t : Rat} (hn : SqT K H n (tv (am t))) : ChAt K C (upd H c (.ins C A.dx (flds s.fire { A with nw := n }))) c { A with nw := n } { s with now := t } := by
  obtain ⟨us0, s1, s2⟩ := h.st
  obtain ⟨ps, p1, p2⟩ := h.sp
  obtain ⟨kv, k1, k2⟩ := h.lg
  obtain ⟨ms, m1, m2⟩ := h.mr
  have e : Sx [] [c] H (upd H c (.ins C A.dx (flds s.fire { A with nw := n }))) := sx_upd h.ins rfl List.mem_cons_self
  exact ⟨upd_same, e.keep _ _ h.own trivial (.inl rfl), ⟨us0, e.tup s1, e.dps 3 _ _ (noL_way _) s2⟩, e.tup hn, e.keep _ _ h.rw trivial (.inr (h.ne (i := 1) (j := 0) rfl rfl (by decide))), e.keep _ _ h.ld trivial (.inr (h.ne (i := 2) (j := 0) rfl rfl (by decide))), ⟨ps, e.keep _ _ p1 trivial (.inr (h.ne (i := 3) (j := 0) rfl rfl (by decide))), e.ams p2⟩, e.keep _ _ h.tm trivial (.inr (h.ne (i := 4) (j := 0) rfl rfl (by decide))), e.keep _ _ h.lv trivial (.inr (h.ne (i := 5) (j := 0) rfl rfl (by decide))), ⟨kv, e.keep _ _ k1 trivial (.inr (h.ne (i := 6) (j := 0) rfl rfl (by decide))), e.led k2⟩, ⟨ms, e.keep _ _ m1 trivial (.inr (h.ne (i := 7) (j := 0) rfl rfl (by decide))), e.mks m2⟩, e.keep _ _ h.pr trivial (.inr (h.ne (i := 8) (j := 0) rfl rfl (by decide))), h.nd⟩
theorem ChAt.re_rw (h : ChAt K C H c A s) {n : Addr} {r : List Str} (hn : H n = some (.lst (r.map V.str))) (np : n ∉ ownC c A) : ChAt K C (upd H c (.ins C A.dx (flds s.fire { A with rw := n }))) c { A with rw := n } { s with row := r } := by
  obtain ⟨us0, s1, s2⟩ := h.st
  obtain ⟨ps, p1, p2⟩ := h.sp
  obtain ⟨kv, k1, k2⟩ := h.lg
  obtain ⟨ms, m1, m2⟩ := h.mr
  have e : Sx [] [c] H (upd H c (.ins C A.dx (flds s.fire { A with rw := n }))) := sx_upd h.ins rfl List.mem_cons_self
  exact ⟨upd_same, e.keep _ _ h.own trivial (.inl rfl), ⟨us0, e.tup s1, e.dps 3 _ _ (noL_way _) s2⟩, e.tup h.nw, e.keep _ _ hn trivial (.inr (fun z => np (by have e : n = c := List.mem_singleton.mp z; rw [e]; exact List.mem_cons_self))), e.keep _ _ h.ld trivial (.inr (h.ne (i := 2) (j := 0) rfl rfl (by decide))), ⟨ps, e.keep _ _ p1 trivial (.inr (h.ne (i := 3) (j := 0) rfl rfl (by decide))), e.ams p2⟩, e.keep _ _ h.tm trivial (.inr (h.ne (i := 4) (j := 0) rfl rfl (by decide))), e.keep _ _ h.lv trivial (.inr (h.ne (i := 5) (j := 0) rfl rfl (by decide))), ⟨kv, e.keep _ _ k1 trivial (.inr (h.ne (i := 6) (j := 0) rfl rfl (by decide))), e.led k2⟩, ⟨ms, e.keep _ _ m1 trivial (.inr (h.ne (i := 7) (j := 0) rfl rfl (by decide))), e.mks m2⟩, e.keep _ _ h.pr trivial (.inr (h.ne (i := 8) (j := 0) rfl rfl (by decide))), nd_set h.nd (i := 1) rfl np⟩
theorem ChAt.re_ld (h : ChAt K C H c A s) {n : Addr} {r : List Int} (hn : H n = some (.lst (r.map V.int))) (np : n ∉ ownC c A) : ChAt K C (upd H c (.ins C A.dx (flds s.fire { A with ld := n }))) c { A with ld := n } { s with loads := r } := by
  obtain ⟨us0, s1, s2⟩ := h.st
  obtain ⟨ps, p1, p2⟩ := h.sp
  obtain ⟨kv, k1, k2⟩ := h.lg
  obtain ⟨ms, m1, m2⟩ := h.mr
  have e : Sx [] [c] H (upd H c (.ins C A.dx (flds s.fire { A with ld := n }))) := sx_upd h.ins rfl List.mem_cons_self
  exact ⟨upd_same, e.keep _ _ h.own trivial (.inl rfl), ⟨us0, e.tup s1, e.dps 3 _ _ (noL_way _) s2⟩, e.tup h.nw, e.keep _ _ h.rw trivial (.inr (h.ne (i := 1) (j := 0) rfl rfl (by decide))), e.keep _ _ hn trivial (.inr (fun z => np (by have e : n = c := List.mem_singleton.mp z; rw [e]; exact List.mem_cons_self))), ⟨ps, e.keep _ _ p1 trivial (.inr (h.ne (i := 3) (j := 0) rfl rfl (by decide))), e.ams p2⟩, e.keep _ _ h.tm trivial (.inr (h.ne (i := 4) (j := 0) rfl rfl (by decide))), e.keep _ _ h.lv trivial (.inr (h.ne (i := 5) (j := 0) rfl rfl (by decide))), ⟨kv, e.keep _ _ k1 trivial (.inr (h.ne (i := 6) (j := 0) rfl rfl (by decide))), e.led k2⟩, ⟨ms, e.keep _ _ m1 trivial (.inr (h.ne (i := 7) (j := 0) rfl rfl (by decide))), e.mks m2⟩, e.keep _ _ h.pr trivial (.inr (h.ne (i := 8) (j := 0) rfl rfl (by decide))), nd_set h.nd (i := 2) rfl np⟩
theorem ChAt.re_sp (h : ChAt K C H c A s) {n : Addr} {us : List V} {r : List Rat} (hn : H n = some (.lst us)) (hu : AmL K H us r) (np : n ∉ ownC c A) : ChAt K C (upd H c (.ins C A.dx (flds s.fire { A with sp := n }))) c { A with sp := n } { s with spots := r } := by
  obtain ⟨us0, s1, s2⟩ := h.st
  obtain ⟨ps, p1, p2⟩ := h.sp
  obtain ⟨kv, k1, k2⟩ := h.lg
  obtain ⟨ms, m1, m2⟩ := h.mr
  have e : Sx [] [c] H (upd H c (.ins C A.dx (flds s.fire { A with sp := n }))) := sx_upd h.ins rfl List.mem_cons_self
  exact ⟨upd_same, e.keep _ _ h.own trivial (.inl rfl), ⟨us0, e.tup s1, e.dps 3 _ _ (noL_way _) s2⟩, e.tup h.nw, e.keep _ _ h.rw trivial (.inr (h.ne (i := 1) (j := 0) rfl rfl (by decide))), e.keep _ _ h.ld trivial (.inr (h.ne (i := 2) (j := 0) rfl rfl (by decide))), ⟨us, e.keep _ _ hn trivial (.inr (fun z => np (by have e : n = c := List.mem_singleton.mp z; rw [e]; exact List.mem_cons_self))), e.ams hu⟩, e.keep _ _ h.tm trivial (.inr (h.ne (i := 4) (j := 0) rfl rfl (by decide))), e.keep _ _ h.lv trivial (.inr (h.ne (i := 5) (j := 0) rfl rfl (by decide))), ⟨kv, e.keep _ _ k1 trivial (.inr (h.ne (i := 6) (j := 0) rfl rfl (by decide))), e.led k2⟩, ⟨ms, e.keep _ _ m1 trivial (.inr (h.ne (i := 7) (j := 0) rfl rfl (by decide))), e.mks m2⟩, e.keep _ _ h.pr trivial (.inr (h.ne (i := 8) (j := 0) rfl rfl (by decide))), nd_set h.nd (i := 3) rfl np⟩
theorem ChAt.re_tm (h : ChAt K C H c A s) {n : Addr} {r : List (Str × Int)} (hn : H n = some (.dK (tmV r))) (np : n ∉ ownC c A) : ChAt K C (upd H c (.ins C A.dx (flds s.fire { A with tm := n }))) c { A with tm := n } { s with tempos := r } := by
  obtain ⟨us0, s1, s2⟩ := h.st
  obtain ⟨ps, p1, p2⟩ := h.sp
  obtain ⟨kv, k1, k2⟩ := h.lg
  obtain ⟨ms, m1, m2⟩ := h.mr
  have e : Sx [] [c] H (upd H c (.ins C A.dx (flds s.fire { A with tm := n }))) := sx_upd h.ins rfl List.mem_cons_self
  exact ⟨upd_same, e.keep _ _ h.own trivial (.inl rfl), ⟨us0, e.tup s1, e.dps 3 _ _ (noL_way _) s2⟩, e.tup h.nw, e.keep _ _ h.rw trivial (.inr (h.ne (i := 1) (j := 0) rfl rfl (by decide))), e.keep _ _ h.ld trivial (.inr (h.ne (i := 2) (j := 0) rfl rfl (by decide))), ⟨ps, e.keep _ _ p1 trivial (.inr (h.ne (i := 3) (j := 0) rfl rfl (by decide))), e.ams p2⟩, e.keep _ _ hn trivial (.inr (fun z => np (by have e : n = c := List.mem_singleton.mp z; rw [e]; exact List.mem_cons_self))), e.keep _ _ h.lv trivial (.inr (h.ne (i := 5) (j := 0) rfl rfl (by decide))), ⟨kv, e.keep _ _ k1 trivial (.inr (h.ne (i := 6) (j := 0) rfl rfl (by decide))), e.led k2⟩, ⟨ms, e.keep _ _ m1 trivial (.inr (h.ne (i := 7) (j := 0) rfl rfl (by decide))), e.mks m2⟩, e.keep _ _ h.pr trivial (.inr (h.ne (i := 8) (j := 0) rfl rfl (by decide))), nd_set h.nd (i := 4) rfl np⟩
theorem ChAt.re_lv (h : ChAt K C H c A s) {n : Addr} {r : List Str} (hn : H n = some (.lst (r.map V.str))) (np : n ∉ ownC c A) : ChAt K C (upd H c (.ins C A.dx (flds s.fire { A with lv := n }))) c { A with lv := n } { s with leaving := r } := by
  obtain ⟨us0, s1, s2⟩ := h.st
  obtain ⟨ps, p1, p2⟩ := h.sp
  obtain ⟨kv, k1, k2⟩ := h.lg
  obtain ⟨ms, m1, m2⟩ := h.mr
  have e : Sx [] [c] H (upd H c (.ins C A.dx (flds s.fire { A with lv := n }))) := sx_upd h.ins rfl List.mem_cons_self
  exact ⟨upd_same, e.keep _ _ h.own trivial (.inl rfl), ⟨us0, e.tup s1, e.dps 3 _ _ (noL_way _) s2⟩, e.tup h.nw, e.keep _ _ h.rw trivial (.inr (h.ne (i := 1) (j := 0) rfl rfl (by decide))), e.keep _ _ h.ld trivial (.inr (h.ne (i := 2) (j := 0) rfl rfl (by decide))), ⟨ps, e.keep _ _ p1 trivial (.inr (h.ne (i := 3) (j := 0) rfl rfl (by decide))), e.ams p2⟩, e.keep _ _ h.tm trivial (.inr (h.ne (i := 4) (j := 0) rfl rfl (by decide))), e.keep _ _ hn trivial (.inr (fun z => np (by have e : n = c := List.mem_singleton.mp z; rw [e]; exact List.mem_cons_self))), ⟨kv, e.keep _ _ k1 trivial (.inr (h.ne (i := 6) (j := 0) rfl rfl (by decide))), e.led k2⟩, ⟨ms, e.keep _ _ m1 trivial (.inr (h.ne (i := 7) (j := 0) rfl rfl (by decide))), e.mks m2⟩, e.keep _ _ h.pr trivial (.inr (h.ne (i := 8) (j := 0) rfl rfl (by decide))), nd_set h.nd (i := 5) rfl np⟩
theorem ChAt.re_lg (h : ChAt K C H c A s) {n : Addr} {kvs : List (L2.Key × V)} {r : List (Str × (Rat × Rat × Rat))} (hn : H n = some (.dK kvs)) (hu : LedL K H kvs r) (np : n ∉ ownC c A) : ChAt K C (upd H c (.ins C A.dx (flds s.fire { A with lg := n }))) c { A with lg := n } { s with ledgers := r } := by
  obtain ⟨us0, s1, s2⟩ := h.st
  obtain ⟨ps, p1, p2⟩ := h.sp
  obtain ⟨kv, k1, k2⟩ := h.lg
  obtain ⟨ms, m1, m2⟩ := h.mr
  have e : Sx [] [c] H (upd H c (.ins C A.dx (flds s.fire { A with lg := n }))) := sx_upd h.ins rfl List.mem_cons_self
  exact ⟨upd_same, e.keep _ _ h.own trivial (.inl rfl), ⟨us0, e.tup s1, e.dps 3 _ _ (noL_way _) s2⟩, e.tup h.nw, e.keep _ _ h.rw trivial (.inr (h.ne (i := 1) (j := 0) rfl rfl (by decide))), e.keep _ _ h.ld trivial (.inr (h.ne (i := 2) (j := 0) rfl rfl (by decide))), ⟨ps, e.keep _ _ p1 trivial (.inr (h.ne (i := 3) (j := 0) rfl rfl (by decide))), e.ams p2⟩, e.keep _ _ h.tm trivial (.inr (h.ne (i := 4) (j := 0) rfl rfl (by decide))), e.keep _ _ h.lv trivial (.inr (h.ne (i := 5) (j := 0) rfl rfl (by decide))), ⟨kvs, e.keep _ _ hn trivial (.inr (fun z => np (by have e : n = c := List.mem_singleton.mp z; rw [e]; exact List.mem_cons_self))), e.led hu⟩, ⟨ms, e.keep _ _ m1 trivial (.inr (h.ne (i := 7) (j := 0) rfl rfl (by decide))), e.mks m2⟩, e.keep _ _ h.pr trivial (.inr (h.ne (i := 8) (j := 0) rfl rfl (by decide))), nd_set h.nd (i := 6) rfl np⟩
theorem ChAt.re_mr (h : ChAt K C H c A s) {n : Addr} {us : List V} {r : List (List (Str × Rat))} (hn : H n = some (.lst us)) (hu : DpAll K H us (r.map mkD)) (np : n ∉ ownC c A) : ChAt K C (upd H c (.ins C A.dx (flds s.fire { A with mr := n }))) c { A with mr := n } { s with marks := r } := by
  obtain ⟨us0, s1, s2⟩ := h.st
  obtain ⟨ps, p1, p2⟩ := h.sp
  obtain ⟨kv, k1, k2⟩ := h.lg
  obtain ⟨ms, m1, m2⟩ := h.mr
  have e : Sx [] [c] H (upd H c (.ins C A.dx (flds s.fire { A with mr := n }))) := sx_upd h.ins rfl List.mem_cons_self
  exact ⟨upd_same, e.keep _ _ h.own trivial (.inl rfl), ⟨us0, e.tup s1, e.dps 3 _ _ (noL_way _) s2⟩, e.tup h.nw, e.keep _ _ h.rw trivial (.inr (h.ne (i := 1) (j := 0) rfl rfl (by decide))), e.keep _ _ h.ld trivial (.inr (h.ne (i := 2) (j := 0) rfl rfl (by decide))), ⟨ps, e.keep _ _ p1 trivial (.inr (h.ne (i := 3) (j := 0) rfl rfl (by decide))), e.ams p2⟩, e.keep _ _ h.tm trivial (.inr (h.ne (i := 4) (j := 0) rfl rfl (by decide))), e.keep _ _ h.lv trivial (.inr (h.ne (i := 5) (j := 0) rfl rfl (by decide))), ⟨kv, e.keep _ _ k1 trivial (.inr (h.ne (i := 6) (j := 0) rfl rfl (by decide))), e.led k2⟩, ⟨us, e.keep _ _ hn trivial (.inr (fun z => np (by have e : n = c := List.mem_singleton.mp z; rw [e]; exact List.mem_cons_self))), e.mks hu⟩, e.keep _ _ h.pr trivial (.inr (h.ne (i := 8) (j := 0) rfl rfl (by decide))), nd_set h.nd (i := 7) rfl np⟩
theorem ChAt.re_pr (h : ChAt K C H c A s) {n : Addr} {r : List Int} (hn : H n = some (.lst (r.map V.int))) (np : n ∉ ownC c A) : ChAt K C (upd H c (.ins C A.dx (flds s.fire { A with pr := n }))) c { A with pr := n } { s with poured := r } := by
  obtain ⟨us0, s1, s2⟩ := h.st
  obtain ⟨ps, p1, p2⟩ := h.sp
  obtain ⟨kv, k1, k2⟩ := h.lg
  obtain ⟨ms, m1, m2⟩ := h.mr
  have e : Sx [] [c] H (upd H c (.ins C A.dx (flds s.fire { A with pr := n }))) := sx_upd h.ins rfl List.mem_cons_self
  exact ⟨upd_same, e.keep _ _ h.own trivial (.inl rfl), ⟨us0, e.tup s1, e.dps 3 _ _ (noL_way _) s2⟩, e.tup h.nw, e.keep _ _ h.rw trivial (.inr (h.ne (i := 1) (j := 0) rfl rfl (by decide))), e.keep _ _ h.ld trivial (.inr (h.ne (i := 2) (j := 0) rfl rfl (by decide))), ⟨ps, e.keep _ _ p1 trivial (.inr (h.ne (i := 3) (j := 0) rfl rfl (by decide))), e.ams p2⟩, e.keep _ _ h.tm trivial (.inr (h.ne (i := 4) (j := 0) rfl rfl (by decide))), e.keep _ _ h.lv trivial (.inr (h.ne (i := 5) (j := 0) rfl rfl (by decide))), ⟨kv, e.keep _ _ k1 trivial (.inr (h.ne (i := 6) (j := 0) rfl rfl (by decide))), e.led k2⟩, ⟨ms, e.keep _ _ m1 trivial (.inr (h.ne (i := 7) (j := 0) rfl rfl (by decide))), e.mks m2⟩, e.keep _ _ hn trivial (.inr (fun z => np (by have e : n = c := List.mem_singleton.mp z; rw [e]; exact List.mem_cons_self))), nd_set h.nd (i := 8) rfl np⟩
theorem ChAt.some (h : ChAt K C H c A s) {x : Addr} (hx : x ∈ ownC c A) : ∃ o, H x = some o ∧ mutO o = true := by
  obtain ⟨ps, p1, p2⟩ := h.sp
  obtain ⟨kv, k1, k2⟩ := h.lg
  obtain ⟨ms, m1, m2⟩ := h.mr
  simp only [ownC, List.mem_cons, List.not_mem_nil, or_false] at hx
  rcases hx with rfl | rfl | rfl | rfl | rfl | rfl | rfl | rfl | rfl
  · exact ⟨_, h.ins, rfl⟩
  · exact ⟨_, h.rw, rfl⟩
  · exact ⟨_, h.ld, rfl⟩
  · exact ⟨_, p1, rfl⟩
  · exact ⟨_, h.tm, rfl⟩
  · exact ⟨_, h.lv, rfl⟩
  · exact ⟨_, k1, rfl⟩
  · exact ⟨_, m1, rfl⟩
  · exact ⟨_, h.pr, rfl⟩
theorem ChAt.new (h : ChAt K C H c A s) {n : Addr} (hn : H n = none) : n ∉ ownC c A := fun hx => by
  obtain ⟨o, ho, _⟩ := h.some hx
  rw [hn] at ho
  cases ho
end

structure Kl (K : PySem.W.Frag) (C : Addr) : Prop where
  cl : Cls K C
  no : ∀ f ∈ FLD, NoAttr K C f

/-! ### dicts by names -/
def getL {α : Type} (l : List (Str × α)) (n : Str) : Option α := (l.find? fun x => decide (x.1 = n)).map (·.2)
def putL {α : Type} (l : List (Str × α)) (n : Str) (a : α) : List (Str × α) := if (l.any fun x => decide (x.1 = n)) = true then l.map (fun x => if x.1 = n then (x.1, a) else x) else l ++ [(n, a)]
theorem inr_eq {a b : Str} : ((Sum.inr a : L2.Key) = Sum.inr b) ↔ a = b := ⟨fun h => Sum.inr.inj h, fun h => by rw [h]⟩
theorem val_tm (l : List (Str × Int)) (n : Str) : valV (tmV l) (Sum.inr n) = (getL l n).map V.int := by
  unfold valV getL tmV
  induction l with
  | nil => rfl
  | cons x l ih =>
    rw [List.map_cons, List.find?_cons, List.find?_cons]
    by_cases h : x.1 = n
    · rw [decide_eq_true h, decide_eq_true (inr_eq.mpr h)]
      rfl
    · rw [decide_eq_false h, decide_eq_false (fun z => h (inr_eq.mp z))]
      exact ih
theorem any_tm (l : List (Str × Int)) (n : Str) : ((tmV l).any fun kv => decide (kv.1 = Sum.inr n)) = l.any fun x => decide (x.1 = n) := by
  unfold tmV
  rw [List.any_map]
  congr 1
  funext x
  show decide ((Sum.inr x.1 : L2.Key) = Sum.inr n) = decide (x.1 = n)
  exact decide_eq_decide.mpr inr_eq
theorem put_tm (l : List (Str × Int)) (n : Str) (p : Int) : putK (tmV l) (Sum.inr n) (V.int p) = tmV (putL l n p) := by
  unfold putK putL
  rw [any_tm]
  split
  · unfold tmV
    rw [List.map_map, List.map_map]
    refine List.map_congr_left fun x _ => ?_
    show (if (Sum.inr x.1 : L2.Key) = Sum.inr n then _ else _) = _
    by_cases h : x.1 = n
    · rw [if_pos (inr_eq.mpr h)]
      simp only [Function.comp, if_pos h]
    · rw [if_neg (fun z => h (inr_eq.mp z))]
      simp only [Function.comp, if_neg h]
  · unfold tmV
    rw [List.map_append]
    rfl
theorem led_val {K : PySem.W.Frag} {H : Hp} : ∀ {kvs : List (L2.Key × V)} {l : List (Str × (Rat × Rat × Rat))}, LedL K H kvs l → ∀ n : Str,
    (getL l n = none ∧ valV kvs (Sum.inr n) = none) ∨ ∃ x v, getL l n = some x ∧ valV kvs (Sum.inr n) = some v ∧ Dp K H v (ledD x)
  | [], [], _, n => .inl ⟨rfl, rfl⟩
  | [], _ :: _, h, n => by cases h.1
  | _ :: _, [], h, n => by cases h.1
  | kv :: kvs, x :: l, h, n => by
    obtain ⟨h1, h2⟩ := h
    rw [List.map_cons, List.map_cons] at h1 h2
    have e1 := (List.cons.inj h1).1
    have e2 := (List.cons.inj h1).2
    cases h2 with
    | cons d1 d2 =>
      unfold getL valV
      rw [List.find?_cons, List.find?_cons]
      by_cases hn : x.1 = n
      · rw [decide_eq_true hn, decide_eq_true (by rw [e1, hn])]
        exact .inr ⟨x.2, kv.2, rfl, rfl, d1⟩
      · rw [decide_eq_false hn, decide_eq_false (fun z => by rw [e1] at z; exact hn (inr_eq.mp z))]
        exact led_val ⟨e2, d2⟩ n
theorem led_any {K : PySem.W.Frag} {H : Hp} : ∀ {kvs : List (L2.Key × V)} {l : List (Str × (Rat × Rat × Rat))}, LedL K H kvs l → ∀ n : Str, (kvs.any fun kv => decide (kv.1 = Sum.inr n)) = l.any fun x => decide (x.1 = n)
  | [], [], _, n => rfl
  | [], _ :: _, h, n => by cases h.1
  | _ :: _, [], h, n => by cases h.1
  | kv :: kvs, x :: l, h, n => by
    obtain ⟨h1, h2⟩ := h
    rw [List.map_cons, List.map_cons] at h1 h2
    cases h2 with
    | cons d1 d2 =>
      rw [List.any_cons, List.any_cons, led_any ⟨(List.cons.inj h1).2, d2⟩ n, (List.cons.inj h1).1]
      congr 1
      exact decide_eq_decide.mpr inr_eq
theorem led_map {K : PySem.W.Frag} {H : Hp} {n : Str} {v : V} {x : Rat × Rat × Rat} (hv : Dp K H v (ledD x)) : ∀ {kvs : List (L2.Key × V)} {l : List (Str × (Rat × Rat × Rat))}, LedL K H kvs l →
    LedL K H (kvs.map fun kv => if kv.1 = Sum.inr n then (kv.1, v) else kv) (l.map fun y => if y.1 = n then (y.1, x) else y)
  | [], [], _ => ⟨rfl, .nil⟩
  | [], _ :: _, h => by cases h.1
  | _ :: _, [], h => by cases h.1
  | kv :: kvs, y :: l, h => by
    obtain ⟨h1, h2⟩ := h
    rw [List.map_cons, List.map_cons] at h1 h2
    have e1 := (List.cons.inj h1).1
    cases h2 with
    | cons d1 d2 =>
      have ih := led_map hv (n := n) ⟨(List.cons.inj h1).2, d2⟩
      by_cases hn : y.1 = n
      · have hk : kv.1 = Sum.inr n := by rw [e1, hn]
        refine ⟨?_, ?_⟩
        · rw [List.map_cons, List.map_cons, List.map_cons, List.map_cons, if_pos hk, if_pos hn, ih.1]
          exact congrArg (· :: _) e1
        · simp only [List.map_cons, if_pos hk, if_pos hn]
          exact .cons hv ih.2
      · have hk : kv.1 ≠ Sum.inr n := fun z => hn (inr_eq.mp (e1.symm.trans z))
        refine ⟨?_, ?_⟩
        · rw [List.map_cons, List.map_cons, List.map_cons, List.map_cons, if_neg hk, if_neg hn, ih.1]
          exact congrArg (· :: _) e1
        · simp only [List.map_cons, if_neg hk, if_neg hn]
          exact .cons d1 ih.2
theorem led_put {K : PySem.W.Frag} {H : Hp} {kvs : List (L2.Key × V)} {l : List (Str × (Rat × Rat × Rat))} (h : LedL K H kvs l) {n : Str} {v : V} {x : Rat × Rat × Rat} (hv : Dp K H v (ledD x)) : LedL K H (putK kvs (Sum.inr n) v) (putL l n x) := by
  unfold putK putL
  rw [led_any h]
  split
  · exact led_map hv h
  · refine ⟨?_, ?_⟩
    · rw [List.map_append, List.map_append, h.1]
      rfl
    · rw [List.map_append, List.map_append]
      exact dpa_app h.2 (.cons hv .nil)
theorem led_len {K : PySem.W.Frag} {H : Hp} {kvs : List (L2.Key × V)} {l : List (Str × (Rat × Rat × Rat))} (h : LedL K H kvs l) : kvs.length = l.length := by
  have := congrArg List.length h.1
  rw [List.length_map, List.length_map] at this
  exact this
theorem getL_put {α : Type} (l : List (Str × α)) (n m : Str) (a : α) : getL (putL l n a) m = if n = m then some a else getL l m := by
  unfold putL
  split
  · rename_i h
    unfold getL
    induction l with
    | nil => cases h
    | cons x l ih =>
      rw [List.map_cons, List.find?_cons, List.find?_cons]
      by_cases hx : x.1 = n
      · rw [if_pos hx]
        by_cases hm : n = m
        · rw [if_pos hm, decide_eq_true (show x.1 = m by rw [hx, hm])]
          rfl
        · rw [if_neg hm, decide_eq_false (show ¬ x.1 = m by rw [hx]; exact hm)]
          dsimp only
          by_cases ha : (l.any fun x => decide (x.1 = n)) = true
          · have := ih ha
            rw [if_neg hm] at this
            exact this
          · have e : l.map (fun x => if x.1 = n then (x.1, a) else x) = l := by
              refine (List.map_congr_left fun y hy => ?_).trans (List.map_id l)
              refine if_neg fun z => ha (List.any_eq_true.mpr ⟨y, hy, decide_eq_true z⟩)
            rw [e]
      · rw [if_neg hx]
        rw [List.any_cons, decide_eq_false hx, Bool.false_or] at h
        by_cases hm : x.1 = m
        · rw [decide_eq_true hm]
          by_cases hnm : n = m
          · exact absurd (hm.trans hnm.symm) hx
          · rw [if_neg hnm]
        · rw [decide_eq_false hm]
          exact ih h
  · rename_i h
    unfold getL
    rw [List.find?_append]
    by_cases hm : n = m
    · rw [if_pos hm]
      have e : l.find? (fun x => decide (x.1 = m)) = none := by
        rw [List.find?_eq_none]
        intro y hy z
        exact h (List.any_eq_true.mpr ⟨y, hy, by rw [hm]; exact z⟩)
      rw [e, Option.none_or, List.find?_cons, decide_eq_true (show (n, a).1 = m from hm)]
      rfl
    · rw [if_neg hm]
      cases e : l.find? (fun x => decide (x.1 = m)) with
      | some y => rfl
      | none =>
        rw [Option.none_or, List.find?_cons, decide_eq_false (show ¬ (n, a).1 = m from hm)]
        rfl
theorem putL_len {α : Type} (l : List (Str × α)) (n : Str) (a : α) : (putL l n a).length ≤ l.length + 1 := by
  unfold putL
  split
  · rw [List.length_map]; omega
  · rw [List.length_append]; exact Nat.le_refl _
theorem putL_has {α : Type} {l : List (Str × α)} {n : Str} {a b : α} (h : getL l n = some b) : (putL l n a).length = l.length := by
  unfold putL
  rw [if_pos, List.length_map]
  unfold getL at h
  cases e : l.find? (fun x => decide (x.1 = n)) with
  | none => rw [e] at h; cases h
  | some y => exact List.any_eq_true.mpr ⟨y, List.mem_of_find?_eq_some e, by have := List.find?_some e; simpa using this⟩
theorem flat_strs (l : List Str) : (l.map V.str).all flatV = true := by
  rw [List.all_map]
  exact List.all_eq_true.mpr fun _ _ => rfl
theorem inV_strs (n : Str) (l : List Str) : inV (.str n) (l.map V.str) = decide (n ∈ l) := by
  unfold inV
  induction l with
  | nil => simp
  | cons x l ih =>
    rw [List.map_cons, List.any_cons, ih]
    show ((x == n) || _) = _
    by_cases h : x = n
    · subst h
      simp
    · have e : (x == n) = false := by simpa using h
      rw [e, Bool.false_or]
      refine decide_eq_decide.mpr ?_
      rw [List.mem_cons]
      exact ⟨.inr, fun z => z.resolve_left fun y => h y.symm⟩

/-! ### shares -/
structure Ris (ns : List Int) : Prop where
  n1 : 1 ≤ ns.length
  n8 : ns.length ≤ 8
  pace : ∀ n ∈ ns, 1 ≤ n ∧ n ≤ 12
  rise : ns.Pairwise (· ≤ ·)
def prt (ns : List Int) (j : Nat) : Rat := ((ns.getD (j - 1) 0 : Int) : Rat) / ((ns.getD j 0 : Int) : Rat)
def boR (ns : List Int) (xs : List Rat) (j : Nat) : Rat := if j = 0 then xs.getD (ns.length - 1) 0 else prt ns j * xs.getD (j - 1) 0 + (1 - prt ns j) * xs.getD (ns.length - 1) 0
def bo (ns : List Int) (xs : List Rat) : List Rat := (List.range ns.length).map (boR ns xs)
def rnd (ns : List Int) (xs : List Rat) : Nat → List Rat
  | 0 => xs
  | r + 1 => bo ns (rnd ns xs r)
theorem bo_len (ns : List Int) (xs : List Rat) : (bo ns xs).length = ns.length := by unfold bo; rw [List.length_map, List.length_range]
theorem rnd_len {ns : List Int} {xs : List Rat} (h : xs.length = ns.length) : ∀ r, (rnd ns xs r).length = ns.length
  | 0 => h
  | _ + 1 => bo_len _ _
theorem bo_get {ns : List Int} {xs : List Rat} {j : Nat} (h : j < ns.length) : (bo ns xs).getD j 0 = boR ns xs j := by
  unfold bo
  rw [List.getD_eq_getElem?_getD, List.getElem?_map, List.getElem?_range h]
  rfl
theorem rnd_add (ns : List Int) (xs : List Rat) (a : Nat) : ∀ b, rnd ns xs (a + b) = rnd ns (rnd ns xs a) b
  | 0 => rfl
  | b + 1 => by
    show bo ns (rnd ns xs (a + b)) = bo ns (rnd ns (rnd ns xs a) b)
    rw [rnd_add ns xs a b]
theorem m12 {b : Int} (h1 : 1 ≤ b) (h2 : b ≤ 12) : ∃ m : Int, m ≠ 0 ∧ b * m = 27720 := by
  rcases (by omega : b = 1 ∨ b = 2 ∨ b = 3 ∨ b = 4 ∨ b = 5 ∨ b = 6 ∨ b = 7 ∨ b = 8 ∨ b = 9 ∨ b = 10 ∨ b = 11 ∨ b = 12) with rfl | rfl | rfl | rfl | rfl | rfl | rfl | rfl | rfl | rfl | rfl | rfl
  · exact ⟨27720, by decide, by decide⟩
  · exact ⟨13860, by decide, by decide⟩
  · exact ⟨9240, by decide, by decide⟩
  · exact ⟨6930, by decide, by decide⟩
  · exact ⟨5544, by decide, by decide⟩
  · exact ⟨4620, by decide, by decide⟩
  · exact ⟨3960, by decide, by decide⟩
  · exact ⟨3465, by decide, by decide⟩
  · exact ⟨3080, by decide, by decide⟩
  · exact ⟨2772, by decide, by decide⟩
  · exact ⟨2520, by decide, by decide⟩
  · exact ⟨2310, by decide, by decide⟩
theorem Fr.div12 {D b : Int} {a : Rat} (hD : D ≠ 0) (h : Fr D a) (h1 : 1 ≤ b) (h2 : b ≤ 12) : Fr (D * 27720) (a / (b : Rat)) := by
  obtain ⟨m, hm, e⟩ := m12 h1 h2
  have := (h.divI hD (k := b) (by omega)).scale (Int.mul_ne_zero hD (by omega)) hm
  rw [Int.mul_assoc, e] at this
  exact this
theorem Fr.up {D : Int} {a : Rat} (hD : D ≠ 0) (h : Fr D a) : Fr (D * 27720) a := h.scale hD (by decide)
theorem getI {l : List Int} {j : Nat} (h : j < l.length) : l[j]? = some (l.getD j 0) := by
  rw [List.getD_eq_getElem?_getD, List.getElem?_eq_getElem h]
  rfl
theorem ris_at {ns : List Int} (w : Ris ns) {j : Nat} (h : j < ns.length) : 1 ≤ ns.getD j 0 ∧ ns.getD j 0 ≤ 12 := w.pace _ (getD_mem h)
theorem ris_le {ns : List Int} (w : Ris ns) {j : Nat} (h : j < ns.length) : ns.getD (j - 1) 0 ≤ ns.getD j 0 := by
  by_cases c : j = 0
  · subst c; exact Int.le_refl _
  · rw [getD_lt h, getD_lt (show j - 1 < ns.length by omega)]
    exact List.pairwise_iff_getElem.mp w.rise (j - 1) j (by omega) h (by omega)
theorem prt_ok {ns : List Int} (w : Ris ns) {j : Nat} (h : j < ns.length) : 0 ≤ prt ns j ∧ prt ns j ≤ 1 ∧ Fr 27720 (prt ns j) ∧ prt ns j * ((ns.getD j 0 : Int) : Rat) = ((ns.getD (j - 1) 0 : Int) : Rat) := by
  have a := ris_at w h
  have b := ris_at w (show j - 1 < ns.length by omega)
  have l := ris_le w h
  have e : prt ns j * ((ns.getD j 0 : Int) : Rat) = ((ns.getD (j - 1) 0 : Int) : Rat) := div_mul (by omega)
  have kp := cp (show 0 < ns.getD j 0 by omega)
  have l' : ((ns.getD (j - 1) 0 : Int) : Rat) ≤ ((ns.getD j 0 : Int) : Rat) := Rat.intCast_le_intCast.mpr l
  have b' : (0 : Rat) < ((ns.getD (j - 1) 0 : Int) : Rat) := cp (by omega)
  refine ⟨?_, ?_, ?_, e⟩
  · by_cases c : prt ns j < 0
    · have := Rat.mul_lt_mul_of_pos_right c kp
      grind
    · exact Rat.not_lt.mp c
  · by_cases c : 1 < prt ns j
    · have := Rat.mul_lt_mul_of_pos_right c kp
      grind
    · exact Rat.not_lt.mp c
  · have := (Fr.int (D := 1) (by decide) (ns.getD (j - 1) 0)).div12 (b := ns.getD j 0) (by decide) a.1 a.2
    exact this
theorem prt_mul {ns : List Int} (w : Ris ns) {D : Int} {x : Rat} (hD : D ≠ 0) (hx : Fr D x) {j : Nat} (h : j < ns.length) : Fr (D * 27720) (prt ns j * x) := by
  have a := ris_at w h
  have e : prt ns j * x = (((ns.getD (j - 1) 0 : Int) : Rat) * x) / ((ns.getD j 0 : Int) : Rat) := by
    unfold prt
    have := cn (a := ns.getD j 0) (by omega)
    grind
  rw [e]
  exact (hx.mulI _).div12 hD a.1 a.2
theorem mix_rng {p x l B : Rat} (p0 : 0 ≤ p) (p1 : p ≤ 1) (x0 : 0 ≤ x) (x1 : x ≤ B) (l0 : 0 ≤ l) (l1 : l ≤ B) : (0 ≤ p * x ∧ p * x ≤ B) ∧ (0 ≤ (1 - p) * l ∧ (1 - p) * l ≤ B) ∧ 0 ≤ p * x + (1 - p) * l ∧ p * x + (1 - p) * l ≤ B := by
  have q0 : 0 ≤ 1 - p := by grind
  have a := Rat.mul_nonneg p0 x0
  have b := Rat.mul_nonneg q0 l0
  have c := Rat.mul_le_mul_of_nonneg_left x1 p0
  have d := Rat.mul_le_mul_of_nonneg_left l1 q0
  have B0 : 0 ≤ B := Rat.le_trans x0 x1
  have e := Rat.mul_le_mul_of_nonneg_right p1 B0
  have f := Rat.mul_nonneg p0 B0
  refine ⟨⟨a, by grind⟩, ⟨b, by grind⟩, by grind, by grind⟩
theorem bo_ok {ns : List Int} (w : Ris ns) {D : Int} {xs : List Rat} {B : Rat} (hD : D ≠ 0) (hl : xs.length = ns.length) (hx : ∀ x ∈ xs, Fr D x ∧ 0 ≤ x ∧ x ≤ B) : ∀ y ∈ bo ns xs, Fr (D * 27720) y ∧ 0 ≤ y ∧ y ≤ B := by
  intro y hy
  unfold bo at hy
  obtain ⟨j, hj, rfl⟩ := List.mem_map.mp hy
  rw [List.mem_range] at hj
  have n1 := w.n1
  have ml := hx _ (getD_mem (d := (0 : Rat)) (show ns.length - 1 < xs.length by omega))
  unfold boR
  by_cases c : j = 0
  · rw [if_pos c]
    exact ⟨ml.1.up hD, ml.2⟩
  · rw [if_neg c]
    have mj := hx _ (getD_mem (d := (0 : Rat)) (show j - 1 < xs.length by omega))
    have p := prt_ok w hj
    have r := mix_rng p.1 p.2.1 mj.2.1 mj.2.2 ml.2.1 ml.2.2
    refine ⟨?_, r.2.2⟩
    have e : (1 - prt ns j) * xs.getD (ns.length - 1) 0 = xs.getD (ns.length - 1) 0 - prt ns j * xs.getD (ns.length - 1) 0 := by grind
    rw [e]
    exact (prt_mul w hD mj.1 hj).add ((ml.1.up hD).sub (prt_mul w hD ml.1 hj))
theorem pw_ne {D : Int} (hD : 0 < D) (r : Nat) : 0 < D * 27720 ^ r := Int.mul_pos hD (Int.pow_pos (by decide))
theorem rnd_ok {ns : List Int} (w : Ris ns) {D : Int} {xs : List Rat} {B : Rat} (hD : 0 < D) (hl : xs.length = ns.length) (hx : ∀ x ∈ xs, Fr D x ∧ 0 ≤ x ∧ x ≤ B) : ∀ r, ∀ y ∈ rnd ns xs r, Fr (D * 27720 ^ r) y ∧ 0 ≤ y ∧ y ≤ B
  | 0 => by rw [Int.pow_zero, Int.mul_one]; exact hx
  | r + 1 => by
    rw [Int.pow_succ, ← Int.mul_assoc]
    exact bo_ok w (by have := pw_ne hD r; omega) (rnd_len hl r) (rnd_ok w hD hl hx r)
theorem pw_bd {D : Int} (hd : D.natAbs < 2 ^ 1000) {r : Nat} (hr : r ≤ 25) : (D * 27720 ^ r).natAbs < 2 ^ 3900 := by
  rw [Int.natAbs_mul, Int.natAbs_pow]
  have h1 : 27720 ^ r ≤ 27720 ^ 25 := Nat.pow_le_pow_right (by decide) hr
  have h2 : D.natAbs * 27720 ^ r ≤ 2 ^ 1000 * 27720 ^ 25 := Nat.mul_le_mul (Nat.le_of_lt hd) h1
  have h3 : (27720 : Nat) ^ 25 < 2 ^ 400 := by decide
  have h4 : 2 ^ 1000 * 27720 ^ 25 < 2 ^ 1000 * 2 ^ 400 := Nat.mul_lt_mul_of_pos_left h3 (Nat.two_pow_pos _)
  rw [← Nat.pow_add] at h4
  have h5 : (2 : Nat) ^ (1000 + 400) < 2 ^ 3900 := Nat.pow_lt_pow_right (by decide) (by decide)
  have h6 : (27720 : Int).natAbs = 27720 := rfl
  rw [h6]
  omega

def sp_p_is_number (K : PySem.W.Frag) (T : Tb) : Sp := fun vs H Q _ => ∃ i : Int, vs = [.int i] ∧ Q (.bl true) H
theorem ok_p_is_number {f : Addr} {fd : FuncData} (F : Fun K "is_number" "is_number" s_p_is_number f fd) (B : Bn mg) : FnOk P w K mg base CX0 1 f fd ["thing"] (sp_p_is_number K T) := by
  refine F.ok sc_p_is_number (fun vs H Q E h => ?_) (fun cdv A outer s H vs Q E hr h => ?_)
  · obtain ⟨i, rfl, _⟩ := h
    rfl
  · obtain ⟨i, rfl, q⟩ := h
    refine ⟨_, (pss_one (ps_ret (pe_and (pe_callB call_isi (by rfl) B.isinstance_ (by decide +kernel) (pa_cons (pv 0) (pa_cons (pe_bltn (v := .ty "int") (by rfl) B.int_ (by decide +kernel) rfl) pa_nil))) (pe_one (pe_not (pe_callB call_isi (by rfl) B.isinstance_ (by decide +kernel) (pa_cons (pv 0) (pa_cons (pe_bltn (v := .ty "bool") (by rfl) B.bool_ (by decide +kernel) rfl) pa_nil)))))))), ?_⟩
    refine ⟨_, rfl, _, _, _, _, true, rfl, .ty "int", .base (.int i), kit_ty kb_int_int, _, rfl, iteT ?_⟩
    exact ⟨_, rfl, _, _, _, _, false, rfl, .ty "bool", .base (.int i), kit_ty kb_int_bool, _, rfl, q⟩
def sp_p_is_within (K : PySem.W.Frag) (T : Tb) : Sp := fun vs H Q _ => ∃ i l m : Int, vs = [.int i, .int l, .int m] ∧ Q (.bl (decide (l ≤ i) && decide (i ≤ m))) H
theorem ok_p_is_within {f : Addr} {fd : FuncData} (F : Fun K "is_within" "is_within" s_p_is_within f fd) (F_p_is_number : Fn P w K mg base 1 "is_number" ["thing"] (sp_p_is_number K T)) : FnOk P w K mg base CX0 2 f fd ["thing", "least", "most"] (sp_p_is_within K T) := by
  refine F.ok sc_p_is_within (fun vs H Q E h => ?_) (fun cdv A outer s H vs Q E hr h => ?_)
  · obtain ⟨i, l, m, rfl, _⟩ := h
    rfl
  · obtain ⟨i, l, m, rfl, q⟩ := h
    refine ⟨_, (pss_one (ps_ret (pe_and (pe_fn F_p_is_number (hr.mono (by decide)) (pa_cons (pv 0) pa_nil)) (pe_one (pe_chain op_le op_le (pv 1) (pv 0) (pv 2)))))), ?_⟩
    refine ⟨_, rfl, i, rfl, _, rfl, iteT ?_⟩
    refine ⟨_, rfl, _, rfl, _, _, rfl, rfl, _, rfl, ?_⟩
    by_cases h : l ≤ i
    · rw [decide_eq_true h, Bool.true_and] at q
      rw [decide_eq_true h]
      exact iteT ⟨_, rfl, _, _, rfl, rfl, q⟩
    · rw [decide_eq_false h, Bool.false_and] at q
      rw [decide_eq_false h]
      exact iteF q
def paceB (z : Int) : Bool := decide (1 ≤ z) && decide (z ≤ 12)
def sp_p_check_pace (K : PySem.W.Frag) (T : Tb) (CP : Addr) : Sp := fun vs H Q E => ∃ z : Int, vs = [.int z] ∧ (paceB z = true → Q .non H) ∧ (paceB z = false → ∀ cls d H', Sm T H H' → Rf K CP "bad pace" cls d H' → E cls d H')
theorem ok_p_check_pace {f : Addr} {fd : FuncData} {u_MOST_PACE : Value} (F : Fun K "check_pace" "check_pace" s_p_check_pace f fd) (C_MOST_PACE : RelV (.int 12) u_MOST_PACE ∧ mg "MOST_PACE" = some u_MOST_PACE) {CP : Addr} (R_BadPace : Err P w K mg base CP "BadPace" "bad pace") (F_p_is_within : Fn P w K mg base 2 "is_within" ["thing", "least", "most"] (sp_p_is_within K T)) : FnOk P w K mg base (L2.CX P w) 4 f fd ["pace"] (sp_p_check_pace K T CP) := by
  obtain ⟨⟨tM, rfl⟩, gM⟩ := id C_MOST_PACE
  refine F.okX sc_p_check_pace (fun vs H Q E h => ?_) (fun cdv A outer s H vs Q E hr h => ?_)
  · obtain ⟨z, rfl, _⟩ := h
    rfl
  · obtain ⟨z, rfl, k1, k2⟩ := h
    refine ⟨_, (pss_one (ps_if (pt_not (pt_val (pe_fn F_p_is_within (hr.mono (by decide)) (pa_cons (pv 0) (pa_cons pe_int (pa_cons (pe_glob (by rfl) C_MOST_PACE.2 C_MOST_PACE.1) pa_nil)))))) (pss_one (ps_raise rfl (takes_of rfl rfl rfl rfl) (pmk_err R_BadPace (hr.mono (by decide)) (by rfl)))) pss_nil)), ?_⟩
    refine ⟨_, rfl, z, 1, 12, rfl, _, rfl, ?_⟩
    show if (!(paceB z)) = true then _ else _
    cases hz : paceB z with
    | true => exact iteF (k1 hz)
    | false => exact iteT fun cls dd hn rf => k2 hz cls (some dd) _ (same_upd hn) rf
/-- what paces are refused with -/
def pcW (m : Int) (zs : List Int) : Option Str := if ¬ (1 ≤ (zs.length : Int) ∧ (zs.length : Int) ≤ m) then some "bad count" else if zs.all paceB = true then none else some "bad pace"
def sp_p_check_paces (K : PySem.W.Frag) (T : Tb) (CP : Addr) : Sp := fun vs H Q E => ∃ (a : Addr) (zs : List Int) (m : Int), vs = [.ref a, .int m] ∧ SqL K H a (zs.map V.int) ∧ (pcW m zs = none → Q .non H) ∧ (∀ wd, pcW m zs = some wd → ∀ cls d H', Sm T H H' → Rf K CP wd cls d H' → E cls d H')
theorem ok_p_check_paces {f : Addr} {fd : FuncData} (F : Fun K "check_paces" "check_paces" s_p_check_paces f fd) (B : Bn mg) {CP : Addr} (R_BadCount : Err P w K mg base CP "BadCount" "bad count") (F_p_check_pace : Fx P w K mg base 4 "check_pace" ["pace"] (sp_p_check_pace K T CP)) : FnOk P w K mg base (L2.CX P w) 5 f fd ["paces", "most"] (sp_p_check_paces K T CP) := by
  refine F.okX sc_p_check_paces (fun vs H Q E h => ?_) (fun cdv A outer s H vs Q E hr h => ?_)
  · obtain ⟨a, zs, m, rfl, _⟩ := h
    rfl
  · obtain ⟨a, zs, m, rfl, ha, k1, k2⟩ := h
    refine ⟨_, (pss_cons (ps_if (pt_not (pt_chain op_le op_le pe_int (pe_callB call_len_seq (by rfl) B.len_ (by decide +kernel) (pa_cons (pv 0) pa_nil)) (pv 1))) (pss_one (ps_raise rfl (takes_of rfl rfl rfl rfl) (pmk_err R_BadCount (hr.mono (by decide)) (by rfl)))) pss_nil)
      (pss_one (ps_for (passes_of rfl) rfl (pi_list (pv 0)) (pg_name (i := 2) sc_p_check_paces.nd rfl (.inl rfl))
      (pss_one (ps_expr (pe_fx F_p_check_pace (hr.mono (by decide)) (takes_of rfl rfl rfl rfl) (pa_cons (pv 2) pa_nil))))))), ?_⟩
    refine ⟨_, rfl, a, _, rfl, .inl ha, _, _, rfl, rfl, _, rfl, ?_⟩
    rw [List.length_map]
    have bad : ¬ (1 ≤ (zs.length : Int) ∧ (zs.length : Int) ≤ m) → tErr K CP "bad count" [] H (fun cls d H' => E cls d H') := fun hb cls dd hn rf => k2 "bad count" (by unfold pcW; rw [if_pos hb]) cls (some dd) _ (same_upd hn) rf
    by_cases h1 : (1 : Int) ≤ (zs.length : Int)
    · rw [decide_eq_true h1]
      refine iteT ?_
      refine ⟨_, rfl, _, _, rfl, rfl, _, rfl, ?_⟩
      by_cases h2 : (zs.length : Int) ≤ m
      · rw [decide_eq_true h2]
        refine iteF ?_
        refine ⟨_, rfl, a, rfl, ⟨_, ha⟩, for_list (K := K) (a := a) (xs := zs.map V.int) (fun i σ H3 => H3 = H ∧ (zs.take i).all paceB = true ∧ ∃ x, σ = [some (.ref a), some (.int m), x]) ⟨rfl, by rw [List.take_zero]; rfl, _, rfl⟩ (fun i σ H3 _ ⟨e, _⟩ => by rw [e]; exact ha) ?_ ?_⟩
        · rintro i v σ H3 hi ⟨rfl, hall, x, rfl⟩
          rw [List.getElem?_map] at hi
          obtain ⟨z, hq, rfl⟩ : ∃ z, zs[i]? = some z ∧ V.int z = v := Option.map_eq_some_iff.mp hi
          refine ⟨_, rfl, z, rfl, fun hz => ?_, fun hz cls d H' s' rf => ?_⟩
          · refine ⟨rfl, ?_, _, rfl⟩
            rw [List.take_add_one, List.all_append, hall, hq]
            show (true && ([z].all paceB)) = true
            rw [List.all_cons, hz]
            rfl
          · refine k2 "bad pace" ?_ cls d H' s' rf
            unfold pcW
            rw [if_neg (fun c => c ⟨h1, h2⟩), if_neg]
            intro c
            have := List.all_eq_true.mp c z (List.mem_of_getElem? hq)
            rw [hz] at this
            exact absurd this (by decide)
        · rintro σ H3 ⟨rfl, hall, x, rfl⟩
          refine k1 ?_
          rw [List.length_map, List.take_length] at hall
          unfold pcW
          rw [if_neg (fun c => c ⟨h1, h2⟩), if_pos hall]
      · rw [decide_eq_false h2]
        exact iteT (bad fun c => h2 c.2)
    · rw [decide_eq_false h1]
      exact iteF ⟨_, rfl, iteT (bad fun c => h1 c.1)⟩
def risB : List Int → Bool
  | a :: b :: r => decide (a ≤ b) && risB (b :: r)
  | _ => true
def pW (zs : List Int) : Option Str := match pcW 8 zs with
  | some wd => some wd
  | none => if risB zs = true then none else some "not rising"
theorem risB_drop : ∀ (zs : List Int) (i : Nat), (∀ j, j < i → j + 1 < zs.length → zs.getD j 0 ≤ zs.getD (j + 1) 0) → risB (zs.drop i) = risB zs
  | [], i, _ => by rw [List.drop_nil]
  | [a], i, _ => by cases i <;> simp [risB]
  | a :: b :: r, 0, _ => rfl
  | a :: b :: r, i + 1, h => by
    rw [List.drop_succ_cons, risB_drop (b :: r) i (fun j hj hj2 => by
      have := h (j + 1) (by omega) (by simpa using hj2)
      simpa using this)]
    have := h 0 (by omega) (by simp)
    simp only [risB]
    rw [decide_eq_true (by simpa using this), Bool.true_and]
theorem risB_pair : ∀ {zs : List Int}, risB zs = true ↔ zs.Pairwise (· ≤ ·)
  | [] => by simp [risB]
  | [a] => by simp [risB]
  | a :: b :: r => by
    simp only [risB, Bool.and_eq_true, decide_eq_true_eq]
    rw [risB_pair (zs := b :: r), List.pairwise_cons (a := a)]
    constructor
    · rintro ⟨h1, h2⟩
      refine ⟨fun c hc => ?_, h2⟩
      rcases List.mem_cons.mp hc with rfl | hc
      · exact h1
      · exact Int.le_trans h1 ((List.pairwise_cons.mp h2).1 c hc)
    · rintro ⟨h1, h2⟩
      exact ⟨h1 b List.mem_cons_self, h2⟩
theorem pW_ris {zs : List Int} : pW zs = none ↔ Ris zs := by
  unfold pW pcW
  constructor
  · intro h
    by_cases h1 : ¬ (1 ≤ (zs.length : Int) ∧ (zs.length : Int) ≤ 8)
    · rw [if_pos h1] at h
      cases h
    · rw [if_neg h1] at h
      by_cases h2 : zs.all paceB = true
      · rw [if_pos h2] at h
        by_cases h3 : risB zs = true
        · refine ⟨by omega, by omega, fun n hn => ?_, risB_pair.mp h3⟩
          have := List.all_eq_true.mp h2 n hn
          unfold paceB at this
          simp only [Bool.and_eq_true, decide_eq_true_eq] at this
          exact this
        · simp only [if_neg h3] at h
          cases h
      · rw [if_neg h2] at h
        cases h
  · intro w
    rw [if_neg (fun c => c ⟨by have := w.n1; omega, by have := w.n8; omega⟩), if_pos (List.all_eq_true.mpr fun n hn => ?_)]
    · simp only [if_pos (risB_pair.mpr w.rise)]
    · unfold paceB
      simp only [Bool.and_eq_true, decide_eq_true_eq]
      exact w.pace n hn
def sp_p_check_rising (K : PySem.W.Frag) (T : Tb) (CP : Addr) : Sp := fun vs H Q E => ∃ (a : Addr) (zs : List Int), vs = [.ref a] ∧ SqL K H a (zs.map V.int) ∧ zs.length ≤ 1000 ∧ (pW zs = none → ∀ H', Sm T H H' → Q .non H') ∧ (∀ wd, pW zs = some wd → ∀ cls d H', Sm T H H' → Rf K CP wd cls d H' → E cls d H')
theorem ok_p_check_rising {f : Addr} {fd : FuncData} {u_MOST_HANDS : Value} (F : Fun K "check_rising" "check_rising" s_p_check_rising f fd) (B : Bn mg) (C_MOST_HANDS : RelV (.int 8) u_MOST_HANDS ∧ mg "MOST_HANDS" = some u_MOST_HANDS) {CP : Addr} (R_NotRising : Err P w K mg base CP "NotRising" "not rising") (F_p_check_paces : Fx P w K mg base 5 "check_paces" ["paces", "most"] (sp_p_check_paces K T CP)) : FnOk P w K mg base (L2.CX P w) 6 f fd ["paces"] (sp_p_check_rising K T CP) := by
  obtain ⟨⟨tM, rfl⟩, gM⟩ := id C_MOST_HANDS
  refine F.okX sc_p_check_rising (fun vs H Q E h => ?_) (fun cdv A outer s H vs Q E hr h => ?_)
  · obtain ⟨a, zs, rfl, _⟩ := h
    rfl
  · obtain ⟨a, zs, rfl, ha, hl, k1, k2⟩ := h
    refine ⟨_, (pss_cons (ps_expr (pe_fx F_p_check_paces (hr.mono (by decide)) (takes_of rfl rfl rfl rfl) (pa_cons (pv 0) (pa_cons (pe_glob (by rfl) C_MOST_HANDS.2 C_MOST_HANDS.1) pa_nil))))
      (pss_one (ps_for (passes_of rfl) rfl (pi_zip (by rfl) B.zip_ (pa_cons (pv 0) (pa_cons (pe_slice sl_list (pv 0) (po_some pe_int) po_none) pa_nil))) (pg_tup rfl (pgs_cons (pg_name (i := 1) sc_p_check_rising.nd rfl (.inl rfl)) (pgs_cons (pg_name (i := 2) sc_p_check_rising.nd rfl (.inl rfl)) pgs_nil)))
      (pss_one (ps_if (pt_cmpR op_gt (pv 1) (pv 2) (nomark _)) (pss_one (ps_raise rfl (takes_of rfl rfl rfl rfl) (pmk_err R_NotRising (hr.mono (by decide)) (by rfl)))) pss_nil))))), ?_⟩
    refine ⟨_, rfl, a, zs, 8, rfl, ha, fun hp => ?_, fun wd hp cls d H' s' rf => k2 wd (by unfold pW; rw [hp]) cls d H' s' rf⟩
    refine ⟨_, rfl, _, rfl, 1, rfl, a, _, rfl, ha, fun l1 n1 => ?_⟩
    have ec0 : cutV (zs.map V.int) (some 1) none = (zs.map V.int).drop 1 := cut_drop _ 1 rfl
    have ec : cutV (zs.map V.int) (some 1) none = (zs.drop 1).map V.int := by rw [ec0, List.map_drop]
    rw [ec]
    have u1 := same_upd (T := T) (o := HO.lst ((zs.drop 1).map V.int)) n1
    refine ⟨a, l1, _, _, rfl, u1.seq ha, SqL.of upd_same, for_it (walk_zip (n := zs.length - 1) (by rw [List.length_map, List.length_map, List.length_drop]; omega)) (fun i σ H3 => Sm T (upd H l1 (.lst ((zs.drop 1).map V.int))) H3 ∧ (∀ j, j < i → j + 1 < zs.length → zs.getD j 0 ≤ zs.getD (j + 1) 0) ∧ ∃ x1 x2, σ = [some (.ref a), x1, x2]) ⟨Sm.refl, fun j hj => by omega, _, _, rfl⟩ (fun i σ H3 _ ⟨s3, _⟩ => ⟨(u1.trans s3).seq ha, SqL.of (s3.k upd_same)⟩) ?_ ?_⟩
    · rintro i x σ H2 H3 hi ⟨s2, hr, x1, x2, rfl⟩ ⟨tp, y1, y2, rfl, ntp, rfl, f1, f2⟩
      have g1 := getI (l := zs) (j := i) (by omega)
      have g2 := getI (l := zs) (j := i + 1) (by omega)
      simp only [List.getElem?_map, g1, Option.map_some] at f1
      simp only [List.getElem?_map, List.getElem?_drop, Nat.add_comm 1 i, g2, Option.map_some] at f2
      cases f1
      cases f2
      have ut := same_upd (T := T) (o := .tup [V.int (zs.getD i 0), V.int (zs.getD (i + 1) 0)]) ntp
      refine ⟨tp, _, rfl, SqT.of upd_same, rfl, _, _, rfl, _, _, rfl, rfl, ?_⟩
      refine ⟨_, rfl, _, rfl, _, _, rfl, rfl, _, rfl, ite2 (fun e => ?_) (fun e => ?_)⟩
      · have hg : zs.getD (i + 1) 0 < zs.getD i 0 := of_decide_eq_true e
        refine fun cls dd hn rf => k2 "not rising" ?_ cls (some dd) _ (u1.trans (s2.trans (ut.trans (same_upd hn)))) rf
        unfold pW
        rw [hp]
        refine if_neg (fun c => ?_)
        have := risB_pair.mp c
        have := List.pairwise_iff_getElem.mp this i (i + 1) (by omega) (by omega) (by omega)
        rw [getD_lt (show i < zs.length by omega), getD_lt (show i + 1 < zs.length by omega)] at hg
        omega
      · have hg : ¬ zs.getD (i + 1) 0 < zs.getD i 0 := fun z => e (decide_eq_true z)
        refine ⟨s2.trans ut, fun j hj hj2 => ?_, _, _, rfl⟩
        by_cases c : j = i
        · subst c; omega
        · exact hr j (by omega) hj2
    · rintro σ H2 ⟨s2, hr, x1, x2, rfl⟩
      refine k1 ?_ H2 (u1.trans s2)
      unfold pW
      rw [hp]
      refine if_pos ?_
      rw [← risB_drop zs (zs.length - 1) hr]
      have : (zs.drop (zs.length - 1)).length ≤ 1 := by rw [List.length_drop]; omega
      match zs.drop (zs.length - 1), this with
      | [], _ => rfl
      | [_], _ => rfl

theorem elt_rng {prog : Program} {w : World} {scope : Scope} {x lo hi : Str} {j1 j2 : Nat} {p1 p2 p3 p4 : Pos} (hk : scope.kind = .function) (hl : scope.names.lookup x = some .local) (hd : (x == ("__debug__" : Str)) = false := by decide) :
    GxR.EltP prog w scope x (.Compare (.Constant (.str lo) j1 p1) [.LtE, .LtE] [.Name x p2, .Constant (.str hi) j2 p3] p4) (fun c => !decide ([c] < lo.cps.toList) && !decide (hi.cps.toList < [c])) := by
  intro cenv A' E' c t s₂ m₂ hs hn hm
  refine Compare_chain ?_ (by with_unfolding_all rfl)
  refine Calls.Constant_str (chain_link ?_)
  refine wpAny_Name (wpAny_loadName_local (by rw [hs]; exact hk) (show cenv.scope.names.lookup x = some .local by rw [hs]; exact hl) (hn.keeps fun _ _ e => e) hm ?_) hd
  refine PySem.P.le_str (wpAny_truthy_bool ?_)
  show (if (!decide ([c] < lo.cps.toList)) = true then _ else _)
  cases h1 : (!decide ([c] < lo.cps.toList)) with
  | false =>
    refine ite_ff ⟨?_, GxR.keeps_tok _ _⟩
    show Value.bool false = Value.bool (!decide ([c] < lo.cps.toList) && !decide (hi.cps.toList < [c]))
    rw [h1, Bool.false_and]
  | true =>
    refine ite_tt (chain_last (Calls.Constant_str (PySem.P.le_str ⟨?_, GxR.keeps_tok _ _⟩)))
    show Value.bool (!decide (hi.cps.toList < [c])) = Value.bool (!decide ([c] < lo.cps.toList) && !decide (hi.cps.toList < [c]))
    rw [h1, Bool.true_and]
def letB (c : Nat) : Bool := !decide ([c] < (("a" : Str)).cps.toList) && !decide ((("z" : Str)).cps.toList < [c])
def nameB (n : Str) : Bool := (decide (1 ≤ n.length) && decide (n.length ≤ 8)) && n.cps.toList.all letB
def sp_p_is_name (K : PySem.W.Frag) (T : Tb) : Sp := fun vs H Q _ => ∃ n : Str, vs = [.str n] ∧ n.length ≤ sizeLine ∧ Ok T H ∧ ∀ H', Sm T H H' → Q (.bl (nameB n)) H'
theorem ok_p_is_name {f : Addr} {fd : FuncData} {u_MOST_LETTERS : Value} {c PT : Addr} (F : FunC K "is_name" "is_name" s_p_is_name f fd c) (hnT : (T.map (·.1)).Nodup) (hPT : (PT, (none : Option Str)) ∈ T) (TB : GxR.TabB base mg c PT) (B : Bn mg) (C_MOST_LETTERS : RelV (.int 8) u_MOST_LETTERS ∧ mg "MOST_LETTERS" = some u_MOST_LETTERS) : FnOk P w K mg base CX0 1 f fd ["text"] (sp_p_is_name K T) := by
  obtain ⟨⟨tM, rfl⟩, gM⟩ := id C_MOST_LETTERS
  refine F.ok sc_p_is_name (fun vs H Q E h => ?_) (fun A outer s H vs Q E hr h => ?_)
  · obtain ⟨n, rfl, _⟩ := h
    rfl
  · obtain ⟨n, rfl, hsz, hok, q⟩ := h
    refine ⟨_, (pss_one (ps_ret (pe_and (pe_chain op_le op_le pe_int (pe_callB call_len_str (by rfl) B.len_ (by decide +kernel) (pa_cons (pv 0) pa_nil)) (pe_glob (by rfl) C_MOST_LETTERS.2 C_MOST_LETTERS.1)) (pe_one (GxR.pe_allS hr (by rfl) B.all_ (by decide +kernel) TB rfl (gens_by (by decide +kernel)) (pv 0) (elt_rng rfl rfl) (fun _ => rfl)))))), ?_⟩
    refine ⟨_, rfl, n, rfl, hsz, _, _, rfl, rfl, _, rfl, ?_⟩
    have q0 := fun H' (s : Sm T H H') => q H' s
    unfold nameB at q0
    by_cases h1 : 1 ≤ n.length
    · rw [decide_eq_true (show (1 : Int) ≤ (n.length : Int) by omega)]
      refine iteT ⟨_, _, rfl, rfl, _, rfl, ?_⟩
      by_cases h2 : n.length ≤ 8
      · rw [decide_eq_true (show (n.length : Int) ≤ 8 by omega)]
        refine iteT ⟨_, rfl, n, rfl, hok _ hPT, fun H2 ht => ?_⟩
        have r := q0 H2 (sm_tabbed hnT hPT (hok _ hPT) ht)
        rw [decide_eq_true h1, decide_eq_true h2, Bool.true_and, Bool.true_and] at r
        exact r
      · rw [decide_eq_false (show ¬ (n.length : Int) ≤ 8 by omega)]
        have r := q0 H Sm.refl
        rw [decide_eq_false h2, Bool.and_false, Bool.false_and] at r
        exact iteF r
    · rw [decide_eq_false (show ¬ (1 : Int) ≤ (n.length : Int) by omega)]
      have r := q0 H Sm.refl
      rw [decide_eq_false h1, Bool.false_and, Bool.false_and] at r
      exact iteF ⟨_, rfl, iteF r⟩
def sp_p_check_name (K : PySem.W.Frag) (T : Tb) (CP : Addr) : Sp := fun vs H Q E => ∃ n : Str, vs = [.str n] ∧ n.length ≤ sizeLine ∧ Ok T H ∧ (nameB n = true → ∀ H', Sm T H H' → Q .non H') ∧ (nameB n = false → ∀ cls d H', Sm T H H' → Rf K CP "bad name" cls d H' → E cls d H')
theorem ok_p_check_name {f : Addr} {fd : FuncData} (F : Fun K "check_name" "check_name" s_p_check_name f fd) {CP : Addr} (R_BadName : Err P w K mg base CP "BadName" "bad name") (F_p_is_name : Fn P w K mg base 1 "is_name" ["text"] (sp_p_is_name K T)) : FnOk P w K mg base (L2.CX P w) 4 f fd ["name"] (sp_p_check_name K T CP) := by
  refine F.okX sc_p_check_name (fun vs H Q E h => ?_) (fun cdv A outer s H vs Q E hr h => ?_)
  · obtain ⟨n, rfl, _⟩ := h
    rfl
  · obtain ⟨n, rfl, hsz, hok, k1, k2⟩ := h
    refine ⟨_, (pss_one (ps_if (pt_not (pt_val (pe_fn F_p_is_name (hr.mono (by decide)) (pa_cons (pv 0) pa_nil)))) (pss_one (ps_raise rfl (takes_of rfl rfl rfl rfl) (pmk_err R_BadName (hr.mono (by decide)) (by rfl)))) pss_nil)), ?_⟩
    refine ⟨_, rfl, n, rfl, hsz, hok, fun H1 s1 => ⟨_, rfl, ?_⟩⟩
    cases hz : nameB n with
    | true => exact iteF (k1 hz H1 s1)
    | false => exact iteT fun cls dd hn rf => k2 hz cls (some dd) _ (s1.trans (same_upd hn)) rf

def takeS (s : Ch) : Ch := { s with marks := s.marks ++ [[]], loads := (s.marks.length : Int) :: s.loads, spots := 0 :: s.spots }
def sp_p_Chain_take_pail (K : PySem.W.Frag) (T : Tb) (CC : Addr) : Sp := fun vs H Q _ => ∃ (c : Addr) (A : Ad) (s : Ch), vs = [.ref c] ∧ ChAt K CC H c A s ∧ (s.marks.length < 5000 ∧ s.loads.length < 100 ∧ s.spots.length < 100) ∧
  ∀ H', Sx T (ownC c A) H H' → ChAt K CC H' c A (takeS s) → Q (.int s.marks.length) H'
theorem ok_p_Chain_take_pail {f : Addr} {fd : FuncData} {a_NOUGHT : Addr} (F : Fun K "take_pail" "Chain.take_pail" s_p_Chain_take_pail f fd) (B : Bn mg) (g_NOUGHT : mg "NOUGHT" = some (.ref a_NOUGHT)) (s_NOUGHT : ∀ H, SqT K H a_NOUGHT [.int 0, .int 1]) {CC : Addr} (TC : Kl K CC) : FnOk P w K mg base CX0 1 f fd ["self"] (sp_p_Chain_take_pail K T CC) := by
  refine F.ok sc_p_Chain_take_pail (fun vs H Q E h => ?_) (fun cdv A outer s H vs Q E hr h => ?_)
  · obtain ⟨c, A, s, rfl, _⟩ := h
    rfl
  · obtain ⟨c, A, s, rfl, h, ⟨l1, l2, l3⟩, q⟩ := h
    refine ⟨_, (pss_cons (ps_set (i := 1) sc_p_Chain_take_pail.nd rfl (.inl rfl) (pe_callB call_len_seq (by rfl) B.len_ (by decide +kernel) (pa_cons (pe_fc TC.cl (TC.no "marks" (by decide +kernel)) (pv 0)) pa_nil)))
      (pss_cons (ps_expr (pe_bm PySem.F.plainAttrs_list PySem.F.slot_list_append PySem.F.type_list_append mt_append (pe_fc TC.cl (TC.no "marks" (by decide +kernel)) (pv 0)) (pa_cons (pe_tup pa_nil) pa_nil)))
      (pss_cons (ps_expr (pe_bm PySem.F.plainAttrs_list PySem.F.slot_list_insert PySem.F.type_list_insert mt_insert (pe_fc TC.cl (TC.no "loads" (by decide +kernel)) (pv 0)) (pa_cons pe_int (pa_cons (pv 1) pa_nil))))
      (pss_cons (ps_expr (pe_bm PySem.F.plainAttrs_list PySem.F.slot_list_insert PySem.F.type_list_insert mt_insert (pe_fc TC.cl (TC.no "spots" (by decide +kernel)) (pv 0)) (pa_cons pe_int (pa_cons (pe_glob (v := .ref a_NOUGHT) (by rfl) g_NOUGHT rfl) pa_nil))))
      (pss_one (ps_ret (pv 1))))))), ?_⟩
    obtain ⟨ms, m1, m2⟩ := h.mr
    have lm : ms.length = s.marks.length := by rw [dpa_len m2, List.length_map]
    refine ⟨_, rfl, c, _, _, _, rfl, h.ins, fl_mk, A.mr, ms, rfl, .inl (SqL.of m1), ?_⟩
    refine ⟨_, rfl, c, _, _, _, rfl, h.ins, fl_mk, .inl ⟨rfl, _, SqL.of m1⟩, by show 0 ≤ sizeLine; decide, fun t nt => ?_⟩
    have u1 := same_upd (T := T) (o := .tup []) nt
    have h1 := h.sm u1
    refine ⟨A.mr, ms, _, rfl, rfl, u1.k m1, szl (by omega), ?_⟩
    have d2 : DpAll K (upd H t (.tup [])) (ms ++ [.ref t]) ((s.marks ++ [[]]).map mkD) := by
      rw [List.map_append]
      exact dpa_app (dpa_same u1 _ _ m2) (.cons (.tup (SqT.of upd_same) .nil) .nil)
    have h2 := h1.set_mr d2
    have x2 : Sx T (ownC c A) H _ := u1.sx.step (sx_upd (o := .lst (ms ++ [.ref t])) (u1.k m1) rfl (by simp [ownC]))
    refine ⟨_, rfl, c, _, _, _, rfl, h2.ins, fl_ld, .inl ⟨rfl, _, SqL.of h2.ld⟩, _, rfl, A.ld, _, 0, _, rfl, rfl, h2.ld, by rw [List.length_map]; exact szl (by show s.loads.length < _; omega), by decide, by decide, ?_⟩
    have h3 := h2.set_ld ((s.marks.length : Int) :: s.loads)
    have x3 := x2.step (sx_upd (o := .lst (((s.marks.length : Int) :: s.loads).map V.int)) h2.ld rfl (by simp [ownC]))
    obtain ⟨ps, p1, p2⟩ := h3.sp
    have lp := p2.len
    rw [lm]
    refine ⟨_, rfl, c, _, _, _, rfl, h3.ins, fl_sp, .inl ⟨rfl, _, SqL.of p1⟩, A.sp, _, 0, _, rfl, rfl, p1, szl (by have : s.spots.length < 100 := l3; have e : ps.length = s.spots.length := lp; omega), by decide, by decide, ?_⟩
    have d4 : AmL K (upd (upd (upd H t (.tup [])) A.mr (.lst (ms ++ [.ref t]))) A.ld (.lst (((s.marks.length : Int) :: s.loads).map V.int))) (.ref a_NOUGHT :: ps) (0 :: s.spots) := .cons (amD_dp (by rw [am_zero]; exact s_NOUGHT _)) p2
    have h4 := h3.set_sp d4
    have x4 := x3.step (sx_upd (o := .lst (.ref a_NOUGHT :: ps)) p1 rfl (by simp [ownC]))
    exact ⟨_, rfl, q _ x4 h4⟩

def enterW (s : Ch) (n : Str) (p : Int) : Option Str := if nameB n = true then (if n ∈ s.row then some "taken" else if paceB p = true then (if s.row.length < 8 then none else some "full") else some "bad pace") else some "bad name"
def enterS (s : Ch) (n : Str) (p : Int) : Ch := takeS { s with row := n :: s.row, tempos := putL s.tempos n p, ledgers := if (getL s.ledgers n).isSome = true then s.ledgers else putL s.ledgers n (0, 0, 0) }
theorem led0 {K : PySem.W.Frag} {H : Hp} {t a : Addr} (h : SqT K H t [.ref a, .ref a, .ref a]) (ha : SqT K H a (tv ((0, 1) : Am))) : Dp K H (.ref t) (ledD (0, 0, 0)) := by
  have d : Dp K H (.ref a) (amD (am 0)) := amD_dp (by rw [am_zero]; exact ha)
  exact .tup h (.cons d (.cons d (.cons d .nil)))
def sp_p_Chain_enter (K : PySem.W.Frag) (T : Tb) (CP CC : Addr) : Sp := fun vs H Q E => ∃ (c : Addr) (A : Ad) (s : Ch) (n : Str) (p : Int), vs = [.ref c, .str n, .int p] ∧ ChAt K CC H c A s ∧ n.length ≤ sizeLine ∧ Ok T H ∧ (s.marks.length < 5000 ∧ s.loads.length < 100 ∧ s.spots.length < 100 ∧ s.row.length < 100 ∧ s.tempos.length < 1000 ∧ s.ledgers.length < 1000) ∧
  (enterW s n p = none → ∀ H', Sx T (ownC c A) H H' → ChAt K CC H' c A (enterS s n p) → Q (.int s.marks.length) H') ∧ (∀ wd, enterW s n p = some wd → ∀ cls d H', Sm T H H' → Rf K CP wd cls d H' → E cls d H')
theorem ok_p_Chain_enter {f : Addr} {fd : FuncData} {u_MOST_HANDS : Value} {a_NOUGHT : Addr} (F : Fun K "enter" "Chain.enter" s_p_Chain_enter f fd) (B : Bn mg) (C_MOST_HANDS : RelV (.int 8) u_MOST_HANDS ∧ mg "MOST_HANDS" = some u_MOST_HANDS) (g_NOUGHT : mg "NOUGHT" = some (.ref a_NOUGHT)) (s_NOUGHT : ∀ H, SqT K H a_NOUGHT [.int 0, .int 1]) {CP : Addr} (R_Taken : Err P w K mg base CP "Taken" "taken") (R_Full : Err P w K mg base CP "Full" "full") {CC : Addr} (TC : Kl K CC) (F_p_check_pace : Fx P w K mg base 4 "check_pace" ["pace"] (sp_p_check_pace K T CP)) (F_p_check_name : Fx P w K mg base 4 "check_name" ["name"] (sp_p_check_name K T CP)) (M_take_pail : Mt P w K mg base CC 1 "take_pail" ["self"] (sp_p_Chain_take_pail K T CC)) : FnOk P w K mg base (L2.CX P w) 5 f fd ["self", "name", "pace"] (sp_p_Chain_enter K T CP CC) := by
  obtain ⟨⟨tM, rfl⟩, gM⟩ := id C_MOST_HANDS
  refine F.okX sc_p_Chain_enter (fun vs H Q E h => ?_) (fun cdv A outer s H vs Q E hr h => ?_)
  · obtain ⟨c, A, s, n, p, rfl, _⟩ := h
    rfl
  · obtain ⟨c, A, s, n, p, rfl, h, hsz, hok, ⟨l1, l2, l3, l4, l5, l6⟩, k1, k2⟩ := h
    refine ⟨_, (pss_cons (ps_expr (pe_fx F_p_check_name (hr.mono (by decide)) (takes_of rfl rfl rfl rfl) (pa_cons (pv 1) pa_nil)))
      (pss_cons (ps_if (pt_cmpR op_in_seq (pv 1) (pe_fc TC.cl (TC.no "row" (by decide +kernel)) (pv 0)) (by rfl)) (pss_one (ps_raise rfl (takes_of rfl rfl rfl rfl) (pmk_err R_Taken (hr.mono (by decide)) (by rfl)))) pss_nil)
      (pss_cons (ps_expr (pe_fx F_p_check_pace (hr.mono (by decide)) (takes_of rfl rfl rfl rfl) (pa_cons (pv 2) pa_nil)))
      (pss_cons (ps_if (pt_cmpR op_ge (pe_callB call_len_seq (by rfl) B.len_ (by decide +kernel) (pa_cons (pe_fc TC.cl (TC.no "row" (by decide +kernel)) (pv 0)) pa_nil)) (pe_glob (by rfl) C_MOST_HANDS.2 C_MOST_HANDS.1) (nomark _)) (pss_one (ps_raise rfl (takes_of rfl rfl rfl rfl) (pmk_err R_Full (hr.mono (by decide)) (by rfl)))) pss_nil)
      (pss_cons (ps_expr (pe_bm PySem.F.plainAttrs_list PySem.F.slot_list_insert PySem.F.type_list_insert mt_insert (pe_fc TC.cl (TC.no "row" (by decide +kernel)) (pv 0)) (pa_cons pe_int (pa_cons (pv 1) pa_nil))))
      (pss_cons (ps_dput (hu_of hr) (pe_fc TC.cl (TC.no "tempos" (by decide +kernel)) (pv 0)) (pv 1) (pv 2) rfl)
      (pss_cons (ps_if (pt_cmp (pc_dnotin (hu_of hr) (pv 1) (pe_fc TC.cl (TC.no "ledgers" (by decide +kernel)) (pv 0)))) (pss_one (ps_dput (hu_of hr) (pe_fc TC.cl (TC.no "ledgers" (by decide +kernel)) (pv 0)) (pv 1) (pe_tup (pa_cons (pe_glob (v := .ref a_NOUGHT) (by rfl) g_NOUGHT rfl) (pa_cons (pe_glob (v := .ref a_NOUGHT) (by rfl) g_NOUGHT rfl) (pa_cons (pe_glob (v := .ref a_NOUGHT) (by rfl) g_NOUGHT rfl) pa_nil)))) rfl)) pss_nil)
      (pss_one (ps_ret (pe_mt0 M_take_pail TC.cl (hr.mono (by decide)) (pv 0) )))))))))), ?_⟩
    refine ⟨_, rfl, n, rfl, hsz, hok, fun hn H1 s1 => ?_, fun hn cls d H' s' rf => k2 "bad name" (by unfold enterW; rw [hn]; rfl) cls d H' s' rf⟩
    have h1 := h.sm s1
    refine ⟨_, rfl, _, rfl, c, _, _, _, rfl, h1.ins, fl_rw, A.rw, _, rfl, .inl (SqL.of h1.rw), rfl, flat_strs _, _, rfl, ?_⟩
    show if (inV (.str n) (s.row.map V.str)) = true then _ else _
    rw [inV_strs]
    refine ite2 (fun e => ?_) (fun e => ?_)
    · have hm : n ∈ s.row := of_decide_eq_true e
      exact fun cls dd hn' rf => k2 "taken" (by unfold enterW; rw [if_pos hn, if_pos hm]) cls (some dd) _ (s1.trans (same_upd hn')) rf
    · have hm : n ∉ s.row := fun z => e (decide_eq_true z)
      refine ⟨_, rfl, p, rfl, fun hp => ?_, fun hp cls d H' s' rf => k2 "bad pace" (by unfold enterW; rw [if_pos hn, if_neg hm, hp]; rfl) cls d H' (s1.trans s') rf⟩
      refine ⟨_, rfl, c, _, _, _, rfl, h1.ins, fl_rw, A.rw, _, rfl, .inl (SqL.of h1.rw), _, _, rfl, rfl, _, rfl, ?_⟩
      rw [List.length_map]
      refine ite2 (fun e => ?_) (fun e => ?_)
      · have hl : ¬ s.row.length < 8 := by have := of_decide_eq_true e; omega
        exact fun cls dd hn' rf => k2 "full" (by unfold enterW; rw [if_pos hn, if_neg hm, if_pos hp, if_neg hl]) cls (some dd) _ (s1.trans (same_upd hn')) rf
      · have hl : s.row.length < 8 := by
          have e' : ¬ ((s.row.length : Int) ≥ 8) := fun z => e (decide_eq_true z)
          omega
        have k1 := k1 (by unfold enterW; rw [if_pos hn, if_neg hm, if_pos hp, if_pos hl])
        refine ⟨_, rfl, c, _, _, _, rfl, h1.ins, fl_rw, .inl ⟨rfl, _, SqL.of h1.rw⟩, _, rfl, A.rw, _, 0, _, rfl, rfl, h1.rw, by rw [List.length_map]; exact szl (by omega), by decide, by decide, ?_⟩
        have h2 := h1.set_rw (n :: s.row)
        have x2 : Sx T (ownC c A) H _ := s1.sx.step (sx_upd (o := .lst ((n :: s.row).map V.str)) h1.rw rfl (by simp [ownC]))
        refine ⟨_, rfl, _, rfl, c, _, _, _, rfl, h2.ins, fl_tm, _, rfl, A.tm, _, rfl, DPut.k (k := Sum.inr n) h2.tm (by unfold tmV; rw [List.length_map]; exact szl (by show s.tempos.length < _; omega)), ?_⟩
        rw [put_tm]
        have h3 := h2.set_tm (putL s.tempos n p)
        have x3 := x2.step (sx_upd (o := .dK (tmV (putL s.tempos n p))) h2.tm rfl (by simp [ownC]))
        dsimp only
        refine seq_if (fun σ' H4 => Sx T (ownC c A) H H4 ∧ ∃ x1 x2, σ' = [some (.ref c), x1, x2] ∧ ChAt K CC H4 c A { s with row := n :: s.row, tempos := putL s.tempos n p, ledgers := if (getL s.ledgers n).isSome = true then s.ledgers else putL s.ledgers n (0, 0, 0) }) (fun σ' H4 pp => ?_) (fun k => ?_)
        · obtain ⟨x4, y1, y2, rfl, h4⟩ := pp
          refine ⟨_, rfl, c, _, _, rfl, h4.ins, fl_no (by decide +kernel), c, A, _, rfl, h4, ⟨l1, l2, l3⟩, fun H5 x5 h5 => k1 H5 (x4.step x5) h5⟩
        · obtain ⟨kv, g1, g2⟩ := h3.lg
          refine ⟨_, rfl, _, rfl, c, _, _, _, rfl, h3.ins, fl_lg, A.lg, _, rfl, DGet.k (k := Sum.inr n) g1, _, rfl, ?_⟩
          rcases led_val g2 n with ⟨e1, e2⟩ | ⟨x, v, e1, e2, e3⟩
          · have e1 : getL s.ledgers n = none := e1
            rw [e2]
            refine iteT ⟨by show 3 ≤ sizeLine; decide, fun t nt => ?_⟩
            have u := same_upd (T := T) (o := .tup [.ref a_NOUGHT, .ref a_NOUGHT, .ref a_NOUGHT]) nt
            have h4 := h3.sm u
            have g3 := u.k g1
            refine ⟨_, rfl, c, _, _, _, rfl, h4.ins, fl_lg, _, rfl, A.lg, _, rfl, DPut.k (k := Sum.inr n) g3 (by rw [led_len g2]; exact szl (by show s.ledgers.length < _; omega)), ?_⟩
            have g4 : LedL K (upd (upd (upd H1 A.rw (.lst ((n :: s.row).map V.str))) A.tm (.dK (tmV (putL s.tempos n p)))) t (.tup [.ref a_NOUGHT, .ref a_NOUGHT, .ref a_NOUGHT])) (putK kv (Sum.inr n) (.ref t)) (putL s.ledgers n (0, 0, 0)) := led_put (u.sx (S := []) |>.led g2) (led0 (SqT.of upd_same) (s_NOUGHT _))
            have h5 := h4.set_lg g4
            have x5 := (x3.sm' u).step (sx_upd (o := .dK (putK kv (Sum.inr n) (.ref t))) g3 rfl (by simp [ownC]))
            refine k _ _ ⟨x5, _, _, rfl, ?_⟩
            rw [e1]
            exact h5
          · have e1 : getL s.ledgers n = some x := e1
            rw [e2]
            refine iteF (k _ _ ⟨x3, _, _, rfl, ?_⟩)
            rw [e1]
            exact h3

def sp_p_Chain_hands (K : PySem.W.Frag) (T : Tb) (CC : Addr) : Sp := fun vs H Q _ => ∃ (c : Addr) (A : Ad) (s : Ch), vs = [.ref c] ∧ ChAt K CC H c A s ∧ ∀ p H', Sm T H H' → H p = none → H' p = some (.lst (s.row.map V.str)) → Q (.ref p) H'
theorem ok_p_Chain_hands {f : Addr} {fd : FuncData} (F : Fun K "hands" "Chain.hands" s_p_Chain_hands f fd) (B : Bn mg) {CC : Addr} (TC : Kl K CC) : FnOk P w K mg base CX0 1 f fd ["self"] (sp_p_Chain_hands K T CC) := by
  refine F.ok sc_p_Chain_hands (fun vs H Q E h => ?_) (fun cdv A outer s H vs Q E hr h => ?_)
  · obtain ⟨c, A, s, rfl, _⟩ := h
    rfl
  · obtain ⟨c, A, s, rfl, h, q⟩ := h
    refine ⟨_, (pss_one (ps_ret (pe_callTy call_list_of (by rfl) B.list_ (by decide +kernel) (pa_cons (pe_fc TC.cl (TC.no "row" (by decide +kernel)) (pv 0)) pa_nil)))), ?_⟩
    exact ⟨_, rfl, c, _, _, _, rfl, h.ins, fl_rw, A.rw, _, rfl, .inl (SqL.of h.rw), fun p np => q p _ (same_upd np) np upd_same⟩
def sp_p_Chain_emptied (K : PySem.W.Frag) (T : Tb) (CC : Addr) : Sp := fun vs H Q _ => ∃ (c : Addr) (A : Ad) (s : Ch), vs = [.ref c] ∧ ChAt K CC H c A s ∧ ∀ p H', Sm T H H' → H p = none → H' p = some (.lst (s.poured.map V.int)) → Q (.ref p) H'
theorem ok_p_Chain_emptied {f : Addr} {fd : FuncData} (F : Fun K "emptied" "Chain.emptied" s_p_Chain_emptied f fd) (B : Bn mg) {CC : Addr} (TC : Kl K CC) : FnOk P w K mg base CX0 1 f fd ["self"] (sp_p_Chain_emptied K T CC) := by
  refine F.ok sc_p_Chain_emptied (fun vs H Q E h => ?_) (fun cdv A outer s H vs Q E hr h => ?_)
  · obtain ⟨c, A, s, rfl, _⟩ := h
    rfl
  · obtain ⟨c, A, s, rfl, h, q⟩ := h
    refine ⟨_, (pss_one (ps_ret (pe_callTy call_list_of (by rfl) B.list_ (by decide +kernel) (pa_cons (pe_fc TC.cl (TC.no "poured" (by decide +kernel)) (pv 0)) pa_nil)))), ?_⟩
    exact ⟨_, rfl, c, _, _, _, rfl, h.ins, fl_pr, A.pr, _, rfl, .inl (SqL.of h.pr), fun p np => q p _ (same_upd np) np upd_same⟩
def sp_p_Chain_pails (K : PySem.W.Frag) (T : Tb) (CC : Addr) : Sp := fun vs H Q _ => ∃ (c : Addr) (A : Ad) (s : Ch), vs = [.ref c] ∧ ChAt K CC H c A s ∧ Q (.int s.marks.length) H
theorem ok_p_Chain_pails {f : Addr} {fd : FuncData} (F : Fun K "pails" "Chain.pails" s_p_Chain_pails f fd) (B : Bn mg) {CC : Addr} (TC : Kl K CC) : FnOk P w K mg base CX0 1 f fd ["self"] (sp_p_Chain_pails K T CC) := by
  refine F.ok sc_p_Chain_pails (fun vs H Q E h => ?_) (fun cdv A outer s H vs Q E hr h => ?_)
  · obtain ⟨c, A, s, rfl, _⟩ := h
    rfl
  · obtain ⟨c, A, s, rfl, h, q⟩ := h
    refine ⟨_, (pss_one (ps_ret (pe_callB call_len_seq (by rfl) B.len_ (by decide +kernel) (pa_cons (pe_fc TC.cl (TC.no "marks" (by decide +kernel)) (pv 0)) pa_nil)))), ?_⟩
    obtain ⟨ms, m1, m2⟩ := h.mr
    have e : ms.length = s.marks.length := by rw [dpa_len m2, List.length_map]
    refine ⟨_, rfl, c, _, _, _, rfl, h.ins, fl_mk, A.mr, ms, rfl, .inl (SqL.of m1), ?_⟩
    rw [e]
    exact q
theorem strs_ix {l : List Str} {n : Str} (h : n ∈ l) : (l.map V.str)[l.idxOf n]? = some (.str n) ∧ ∀ (m : Nat) (z : V), m < l.idxOf n → (l.map V.str)[m]? = some z → eqV z (.str n) = false := by
  have hl := List.idxOf_lt_length_of_mem h
  refine ⟨?_, fun m z hm hz => ?_⟩
  · rw [List.getElem?_map, List.getElem?_eq_getElem hl, List.getElem_idxOf]
    rfl
  · rw [List.getElem?_map, List.getElem?_eq_getElem (by omega)] at hz
    cases hz
    have := List.not_of_lt_findIdx (p := (· == n)) (xs := l) (i := m) hm
    show (l[m] == n) = false
    simpa using this
def sp_p_Chain_number_of (K : PySem.W.Frag) (T : Tb) (CP CC : Addr) : Sp := fun vs H Q E => ∃ (c : Addr) (A : Ad) (s : Ch) (n : Str), vs = [.ref c, .str n] ∧ ChAt K CC H c A s ∧ (n ∈ s.row → Q (.int (s.row.idxOf n : Nat)) H) ∧ (n ∉ s.row → ∀ cls d H', Sm T H H' → Rf K CP "no hand" cls d H' → E cls d H')
theorem ok_p_Chain_number_of {f : Addr} {fd : FuncData} (F : Fun K "number_of" "Chain.number_of" s_p_Chain_number_of f fd) {CP : Addr} (R_NoHand : Err P w K mg base CP "NoHand" "no hand") {CC : Addr} (TC : Kl K CC) : FnOk P w K mg base (L2.CX P w) 4 f fd ["self", "name"] (sp_p_Chain_number_of K T CP CC) := by
  refine F.okX sc_p_Chain_number_of (fun vs H Q E h => ?_) (fun cdv A outer s H vs Q E hr h => ?_)
  · obtain ⟨c, A, s, n, rfl, _⟩ := h
    rfl
  · obtain ⟨c, A, s, n, rfl, h, k1, k2⟩ := h
    refine ⟨_, (pss_cons (ps_if (pt_cmpR op_notIn_seq (pv 1) (pe_fc TC.cl (TC.no "row" (by decide +kernel)) (pv 0)) (by rfl)) (pss_one (ps_raise rfl (takes_of rfl rfl rfl rfl) (pmk_err R_NoHand (hr.mono (by decide)) (by rfl)))) pss_nil)
      (pss_one (ps_ret (pe_bm PySem.F.plainAttrs_list PySem.F.slot_list_index PySem.F.type_list_index mt_index (pe_fc TC.cl (TC.no "row" (by decide +kernel)) (pv 0)) (pa_cons (pv 1) pa_nil))))), ?_⟩
    refine ⟨_, rfl, _, rfl, c, _, _, _, rfl, h.ins, fl_rw, A.rw, _, rfl, .inl (SqL.of h.rw), rfl, flat_strs _, _, rfl, ?_⟩
    show if (!inV (.str n) (s.row.map V.str)) = true then _ else _
    rw [inV_strs]
    by_cases hm : n ∈ s.row
    · rw [decide_eq_true hm]
      have e := strs_ix hm
      refine iteF ⟨_, rfl, c, _, _, _, rfl, h.ins, fl_rw, .inl ⟨rfl, _, SqL.of h.rw⟩, _, rfl, A.rw, _, _, s.row.idxOf n, .str n, rfl, rfl, SqL.of h.rw, rfl, flat_strs _, e.1, ?_, e.2, k1 hm⟩
      show (n == n) = true
      simp
    · rw [decide_eq_false hm]
      exact iteT fun cls dd hn' rf => k2 hm cls (some dd) _ (same_upd hn') rf
def sp_p_Chain_place (K : PySem.W.Frag) (T : Tb) (CP CC : Addr) : Sp := fun vs H Q E => ∃ (c : Addr) (A : Ad) (s : Ch) (n : Str), vs = [.ref c, .str n] ∧ ChAt K CC H c A s ∧ s.spots.length = s.row.length ∧ (n ∈ s.row → ∀ q, SqT K H q (tv (am (s.spots.getD (s.row.idxOf n) 0))) → Q (.ref q) H) ∧ (n ∉ s.row → ∀ cls d H', Sm T H H' → Rf K CP "no hand" cls d H' → E cls d H')
theorem ok_p_Chain_place {f : Addr} {fd : FuncData} (F : Fun K "place" "Chain.place" s_p_Chain_place f fd) {CP : Addr} {CC : Addr} (TC : Kl K CC) (M_number_of : Mx P w K mg base CC 4 "number_of" ["self", "name"] (sp_p_Chain_number_of K T CP CC)) : FnOk P w K mg base (L2.CX P w) 5 f fd ["self", "name"] (sp_p_Chain_place K T CP CC) := by
  refine F.okX sc_p_Chain_place (fun vs H Q E h => ?_) (fun cdv A outer s H vs Q E hr h => ?_)
  · obtain ⟨c, A, s, n, rfl, _⟩ := h
    rfl
  · obtain ⟨c, A, s, n, rfl, h, hl, k1, k2⟩ := h
    refine ⟨_, (pss_one (ps_ret (pe_ix ix_list (pe_fc TC.cl (TC.no "spots" (by decide +kernel)) (pv 0)) (pe_mx M_number_of TC.cl (hr.mono (by decide)) (takes_of rfl rfl rfl rfl) (pv 0) (pa_cons (pv 1) pa_nil)) (fun _ _ => rfl)))), ?_⟩
    obtain ⟨ps, p1, p2⟩ := h.sp
    refine ⟨_, rfl, c, _, _, _, rfl, h.ins, fl_sp, _, rfl, c, _, _, rfl, h.ins, fl_no (by decide +kernel), _, rfl, c, A, s, n, rfl, h, fun hm => ?_, k2⟩
    have hi : s.row.idxOf n < s.spots.length := by rw [hl]; exact List.idxOf_lt_length_of_mem hm
    obtain ⟨b, g, q⟩ := p2.at hi
    exact ⟨A.sp, ps, _, .ref b, rfl, rfl, SqL.of p1, at_of (j := s.row.idxOf n) rfl g, k1 hm b q⟩
def sp_p_Chain_ledger (K : PySem.W.Frag) (T : Tb) (CP CC : Addr) : Sp := fun vs H Q E => ∃ (c : Addr) (A : Ad) (s : Ch) (n : Str), vs = [.ref c, .str n] ∧ ChAt K CC H c A s ∧ (∀ x, getL s.ledgers n = some x → ∀ v, Dp K H v (ledD x) → Q v H) ∧ (getL s.ledgers n = none → ∀ cls d H', Sm T H H' → Rf K CP "no hand" cls d H' → E cls d H')
theorem ok_p_Chain_ledger {f : Addr} {fd : FuncData} (F : Fun K "ledger" "Chain.ledger" s_p_Chain_ledger f fd) {CP : Addr} (R_NoHand : Err P w K mg base CP "NoHand" "no hand") {CC : Addr} (TC : Kl K CC) : FnOk P w K mg base (L2.CX P w) 4 f fd ["self", "name"] (sp_p_Chain_ledger K T CP CC) := by
  refine F.okX sc_p_Chain_ledger (fun vs H Q E h => ?_) (fun cdv A outer s H vs Q E hr h => ?_)
  · obtain ⟨c, A, s, n, rfl, _⟩ := h
    rfl
  · obtain ⟨c, A, s, n, rfl, h, k1, k2⟩ := h
    refine ⟨_, (pss_cons (ps_if (pt_cmp (pc_dnotin (hu_of hr) (pv 1) (pe_fc TC.cl (TC.no "ledgers" (by decide +kernel)) (pv 0)))) (pss_one (ps_raise rfl (takes_of rfl rfl rfl rfl) (pmk_err R_NoHand (hr.mono (by decide)) (by rfl)))) pss_nil)
      (pss_one (ps_ret (pe_dget (hu_of hr) (pe_fc TC.cl (TC.no "ledgers" (by decide +kernel)) (pv 0)) (pv 1) (fun _ _ => rfl))))), ?_⟩
    obtain ⟨kv, g1, g2⟩ := h.lg
    refine ⟨_, rfl, _, rfl, c, _, _, _, rfl, h.ins, fl_lg, A.lg, _, rfl, DGet.k (k := Sum.inr n) g1, _, rfl, ?_⟩
    rcases led_val g2 n with ⟨e1, e2⟩ | ⟨x, v, e1, e2, e3⟩
    · rw [e2]
      exact iteT fun cls dd hn' rf => k2 e1 cls (some dd) _ (same_upd hn') rf
    · rw [e2]
      refine iteF ⟨_, rfl, c, _, _, _, rfl, h.ins, fl_lg, _, rfl, A.lg, _, rfl, ?_, k1 x e1 v e3⟩
      rw [← e2]
      exact DGet.k (k := Sum.inr n) g1
/-- the paces of the row -/
def pcs (s : Ch) : List Int := s.row.map fun n => (getL s.tempos n).getD 1
def sp_p_Chain_paces (K : PySem.W.Frag) (T : Tb) (CC : Addr) : Sp := fun vs H Q _ => ∃ (c : Addr) (A : Ad) (s : Ch), vs = [.ref c] ∧ ChAt K CC H c A s ∧ s.row.length ≤ 1000 ∧ (∀ n ∈ s.row, (getL s.tempos n).isSome = true) ∧ ∀ p H', Sm T H H' → H p = none → H' p = some (.lst ((pcs s).map V.int)) → Q (.ref p) H'
theorem ok_p_Chain_paces {f : Addr} {fd : FuncData} (F : Fun K "paces" "Chain.paces" s_p_Chain_paces f fd) {CC : Addr} (TC : Kl K CC) : FnOk P w K mg base CX0 1 f fd ["self"] (sp_p_Chain_paces K T CC) := by
  refine F.ok sc_p_Chain_paces (fun vs H Q E h => ?_) (fun cdv A outer s H vs Q E hr h => ?_)
  · obtain ⟨c, A, s, rfl, _⟩ := h
    rfl
  · obtain ⟨c, A, s, rfl, h, hl, hs, q⟩ := h
    refine ⟨_, (pss_one (ps_ret (pe_lc (own := [("name", 1)]) (g := (gName 1)) (tt := tYes) (by rfl) sc_p_Chain_paces.nd (pi_list (pe_fc TC.cl (TC.no "row" (by decide +kernel)) (pv 0))) (blkOk_by (own := [("name", 1)]) (N := ["self", "name"]) (sc := (defScope s_p_Chain_paces)) (by decide +kernel)) (fun _ _ _ _ _ => (pg_name (i := 1) sc_p_Chain_paces.nd rfl (.inl rfl))) (fun _ _ _ _ _ => pts_nil) (fun _ _ _ _ _ => (pe_dget (hu_of hr) (pe_fc TC.cl (TC.no "tempos" (by decide +kernel)) (pv 0)) (pv 1) (fun _ _ => rfl)))))), ?_⟩
    refine ⟨_, rfl, c, _, _, _, rfl, h.ins, fl_rw, A.rw, rfl, ⟨_, SqL.of h.rw⟩, fun D hD => lc_list (K := K) (a := A.rw) (xs := s.row.map V.str) (Qd := _) (fun i H' => Sm T H H' ∧ H' D = some (.lst (((pcs s).take i).map V.int))) ⟨same_upd hD, upd_same⟩ (fun i H' _ ⟨sm, _⟩ => SqL.of (sm.k h.rw)) ?_ ?_⟩
    · rintro i v H' hi ⟨sm, eD⟩
      rw [List.getElem?_map] at hi
      obtain ⟨n, hq, rfl⟩ : ∃ n, s.row[i]? = some n ∧ V.str n = v := Option.map_eq_some_iff.mp hi
      have hil := (List.getElem?_eq_some_iff.mp hq).1
      have h' := h.sm sm
      obtain ⟨p, hp⟩ := Option.isSome_iff_exists.mp (hs n (List.mem_of_getElem? hq))
      have ev : valV (tmV s.tempos) (Sum.inr n) = some (.int p) := by rw [val_tm, hp]; rfl
      refine ⟨rfl, tyes_i ?_⟩
      refine ⟨_, rfl, c, _, _, _, rfl, h'.ins, fl_tm, _, rfl, A.tm, .int p, rfl, by rw [← ev]; exact DGet.k (k := Sum.inr n) h'.tm, ?_⟩
      refine ⟨_, eD, by rw [List.length_map, List.length_take]; exact szl (by omega), same_mut sm hD eD, ?_⟩
      have e2 : (pcs s)[i]? = some p := by
        unfold pcs
        rw [List.getElem?_map, hq, Option.map_some, hp]
        rfl
      rw [upd_same, List.take_add_one, e2, List.map_append]
      rfl
    · rintro H' ⟨sm, eD⟩
      rw [List.length_map, List.take_of_length_le (by unfold pcs; rw [List.length_map]; exact Nat.le_refl _)] at eD
      exact q D H' sm hD eD

def sp_p_speeds (K : PySem.W.Frag) (T : Tb) : Sp := fun vs H Q _ => ∃ a b us ns ps, vs = [.ref a, .ref b] ∧ SqL K H a (ns.map V.int) ∧ SqL K H b us ∧ DpAll K H us ((ps.map am).map amD) ∧ ns.length = ps.length ∧ ns.length ≤ 1000 ∧
  ∀ p H', Sm T H H' → H p = none → H' p = some (.lst ((spd ns ps).map V.int)) → Q (.ref p) H'
theorem atI_head {xs : List Int} {s : Int} {r : List Int} (h : xs = s :: r) : atI (xs.reverse.map V.int) (-1) = some (.int s) := by
  rw [h, List.reverse_cons, List.map_append]
  exact atI_last _ _
theorem ok_p_speeds {f : Addr} {fd : FuncData} (F : Fun K "speeds" "speeds" s_p_speeds f fd) (B : Bn mg) : FnOk P w K mg base CX0 1 f fd ["paces", "places"] (sp_p_speeds K T) := by
  refine F.ok sc_p_speeds (fun vs H Q E h => ?_) (fun cdv A outer s H vs Q E hr h => ?_)
  · obtain ⟨a, b, us, ns, ps, rfl, _⟩ := h
    rfl
  · obtain ⟨a, b, us, ns, ps, rfl, ha, hb, hd, hl, hl2, q⟩ := h
    refine ⟨_, (pss_cons (ps_set (i := 2) sc_p_speeds.nd rfl (.inl rfl) (pe_lst pa_nil))
      (pss_cons (ps_for PassesOwn.never rfl (pi_revR (by rfl) B.reversed_ (prg_1 (by rfl) B.range_ (pe_callB call_len_seq (by rfl) B.len_ (by decide +kernel) (pa_cons (pv 0) pa_nil)))) (pg_name (i := 3) sc_p_speeds.nd rfl (.inl rfl))
      (pss_cons (ps_set (i := 4) sc_p_speeds.nd rfl (.inl rfl) (pe_ix ix_list (pv 0) (pv 3) (fun _ _ => rfl)))
      (pss_cons (ps_if (PW.pt (pw_and (pt_truth (pv 2) (by intro _; rfl)) (pw_and1 (pt_cmpR (op_eqD hr.units) (pe_ix ix_list (pv 1) (pv 3) (fun _ _ => rfl)) (pe_ix ix_list (pv 1) (pe_op op_add (pv 3) pe_int) (fun _ _ => rfl)) (nomark _))))) (pss_one (ps_set (i := 4) sc_p_speeds.nd rfl (.inl rfl) (pe_callB (call_min2 rfl) (by rfl) B.min_ (by decide +kernel) (pa_cons (pv 4) (pa_cons (pe_ix ix_list (pv 2) (pe_un un_neg pe_int) (fun _ _ => rfl)) pa_nil))))) pss_nil)
      (pss_one (ps_expr (pe_bm PySem.F.plainAttrs_list PySem.F.slot_list_append PySem.F.type_list_append mt_append (pv 2) (pa_cons (pv 4) pa_nil)))))))
      (pss_cons (ps_expr (pe_bm0 PySem.F.plainAttrs_list PySem.F.slot_list_reverse PySem.F.type_list_reverse mt_reverse (pv 2)))
      (pss_one (ps_ret (pv 2)))))), ?_⟩
    have lu : us.length = ps.length := by rw [dpa_len hd, List.length_map, List.length_map]
    refine ⟨Nat.zero_le _, fun o no => ?_⟩
    have u0 := same_upd (T := T) (o := .lst []) no
    refine ⟨_, rfl, a, _, rfl, .inl (u0.seq ha), _, rfl, by decide, by decide, by rw [List.length_map]; omega, by rw [List.length_map]; omega, for_rangeC (fun i σ H3 => Sm T H H3 ∧ ∃ x3 x4, σ = [some (.ref a), some (.ref b), some (.ref o), x3, x4] ∧ H3 o = some (.lst (((spd (ns.drop (ns.length - i)) (ps.drop (ns.length - i))).reverse).map V.int))) ?_ ?_ ?_⟩
    · refine ⟨u0, _, _, rfl, ?_⟩
      rw [upd_same, Nat.sub_zero, List.drop_length]
      rfl
    · rintro i σ H3 hi ⟨s3, x3, x4, rfl, eo⟩
      rw [List.length_map] at hi
      have hin : i < ns.length := by omega
      obtain ⟨j, hj⟩ : ∃ j, j = ns.length - 1 - i := ⟨_, rfl⟩
      have hjn : j < ns.length := by omega
      have e1 : ns.length - i = j + 1 := by omega
      have e2 : ns.length - (i + 1) = j := by omega
      rw [e1] at eo
      have st := spd_step hl hjn
      have ez : (0 + ((((ns.map V.int).length : Int) - 0).toNat : Int) - 1 + (i : Int) * -1) = (j : Int) := by rw [List.length_map]; omega
      rw [ez]
      generalize hG : spd (ns.drop (j + 1)) (ps.drop (j + 1)) = G at *
      have lG : G.length = ns.length - (j + 1) := by rw [← hG, spd_len _ _ (by rw [List.length_drop, List.length_drop, hl]), List.length_drop]
      refine ⟨_, rfl, _, rfl, a, _, _, .int ns[j], rfl, rfl, s3.seq ha, at_map (i := j) rfl (List.getElem?_eq_getElem hjn), ?_⟩
      dsimp only [gName]
      refine seq_if (fun σ' H' => Sm T H3 H' ∧ ∃ x3 sp, σ' = [some (.ref a), some (.ref b), some (.ref o), x3, some (.int sp)] ∧ spd (ns.drop j) (ps.drop j) = sp :: G) (fun σ' H' p => ?_) (fun k => ?_)
      · obtain ⟨s4, x3, sp, rfl, es⟩ := p
        have eo4 := s4.k eo
        refine ⟨_, rfl, .inl ⟨rfl, _, SqL.of eo4⟩, _, rfl, o, _, _, rfl, rfl, eo4, ?_, ?_⟩
        · rw [List.length_map, List.length_reverse, lG]
          exact szl (by omega)
        · refine ⟨same_mut (s3.trans s4) no eo4, _, _, rfl, ?_⟩
          rw [upd_same, e2, es, List.reverse_cons, List.map_append]
          rfl
      · refine ⟨_, rfl, _, .inl ⟨_, SqL.of eo, rfl⟩, ?_⟩
        by_cases hlast : j + 1 < ns.length
        · have hne : ((G.reverse.map V.int).isEmpty) = false := by
            cases hg : G with
            | nil => rw [hg] at lG; simp at lG; omega
            | cons s r => simp
          rw [hne]
          refine iteT ?_
          obtain ⟨b1, g1, q1⟩ := am_at hd (i := j) (by omega)
          obtain ⟨b2, g2, q2⟩ := am_at hd (i := j + 1) (by omega)
          refine ⟨_, rfl, _, rfl, b, _, _, .ref b1, rfl, rfl, s3.seq hb, at_of (j := j) rfl g1, ?_⟩
          refine ⟨_, rfl, _, rfl, _, _, rfl, rfl, b, _, _, .ref b2, rfl, rfl, s3.seq hb, at_of (j := j + 1) (by omega) g2, ?_⟩
          refine ⟨amD (am ps[j]), amD (am ps[j + 1]), amD_dp (same_tup s3 q1), amD_dp (same_tup s3 q2), shaped_am _, shaped_am _, _, rfl, ?_⟩
          rw [eqv_am]
          rw [dif_pos hlast] at st
          by_cases he : ps[j] = ps[j + 1]
          · rw [decide_eq_true (by rw [he])]
            refine iteT ?_
            rw [if_pos he] at st
            obtain ⟨s, r, hg⟩ : ∃ s r, G = s :: r := by
              cases hg : G with
              | nil => rw [hg] at lG; simp at lG; omega
              | cons s r => exact ⟨s, r, rfl⟩
            refine ⟨_, rfl, _, rfl, 1, rfl, o, _, _, _, rfl, rfl, SqL.of eo, atI_head hg, _, _, rfl, ?_⟩
            refine k _ _ ⟨Sm.refl, _, _, rfl, ?_⟩
            rw [st, hg, List.headD_cons]
            rfl
          · rw [decide_eq_false (fun z => he (am_inj z))]
            refine iteF ?_
            rw [if_neg he] at st
            exact k _ _ ⟨Sm.refl, _, _, rfl, st⟩
        · have hg : G = [] := by
            cases hg : G with
            | nil => rfl
            | cons s r => rw [hg] at lG; simp at lG; omega
          rw [hg]
          refine iteF (iteF ?_)
          rw [dif_neg hlast, hg] at st
          exact k _ _ ⟨Sm.refl, _, _, rfl, by rw [st, hg]⟩
    · rintro σ H3 ⟨s3, x3, x4, rfl, eo⟩
      rw [List.length_map] at eo
      rw [show ns.length - (((ns.length : Nat) : Int) - 0).toNat = 0 by omega, List.drop_zero, List.drop_zero] at eo
      refine ⟨_, rfl, .inl ⟨rfl, _, SqL.of eo⟩, o, _, rfl, rfl, eo, ?_⟩
      refine ⟨_, rfl, q o _ (same_mut s3 no eo) no ?_⟩
      rw [upd_same, ← List.map_reverse, List.reverse_reverse]

def sp_p_hours_at (K : PySem.W.Frag) (T : Tb) : Sp := fun vs H Q _ => ∃ (a : Addr) (x : Rat) (k : Int), vs = [.ref a, .int k] ∧ SqT K H a (tv (am x)) ∧ Bd 4000 (am x) ∧ (0 < k ∧ k < 2 ^ 60) ∧
  ∀ p H', Sm T H H' → H p = none → H' p = some (.tup (tv (am (x / (k : Rat))))) → Q (.ref p) H'
theorem ok_p_hours_at {f : Addr} {fd : FuncData} (F : Fun K "hours_at" "hours_at" s_p_hours_at f fd) (F_p_over : Fn P w K mg base 3 "over" ["one", "other"] (sp_p_over K T)) : FnOk P w K mg base CX0 4 f fd ["gap", "speed"] (sp_p_hours_at K T) := by
  refine F.ok sc_p_hours_at (fun vs H Q E h => ?_) (fun cdv A outer s H vs Q E hr h => ?_)
  · obtain ⟨a, x, k, rfl, _⟩ := h
    rfl
  · obtain ⟨a, x, k, rfl, ha, bx, hk, q⟩ := h
    refine ⟨_, (pss_one (ps_ret (pe_fn F_p_over (hr.mono (by decide)) (pa_cons (pv 0) (pa_cons (pe_tup (pa_cons (pv 1) (pa_cons pe_int pa_nil))) pa_nil))))), ?_⟩
    refine ⟨_, rfl, _, rfl, by show 2 ≤ sizeLine; decide, fun t nt => ?_⟩
    have u := same_upd (T := T) (o := HO.tup [V.int k, V.int 1]) nt
    refine ⟨a, t, am x, (k, 1), rfl, same_tup u ha, SqT.of upd_same, ⟨bx, bd_int (small (by omega))⟩, ⟨am_pos _, by show (0 : Int) < 1; decide, by show k ≠ 0; omega⟩, fun p H' s np e => ?_⟩
    rw [← am_int k, over_am _ _ (cn (by omega))] at e
    exact q p H' (u.trans s) (u.free _ np) e

def sp_p_meeting (K : PySem.W.Frag) (T : Tb) : Sp := fun vs H Q _ => ∃ (L D : Int) (a b : Addr) (us : List V) (ns : List Int) (ps : List Rat), vs = [.int L, .ref a, .ref b] ∧ SqL K H a (ns.map V.int) ∧ SqL K H b us ∧ DpAll K H us ((ps.map am).map amD) ∧ Wk D L ns ps ∧ (0 < D ∧ D.natAbs < 2 ^ 3900) ∧ (1 ≤ L ∧ L ≤ 1000) ∧
  (ns = [] → Q .non H) ∧ (ns ≠ [] → ∀ p H', Sm T H H' → SqT K H' p (tv (am (meetM L ns ps))) → Q (.ref p) H')
theorem ok_p_meeting {f : Addr} {fd : FuncData} (F : Fun K "meeting" "meeting" s_p_meeting f fd) (B : Bn mg) (F_p_minus : Fn P w K mg base 3 "minus" ["one", "other"] (sp_p_minus K T)) (F_p_lesser : Fn P w K mg base 2 "lesser" ["one", "other"] (sp_p_lesser K T)) (F_p_speeds : Fn P w K mg base 1 "speeds" ["paces", "places"] (sp_p_speeds K T)) (F_p_hours_at : Fn P w K mg base 4 "hours_at" ["gap", "speed"] (sp_p_hours_at K T)) : FnOk P w K mg base CX0 5 f fd ["labour", "paces", "places"] (sp_p_meeting K T) := by
  refine F.ok sc_p_meeting (fun vs H Q E h => ?_) (fun cdv A outer s H vs Q E hr h => ?_)
  · obtain ⟨L, D, a, b, us, ns, ps, rfl, _⟩ := h
    rfl
  · obtain ⟨L, D, a, b, us, ns, ps, rfl, ha, hb, hd, wk, hD, hL, q0, q1⟩ := h
    refine ⟨_, (pss_cons (ps_if (pt_not (pt_truth (pv 1) (by intro _; rfl))) (pss_one (ps_ret pe_non)) pss_nil)
      (pss_cons (ps_set (i := 3) sc_p_meeting.nd rfl (.inl rfl) (pe_fn F_p_hours_at (hr.mono (by decide)) (pa_cons (pe_fn F_p_minus (hr.mono (by decide)) (pa_cons (pe_tup (pa_cons (pv 0) (pa_cons pe_int pa_nil))) (pa_cons (pe_ix ix_list (pv 2) (pe_un un_neg pe_int) (fun _ _ => rfl)) pa_nil))) (pa_cons (pe_ix ix_list (pv 1) (pe_un un_neg pe_int) (fun _ _ => rfl)) pa_nil))))
      (pss_cons (ps_set (i := 4) sc_p_meeting.nd rfl (.inl rfl) (pe_fn F_p_speeds (hr.mono (by decide)) (pa_cons (pv 1) (pa_cons (pv 2) pa_nil))))
      (pss_cons (ps_for PassesOwn.never rfl (pi_range1 (by rfl) B.range_ (pa_cons (pe_op op_sub (pe_callB call_len_seq (by rfl) B.len_ (by decide +kernel) (pa_cons (pv 1) pa_nil)) pe_int) pa_nil)) (pg_name (i := 5) sc_p_meeting.nd rfl (.inl rfl))
      (pss_cons (ps_set (i := 6) sc_p_meeting.nd rfl (.inl rfl) (pe_op op_sub (pe_ix ix_list (pv 4) (pv 5) (fun _ _ => rfl)) (pe_ix ix_list (pv 4) (pe_op op_add (pv 5) pe_int) (fun _ _ => rfl))))
      (pss_one (ps_if (pt_cmpR op_gt (pv 6) pe_int (nomark _)) (pss_one (ps_set (i := 3) sc_p_meeting.nd rfl (.inl rfl) (pe_fn F_p_lesser (hr.mono (by decide)) (pa_cons (pv 3) (pa_cons (pe_fn F_p_hours_at (hr.mono (by decide)) (pa_cons (pe_fn F_p_minus (hr.mono (by decide)) (pa_cons (pe_ix ix_list (pv 2) (pe_op op_add (pv 5) pe_int) (fun _ _ => rfl)) (pa_cons (pe_ix ix_list (pv 2) (pv 5) (fun _ _ => rfl)) pa_nil))) (pa_cons (pv 6) pa_nil))) pa_nil))))) pss_nil))))
      (pss_one (ps_ret (pv 3))))))), ?_⟩
    have hle := wk.eq
    have h8 := wk.n8
    have lu : us.length = ps.length := by rw [dpa_len hd, List.length_map, List.length_map]
    refine ⟨_, rfl, _, .inl ⟨_, ha, rfl⟩, ?_⟩
    by_cases hn : ns = []
    · subst hn
      exact iteT (q0 rfl)
    · have hn0 : 0 < ns.length := List.length_pos_iff.mpr hn
      have q1 := q1 hn
      rw [show ((ns.map V.int).isEmpty) = false by cases ns with | nil => exact absurd rfl hn | cons => rfl]
      refine iteF ?_
      obtain ⟨pb, gb, qb⟩ := am_at hd (i := ns.length - 1) (by omega)
      have hL1 : (1 : Rat) ≤ (L : Rat) := Rat.intCast_le_intCast.mpr hL.1
      have hL2 : (L : Rat) ≤ 1000 := Rat.intCast_le_intCast.mpr hL.2
      have c0 := wk.nn _ (List.getElem_mem (show ns.length - 1 < ps.length by omega))
      have c1 := wk.fire _ (List.getElem_mem (show ns.length - 1 < ps.length by omega))
      have c2 := wk.fr _ (List.getElem_mem (show ns.length - 1 < ps.length by omega))
      have p0 := wk.pace _ (List.getElem_mem (show ns.length - 1 < ns.length by omega))
      have fL : Fr D (L : Rat) := Fr.int (by omega) L
      refine ⟨_, rfl, by show 2 ≤ sizeLine; decide, fun t nt => ?_⟩
      have u := same_upd (T := T) (o := HO.tup [V.int L, V.int 1]) nt
      refine ⟨_, rfl, 1, rfl, b, _, _, .ref pb, rfl, rfl, u.seq hb, at_neg1 (by omega) (by rw [lu, ← hle]; exact gb), ?_⟩
      refine ⟨t, pb, (L, 1), am ps[ns.length - 1], rfl, SqT.of upd_same, same_tup u qb, ⟨bd_int (small (by omega)), bd_fr1 hD.1 hD.2 c2 (by grind) (by grind)⟩, ⟨by show (0 : Int) < 1; decide, am_pos _⟩, fun p1 H1 s1 n1 e1 => ?_⟩
      rw [← am_int L, minus_am] at e1
      have s01 := u.trans s1
      refine ⟨_, rfl, 1, rfl, a, _, _, .int ns[ns.length - 1], rfl, rfl, s01.seq ha, at_neg1 (by rw [List.length_map]; exact hn0) (by rw [List.length_map, List.getElem?_map, List.getElem?_eq_getElem (by omega)]; rfl), ?_⟩
      refine ⟨p1, (L : Rat) - ps[ns.length - 1], ns[ns.length - 1], rfl, SqT.of e1, bd_fr1 hD.1 hD.2 (fL.sub c2) (by grind) (by grind), ⟨by omega, by omega⟩, fun p2 H2 s2 n2 e2 => ?_⟩
      have s02 := s01.trans s2
      have eL : ((L : Rat) - ps[ns.length - 1]) / ((ns[ns.length - 1] : Int) : Rat) = lastH L ns ps := by
        unfold lastH
        rw [getD_lt (show ns.length - 1 < ps.length by omega), getD_lt (show ns.length - 1 < ns.length by omega)]
      rw [eL] at e2
      refine ⟨_, rfl, _, rfl, a, b, us, ns, ps, rfl, s02.seq ha, s02.seq hb, dpa_same s02 _ _ hd, hle, by omega, fun go H3 s3 n3 e3 => ?_⟩
      have s03 := s02.trans s3
      refine ⟨_, rfl, a, _, rfl, .inl (s03.seq ha), _, _, rfl, rfl, ((ns.length - 1 : Nat) : Int), ?_, by omega, by omega, for_range (lo := 0) (n := ns.length - 1) (fun i σ H4 => Sm T H3 H4 ∧ ∃ ph x5 x6, σ = [some (.int L), some (.ref a), some (.ref b), some (.ref ph), some (.ref go), x5, x6] ∧ SqT K H4 ph (tv (am (meetF (spd ns ps) ps (lastH L ns ps) i)))) ⟨Sm.refl, p2, _, _, rfl, SqT.of (s3.k e2)⟩ ?_ ?_⟩
      · show [V.int (((ns.map V.int).length : Int) - 1)] = _
        rw [List.length_map, show ((ns.length : Int) - 1) = ((ns.length - 1 : Nat) : Int) by omega]
      · rintro i σ H4 hi ⟨s4, ph, x5, x6, rfl, hph⟩
        have hi' : i + 1 < ns.length := by omega
        have s04 := s03.trans s4
        have e4 := s4.k e3
        have lsp := spd_len ns ps hle
        have g0 : (spd ns ps)[i]? = some ((spd ns ps).getD i 0) := by rw [List.getD_eq_getElem?_getD, List.getElem?_eq_getElem (show i < (spd ns ps).length by omega)]; rfl
        have g1 : (spd ns ps)[i + 1]? = some ((spd ns ps).getD (i + 1) 0) := by rw [List.getD_eq_getElem?_getD, List.getElem?_eq_getElem (show i + 1 < (spd ns ps).length by omega)]; rfl
        obtain ⟨b1, gb1, qb1⟩ := am_at hd (i := i) (by omega)
        obtain ⟨b2, gb2, qb2⟩ := am_at hd (i := i + 1) (by omega)
        have d0 := spd_bd wk (show i < ns.length by omega)
        have d1 := spd_bd wk hi'
        refine ⟨_, rfl, _, rfl, go, _, _, _, rfl, rfl, SqL.of e4, at_map (i := i) (by omega) g0, _, rfl, _, rfl, _, _, rfl, rfl, go, _, _, _, rfl, rfl, SqL.of e4, at_map (i := i + 1) (by omega) g1, _, _, rfl, rfl, ?_⟩
        refine ⟨_, rfl, _, _, rfl, rfl, _, rfl, ite2 (fun e => ?_) (fun e => ?_)⟩
        · have hg : (spd ns ps).getD (i + 1) 0 < (spd ns ps).getD i 0 := by
            have := of_decide_eq_true e
            omega
          have ap := apart wk hi' hg
          have m1 := meetF_ok wk (by omega) hn0 (i := i) (by omega)
          obtain ⟨k1, k11, k12, kf, kn, kL⟩ := m1
          have r1 := wk.fr _ (List.getElem_mem (show i < ps.length by omega))
          have r2 := wk.fr _ (List.getElem_mem (show i + 1 < ps.length by omega))
          have t1 := wk.nn _ (List.getElem_mem (show i < ps.length by omega))
          have t2 := wk.nn _ (List.getElem_mem (show i + 1 < ps.length by omega))
          have v1 := wk.fire _ (List.getElem_mem (show i < ps.length by omega))
          have v2 := wk.fire _ (List.getElem_mem (show i + 1 < ps.length by omega))
          rw [getD_lt (show i < ps.length by omega), getD_lt (show i + 1 < ps.length by omega)] at ap
          refine ⟨_, rfl, _, rfl, _, rfl, _, _, rfl, rfl, b, _, _, .ref b2, rfl, rfl, s04.seq hb, at_of (j := i + 1) (by omega) gb2, _, rfl, _, rfl, b, _, _, .ref b1, rfl, rfl, s04.seq hb, at_of (j := i) (by omega) gb1, ?_⟩
          refine ⟨b2, b1, am ps[i + 1], am ps[i], rfl, same_tup s04 qb2, same_tup s04 qb1, ⟨bd_fr1 hD.1 hD.2 r2 (by grind) (by grind), bd_fr1 hD.1 hD.2 r1 (by grind) (by grind)⟩, ⟨am_pos _, am_pos _⟩, fun p5 H5 s5 n5 e5 => ?_⟩
          rw [minus_am] at e5
          refine ⟨_, rfl, p5, ps[i + 1] - ps[i], (spd ns ps).getD i 0 - (spd ns ps).getD (i + 1) 0, rfl, SqT.of e5, bd_fr1 hD.1 hD.2 (r2.sub r1) (by grind) (by grind), ⟨by omega, by omega⟩, fun p6 H6 s6 n6 e6 => ?_⟩
          have s46 := s5.trans s6
          have m2 := meetF_ok wk (by omega) hn0 (i := i + 1) (by omega)
          have fc := (r2.sub r1).divI (k := (spd ns ps).getD i 0 - (spd ns ps).getD (i + 1) 0) (by omega) (by omega)
          have cpos := lt_div (k := (spd ns ps).getD i 0 - (spd ns ps).getD (i + 1) 0) (by omega) ap
          have cle := div_le1 (a := ps[i + 1] - ps[i]) (k := (spd ns ps).getD i 0 - (spd ns ps).getD (i + 1) 0) (by omega) (sub_nn ap)
          refine ⟨ph, p6, _, _, rfl, same_tup s46 hph, SqT.of e6, ⟨bd_fr hD.1 hD.2 k11 k12 kf (neg_le kn (by decide)) (Rat.le_trans kL hL2), bd_fr hD.1 hD.2 (by omega) (by omega) fc (neg_le (Rat.le_of_lt cpos) (by decide)) (Rat.le_trans cle (sub_le' (Rat.le_trans v2 hL2) t1))⟩, ?_⟩
          refine ⟨s4.trans s46, _, _, _, rfl, ?_⟩
          simp only [meetF]
          rw [if_pos hg, getD_lt (show i < ps.length by omega), getD_lt (show i + 1 < ps.length by omega)]
          exact lesser_sq (same_tup s46 hph) (SqT.of e6)
        · have hg : ¬ (spd ns ps).getD (i + 1) 0 < (spd ns ps).getD i 0 := fun z => e (decide_eq_true (by omega))
          refine ⟨s4, ph, _, _, rfl, ?_⟩
          simp only [meetF]
          rw [if_neg hg]
          exact hph
      · rintro σ H4 ⟨s4, ph, x5, x6, rfl, hph⟩
        exact ⟨_, rfl, q1 ph H4 (s03.trans s4) hph⟩

/-! ### walked on -/
def walkM (ns : List Int) (ps : List Rat) (t : Rat) : List Rat := (List.range ns.length).map fun j => ps.getD j 0 + t * (((spd ns ps).getD j 0 : Int) : Rat)
theorem walkM_len (ns : List Int) (ps : List Rat) (t : Rat) : (walkM ns ps t).length = ns.length := by
  unfold walkM
  rw [List.length_map, List.length_range]
theorem walkM_get {ns : List Int} {ps : List Rat} {t : Rat} {j : Nat} (h : j < ns.length) : (walkM ns ps t).getD j 0 = ps.getD j 0 + t * (((spd ns ps).getD j 0 : Int) : Rat) := by
  unfold walkM
  rw [List.getD_eq_getElem?_getD, List.getElem?_map, List.getElem?_range h]
  rfl
theorem ext_getD {α : Type} {d : α} {xs ys : List α} (hl : xs.length = ys.length) (h : ∀ j, j < xs.length → xs.getD j d = ys.getD j d) : xs = ys := by
  refine List.ext_getElem? fun j => ?_
  by_cases hj : j < xs.length
  · have := h j hj
    rw [getD_lt hj, getD_lt (show j < ys.length by omega)] at this
    rw [List.getElem?_eq_getElem hj, List.getElem?_eq_getElem (show j < ys.length by omega), this]
  · rw [List.getElem?_eq_none (by omega), List.getElem?_eq_none (by omega)]
theorem lt_le {a b c : Rat} (h : a < b) (g : b ≤ c) : a < c := by grind
theorem sep {pj pk t gj gk : Rat} (e : pj + t * gj = pk + t * gk) : t * (gj - gk) = pk - pj := by grind
theorem spd_walk {D L : Int} {ns : List Int} {ps : List Rat} (w : Wk D L ns ps) {t : Rat} (h0 : 0 ≤ t) (ht : t < meetM L ns ps) : spd ns (walkM ns ps t) = spd ns ps := by
  have lw := walkM_len ns ps t
  have l1 := spd_len ns ps w.eq
  have l2 := spd_len ns (walkM ns ps t) lw.symm
  have key : ∀ k j, j < ns.length → ns.length - j ≤ k → (spd ns (walkM ns ps t)).getD j 0 = (spd ns ps).getD j 0 := by
    intro k
    induction k with
    | zero => intro j h1 h2; omega
    | succ k ih =>
      intro j h1 h2
      rw [spd_rec lw.symm h1]
      by_cases h : j + 1 < ns.length
      · have g1 := ih (j + 1) h (by omega)
        rw [g1, walkM_get h1, walkM_get h]
        have hr := spd_rec w.eq h1
        by_cases e : ps.getD j 0 = ps.getD (j + 1) 0
        · rw [if_pos ⟨h, e⟩] at hr
          by_cases e2 : ps.getD j 0 + t * (((spd ns ps).getD j 0 : Int) : Rat) = ps.getD (j + 1) 0 + t * (((spd ns ps).getD (j + 1) 0 : Int) : Rat)
          · rw [if_pos ⟨h, e2⟩]
            exact hr.symm
          · rw [if_neg (fun z => e2 z.2)]
            have hne : (spd ns ps).getD j 0 ≠ (spd ns ps).getD (j + 1) 0 := fun z => e2 (by rw [e, z])
            rw [hr] at hne ⊢
            unfold mnI at hne ⊢
            split
            · rename_i c; rw [if_pos c] at hne; exact absurd rfl hne
            · rfl
        · rw [if_neg (fun z => e z.2)] at hr
          refine (if_neg (fun z => ?_)).trans hr.symm
          have e2 := z.2
          have le := ps_le w h
          have lt : ps.getD j 0 < ps.getD (j + 1) 0 := by grind
          by_cases hg : (spd ns ps).getD (j + 1) 0 < (spd ns ps).getD j 0
          · have c := (meetF_le (spd ns ps) ps (lastH L ns ps) (ns.length - 1)).2 j (by omega) hg
            have em : cand (spd ns ps) ps j * (((spd ns ps).getD j 0 - (spd ns ps).getD (j + 1) 0 : Int) : Rat) = ps.getD (j + 1) 0 - ps.getD j 0 := div_mul (by omega)
            have s := sep e2
            rw [← Rat.intCast_sub] at s
            have tc : t < cand (spd ns ps) ps j := lt_le ht c
            have := Rat.mul_lt_mul_of_pos_right tc (cp (show 0 < (spd ns ps).getD j 0 - (spd ns ps).getD (j + 1) 0 by omega))
            grind
          · have s := sep e2
            rw [← Rat.intCast_sub] at s
            have k0 : (((spd ns ps).getD j 0 - (spd ns ps).getD (j + 1) 0 : Int) : Rat) ≤ 0 := Rat.intCast_le_intCast.mpr (by omega)
            have := Rat.mul_le_mul_of_nonneg_left k0 h0
            grind
      · rw [if_neg (fun z => h z.1), spd_rec w.eq h1, if_neg (fun z => h z.1)]
  exact ext_getD (d := 0) (by omega) fun j hj => key _ j (by omega) (Nat.le_refl _)
theorem walk_walk {D L : Int} {ns : List Int} {ps : List Rat} (w : Wk D L ns ps) {t h : Rat} (h0 : 0 ≤ t) (h1 : t ≤ h) (hm : h ≤ meetM L ns ps) : walkM ns (walkM ns ps t) (h - t) = walkM ns ps h := by
  have lw := walkM_len ns ps t
  refine ext_getD (d := 0) (by rw [walkM_len, walkM_len]) fun j hj => ?_
  rw [walkM_len] at hj
  rw [walkM_get hj, walkM_get hj, walkM_get hj]
  by_cases c : t < meetM L ns ps
  · rw [spd_walk w h0 c]
    grind
  · have : h = t := by grind
    subst this
    grind

def sp_p_walked (K : PySem.W.Frag) (T : Tb) : Sp := fun vs H Q _ => ∃ (D : Int) (a b hp : Addr) (us : List V) (ns : List Int) (ps : List Rat) (t : Rat), vs = [.ref a, .ref b, .ref hp] ∧ SqL K H a (ns.map V.int) ∧ SqL K H b us ∧ AmL K H us ps ∧ SqT K H hp (tv (am t)) ∧ ns.length = ps.length ∧ ns.length ≤ 1000 ∧
  (0 < D ∧ D.natAbs < 2 ^ 3900) ∧ (∀ j, j < ns.length → 1 ≤ (spd ns ps).getD j 0 ∧ (spd ns ps).getD j 0 ≤ 12) ∧ (∀ p ∈ ps, Fr D p ∧ 0 ≤ p ∧ p ≤ 50000) ∧ (Fr D t ∧ 0 ≤ t ∧ t ≤ 50000) ∧
  ∀ p H' us', Sm T H H' → H p = none → H' p = some (.lst us') → AmL K H' us' (walkM ns ps t) → Q (.ref p) H'
theorem ok_p_walked {f : Addr} {fd : FuncData} (F : Fun K "walked" "walked" s_p_walked f fd) (B : Bn mg) (F_p_plus : Fn P w K mg base 3 "plus" ["one", "other"] (sp_p_plus K T)) (F_p_times : Fn P w K mg base 3 "times" ["one", "other"] (sp_p_times K T)) (F_p_speeds : Fn P w K mg base 1 "speeds" ["paces", "places"] (sp_p_speeds K T)) : FnOk P w K mg base CX0 4 f fd ["paces", "places", "hours"] (sp_p_walked K T) := by
  refine F.ok sc_p_walked (fun vs H Q E h => ?_) (fun cdv A outer s H vs Q E hr h => ?_)
  · obtain ⟨D, a, b, hp, us, ns, ps, t, rfl, _⟩ := h
    rfl
  · obtain ⟨D, a, b, hp, us, ns, ps, t, rfl, ha, hb, hu, ht, hl, hl2, hD, hg, hps, ⟨tf, t0, t1⟩, q⟩ := h
    refine ⟨_, (pss_cons (ps_set (i := 3) sc_p_walked.nd rfl (.inl rfl) (pe_fn F_p_speeds (hr.mono (by decide)) (pa_cons (pv 0) (pa_cons (pv 1) pa_nil))))
      (pss_one (ps_ret (pe_lc (own := [("place", 4), ("speed", 5)]) (g := (gTup K 2 (gCons (gName 4) (gCons (gName 5) gNil)))) (tt := tYes) (by rfl) sc_p_walked.nd (pi_zip (by rfl) B.zip_ (pa_cons (pv 1) (pa_cons (pv 3) pa_nil))) (blkOk_by (own := [("place", 4), ("speed", 5)]) (N := ["paces", "places", "hours", "going", "place", "speed"]) (sc := (defScope s_p_walked)) (by decide +kernel)) (fun _ _ _ _ _ => (pg_tup rfl (pgs_cons (pg_name (i := 4) sc_p_walked.nd rfl (.inl rfl)) (pgs_cons (pg_name (i := 5) sc_p_walked.nd rfl (.inl rfl)) pgs_nil)))) (fun _ _ _ _ _ => pts_nil) (fun _ _ _ _ _ => (pe_fn F_p_plus (hr.mono (by decide)) (pa_cons (pv 4) (pa_cons (pe_fn F_p_times (hr.mono (by decide)) (pa_cons (pe_tup (pa_cons (pv 5) (pa_cons pe_int pa_nil))) (pa_cons (pv 2) pa_nil))) pa_nil)))))))), ?_⟩
    have lu := hu.len
    have lsp := spd_len ns ps hl
    refine ⟨_, rfl, _, rfl, a, b, us, ns, ps, rfl, ha, hb, hu, hl, hl2, fun go H1 s1 n1 e1 => ?_⟩
    refine ⟨_, rfl, _, rfl, b, go, us, (spd ns ps).map V.int, rfl, s1.seq hb, SqL.of e1, fun D0 hD0 => lc_it (walk_zip (n := ns.length) (by rw [lu, List.length_map, lsp]; omega)) (Qd := _) (fun i H' => Sm T H1 H' ∧ ∃ vs, H' D0 = some (.lst vs) ∧ AmL K H' vs ((List.range i).map fun j => ps.getD j 0 + t * (((spd ns ps).getD j 0 : Int) : Rat))) ⟨same_upd hD0, [], upd_same, .nil⟩ (fun i H' _ ⟨sm, _⟩ => ⟨(s1.trans sm).seq hb, SqL.of (sm.k e1)⟩) ?_ ?_⟩
    · rintro i x H2 H3 hi ⟨sm, vs, eD, hv⟩ ⟨tp, x1, y1, rfl, ntp, rfl, f1, f2⟩
      obtain ⟨b1, g1, q1⟩ := hu.at (i := i) (by omega)
      have gj : (spd ns ps)[i]? = some ((spd ns ps).getD i 0) := by rw [List.getD_eq_getElem?_getD, List.getElem?_eq_getElem (show i < (spd ns ps).length by omega)]; rfl
      simp only [g1] at f1
      simp only [List.getElem?_map, gj, Option.map_some] at f2
      cases f1
      cases f2
      have ut := same_upd (T := T) (o := .tup [V.ref b1, V.int ((spd ns ps).getD i 0)]) ntp
      have gi := hg i hi
      have hp1 := hps _ (getD_mem (d := (0 : Rat)) (show i < ps.length by omega))
      have c0 : (1 : Rat) ≤ (((spd ns ps).getD i 0 : Int) : Rat) := Rat.intCast_le_intCast.mpr gi.1
      have c1 : (((spd ns ps).getD i 0 : Int) : Rat) ≤ 12 := Rat.intCast_le_intCast.mpr gi.2
      refine ⟨tp, _, rfl, SqT.of upd_same, rfl, _, _, rfl, _, _, rfl, rfl, rfl, tyes_i ?_⟩
      refine ⟨_, rfl, _, rfl, by show 2 ≤ sizeLine; decide, fun t2 nt2 => ?_⟩
      have u2 := same_upd (T := T) (o := .tup [V.int ((spd ns ps).getD i 0), V.int 1]) nt2
      have s13 := s1.trans (sm.trans (ut.trans u2))
      refine ⟨_, rfl, t2, hp, ((spd ns ps).getD i 0, 1), am t, rfl, SqT.of upd_same, same_tup s13 ht, ⟨bd_int (small (by omega)), bdL hD.1 hD.2 tf t0 (Rat.le_trans t1 (by decide))⟩, ⟨by show (0 : Int) < 1; decide, am_pos _⟩, fun p4 H4 s4 n4 e4 => ?_⟩
      rw [← am_int, times_am, Rat.mul_comm] at e4
      have mr := mul_rng t0 t1 c0 c1
      have fm : Fr D (t * (((spd ns ps).getD i 0 : Int) : Rat)) := by rw [Rat.mul_comm]; exact tf.mulI _
      refine ⟨b1, p4, am (ps.getD i 0), am (t * (((spd ns ps).getD i 0 : Int) : Rat)), rfl, same_tup (s13.trans s4) q1, SqT.of e4, ⟨bdL hD.1 hD.2 hp1.1 hp1.2.1 (Rat.le_trans hp1.2.2 (by decide)), bdL hD.1 hD.2 fm mr.1 (Rat.le_trans mr.2 (by decide +kernel))⟩, ⟨am_pos _, am_pos _⟩, fun p5 H5 s5 n5 e5 => ?_⟩
      rw [plus_am] at e5
      have sA := ut.trans (u2.trans (s4.trans s5))
      have eD5 := sA.k eD
      have lv : vs.length = i := by rw [hv.len, List.length_map, List.length_range]
      refine ⟨_, eD5, szl (by omega), same_mut (sm.trans sA) hD0 eD5, _, upd_same, ?_⟩
      rw [take_range]
      exact (hv.keep sA).push eD5 (SqT.of e5)
    · rintro H2 ⟨sm, vs, eD, hv⟩
      exact q D0 H2 vs (s1.trans sm) (s1.free _ hD0) eD hv

theorem spd_le {ns : List Int} {xs : List Rat} (hl : ns.length = xs.length) {j : Nat} (hj : j < ns.length) : (spd ns xs).getD j 0 ≤ ns.getD j 0 := by
  rw [spd_rec hl hj]
  split
  · exact mnI_le_l _ _
  · exact Int.le_refl _

def ledAdd (x : Rat × Rat × Rat) (p v : Int) (h : Rat) : Rat × Rat × Rat := (x.1 + h, x.2.1 + ((v : Int) : Rat) * h, x.2.2 + ((p - v : Int) : Rat) * h)
/-- an amount over D that is not great -/
def Ok6 (D : Int) (r : Rat) : Prop := Fr D r ∧ 0 ≤ r ∧ r ≤ 900000
theorem ok6_bd {D : Int} {r : Rat} (hD : 0 < D ∧ D.natAbs < 2 ^ 3900) (h : Ok6 D r) : Bd 4000 (am r) := bdL hD.1 hD.2 h.1 h.2.1 (Rat.le_trans h.2.2 (by decide))
theorem led_parts {K : PySem.W.Frag} {H : Hp} {v : V} {x : Rat × Rat × Rat} (h : Dp K H v (ledD x)) : ∃ t a b c, v = .ref t ∧ SqT K H t [.ref a, .ref b, .ref c] ∧ SqT K H a (tv (am x.1)) ∧ SqT K H b (tv (am x.2.1)) ∧ SqT K H c (tv (am x.2.2)) := by
  unfold ledD at h
  cases h with
  | tup hs ha =>
    cases ha with
    | cons h1 h2 =>
      cases h2 with
      | cons h3 h4 =>
        cases h4 with
        | cons h5 h6 =>
          cases h6
          obtain ⟨a, rfl, ha⟩ := pd_at h1
          obtain ⟨b, rfl, hb⟩ := pd_at h3
          obtain ⟨c, rfl, hc⟩ := pd_at h5
          exact ⟨_, a, b, c, rfl, hs, ha, hb, hc⟩
def sp_p_ledger_on (K : PySem.W.Frag) (T : Tb) : Sp := fun vs H Q _ => ∃ (D : Int) (u : V) (x : Rat × Rat × Rat) (p v : Int) (hp : Addr) (h : Rat), vs = [u, .int p, .int v, .ref hp] ∧ Dp K H u (ledD x) ∧ SqT K H hp (tv (am h)) ∧ (0 < D ∧ D.natAbs < 2 ^ 3900) ∧ (Ok6 D x.1 ∧ Ok6 D x.2.1 ∧ Ok6 D x.2.2) ∧ (Fr D h ∧ 0 ≤ h ∧ h ≤ 50000) ∧ (1 ≤ v ∧ v ≤ p ∧ p ≤ 12) ∧
  ∀ t H', Sm T H H' → Dp K H' (.ref t) (ledD (ledAdd x p v h)) → Q (.ref t) H'
theorem ok_p_ledger_on {f : Addr} {fd : FuncData} (F : Fun K "ledger_on" "ledger_on" s_p_ledger_on f fd) (F_p_plus : Fn P w K mg base 3 "plus" ["one", "other"] (sp_p_plus K T)) (F_p_times : Fn P w K mg base 3 "times" ["one", "other"] (sp_p_times K T)) : FnOk P w K mg base CX0 4 f fd ["ledger", "pace", "speed", "hours"] (sp_p_ledger_on K T) := by
  refine F.ok sc_p_ledger_on (fun vs H Q E h => ?_) (fun cdv A outer s H vs Q E hr h => ?_)
  · obtain ⟨D, u, x, p, v, hp, h, rfl, _⟩ := h
    rfl
  · obtain ⟨D, u, x, p, v, hp, h, rfl, hu, hh, hD, ⟨o1, o2, o3⟩, ⟨hf, h0, h1⟩, ⟨v1, vp, p12⟩, q⟩ := h
    refine ⟨_, (pss_cons (ps_asg (pv 0) (pg_tup rfl (pgs_cons (pg_name (i := 4) sc_p_ledger_on.nd rfl (.inl rfl)) (pgs_cons (pg_name (i := 5) sc_p_ledger_on.nd rfl (.inl rfl)) (pgs_cons (pg_name (i := 6) sc_p_ledger_on.nd rfl (.inl rfl)) pgs_nil)))))
      (pss_cons (ps_set (i := 7) sc_p_ledger_on.nd rfl (.inl rfl) (pe_fn F_p_times (hr.mono (by decide)) (pa_cons (pe_tup (pa_cons (pv 2) (pa_cons pe_int pa_nil))) (pa_cons (pv 3) pa_nil))))
      (pss_cons (ps_set (i := 8) sc_p_ledger_on.nd rfl (.inl rfl) (pe_fn F_p_times (hr.mono (by decide)) (pa_cons (pe_tup (pa_cons (pe_op op_sub (pv 1) (pv 2)) (pa_cons pe_int pa_nil))) (pa_cons (pv 3) pa_nil))))
      (pss_one (ps_ret (pe_tup (pa_cons (pe_fn F_p_plus (hr.mono (by decide)) (pa_cons (pv 4) (pa_cons (pv 3) pa_nil))) (pa_cons (pe_fn F_p_plus (hr.mono (by decide)) (pa_cons (pv 5) (pa_cons (pv 7) pa_nil))) (pa_cons (pe_fn F_p_plus (hr.mono (by decide)) (pa_cons (pv 6) (pa_cons (pv 8) pa_nil))) pa_nil))))))))), ?_⟩
    obtain ⟨t, a, b, c, rfl, ht, ha, hb, hc⟩ := led_parts hu
    have bh : Bd 4000 (am h) := bdL hD.1 hD.2 hf h0 (Rat.le_trans h1 (by decide))
    have cv : (1 : Rat) ≤ ((v : Int) : Rat) ∧ ((v : Int) : Rat) ≤ 12 := ⟨Rat.intCast_le_intCast.mpr v1, (Rat.intCast_le_intCast.mpr (show v ≤ 12 by omega) : ((v : Int) : Rat) ≤ ((12 : Int) : Rat))⟩
    have cq : (0 : Rat) ≤ ((p - v : Int) : Rat) ∧ ((p - v : Int) : Rat) ≤ 12 := ⟨Rat.intCast_nonneg.mpr (by omega), (Rat.intCast_le_intCast.mpr (show p - v ≤ 12 by omega) : ((p - v : Int) : Rat) ≤ ((12 : Int) : Rat))⟩
    have m1 := mul_rng h0 h1 cv.1 cv.2
    have m2 := mul_rng0 h0 h1 cq.1 cq.2
    have f1 : Fr D (((v : Int) : Rat) * h) := hf.mulI _
    have f2 : Fr D (((p - v : Int) : Rat) * h) := hf.mulI _
    rw [Rat.mul_comm] at m1 m2
    refine ⟨_, rfl, t, _, rfl, ht, rfl, _, _, rfl, _, _, rfl, _, _, rfl, rfl, ?_⟩
    refine ⟨_, rfl, by show 2 ≤ sizeLine; decide, fun t1 nt1 => ?_⟩
    have u1 := same_upd (T := T) (o := .tup [.int v, .int 1]) nt1
    refine ⟨_, rfl, t1, hp, (v, 1), am h, rfl, SqT.of upd_same, same_tup u1 hh, ⟨bd_int (small (by omega)), bh⟩, ⟨by show (0 : Int) < 1; decide, am_pos _⟩, fun p2 H2 s2 n2 e2 => ?_⟩
    rw [← am_int, times_am] at e2
    refine ⟨_, rfl, _, rfl, _, _, rfl, rfl, by show 2 ≤ sizeLine; decide, fun t3 nt3 => ?_⟩
    have u3 := same_upd (T := T) (o := .tup [.int (p - v), .int 1]) nt3
    have s3 := u1.trans (s2.trans u3)
    refine ⟨_, rfl, t3, hp, (p - v, 1), am h, rfl, SqT.of upd_same, same_tup s3 hh, ⟨bd_int (small (by omega)), bh⟩, ⟨by show (0 : Int) < 1; decide, am_pos _⟩, fun p4 H4 s4 n4 e4 => ?_⟩
    rw [← am_int, times_am] at e4
    have s04 := s3.trans s4
    have e2' := (u3.trans s4).k e2
    refine ⟨_, rfl, _, rfl, a, hp, _, _, rfl, same_tup s04 ha, same_tup s04 hh, ⟨ok6_bd hD o1, bh⟩, ⟨am_pos _, am_pos _⟩, fun p5 H5 s5 n5 e5 => ?_⟩
    rw [plus_am] at e5
    refine ⟨_, rfl, _, rfl, b, p2, _, _, rfl, same_tup (s04.trans s5) hb, SqT.of (s5.k e2'), ⟨ok6_bd hD o2, bdL hD.1 hD.2 f1 m1.1 (Rat.le_trans m1.2 (by decide +kernel))⟩, ⟨am_pos _, am_pos _⟩, fun p6 H6 s6 n6 e6 => ?_⟩
    rw [plus_am] at e6
    refine ⟨_, rfl, _, rfl, c, p4, _, _, rfl, same_tup (s04.trans (s5.trans s6)) hc, SqT.of ((s5.trans s6).k e4), ⟨ok6_bd hD o3, bdL hD.1 hD.2 f2 m2.1 (Rat.le_trans m2.2 (by decide +kernel))⟩, ⟨am_pos _, am_pos _⟩, fun p7 H7 s7 n7 e7 => ?_⟩
    rw [plus_am] at e7
    refine ⟨by show 3 ≤ sizeLine; decide, fun t8 nt8 => ?_⟩
    have u8 := same_upd (T := T) (o := .tup [.ref p5, .ref p6, .ref p7]) nt8
    refine q t8 _ (s04.trans (s5.trans (s6.trans (s7.trans u8)))) (.tup (SqT.of upd_same) (.cons (amD_dp (SqT.of ((s6.trans (s7.trans u8)).k e5))) (.cons (amD_dp (SqT.of ((s7.trans u8).k e6))) (.cons (amD_dp (SqT.of (u8.k e7))) .nil))))
/-- a chain fit to be walked -/
structure WOk (D : Int) (s : Ch) : Prop where
  wk : Wk D s.fire (pcs s) s.spots
  hD : 0 < D ∧ D.natAbs < 2 ^ 3900
  f1 : 1 ≤ s.fire ∧ s.fire ≤ 1000
  nd : s.row.Nodup
  tp : ∀ n ∈ s.row, (getL s.tempos n).isSome = true
  lg : ∀ n ∈ s.row, ∃ x, getL s.ledgers n = some x ∧ Ok6 D x.1 ∧ Ok6 D x.2.1 ∧ Ok6 D x.2.2
  ll : s.ledgers.length ≤ 1000
  now : Ok6 D s.now
theorem pcs_len (s : Ch) : (pcs s).length = s.row.length := by unfold pcs; rw [List.length_map]
def sp_p_Chain_till_meeting (K : PySem.W.Frag) (T : Tb) (CC : Addr) : Sp := fun vs H Q _ => ∃ (D : Int) (c : Addr) (A : Ad) (s : Ch), vs = [.ref c] ∧ ChAt K CC H c A s ∧ WOk D s ∧ s.row ≠ [] ∧ ∀ p H', Sm T H H' → SqT K H' p (tv (am (meetM s.fire (pcs s) s.spots))) → Q (.ref p) H'
theorem ok_p_Chain_till_meeting {f : Addr} {fd : FuncData} (F : Fun K "till_meeting" "Chain.till_meeting" s_p_Chain_till_meeting f fd) {CC : Addr} (TC : Kl K CC) (M_paces : Mt P w K mg base CC 1 "paces" ["self"] (sp_p_Chain_paces K T CC)) (F_p_meeting : Fn P w K mg base 5 "meeting" ["labour", "paces", "places"] (sp_p_meeting K T)) : FnOk P w K mg base CX0 6 f fd ["self"] (sp_p_Chain_till_meeting K T CC) := by
  refine F.ok sc_p_Chain_till_meeting (fun vs H Q E h => ?_) (fun cdv A outer s H vs Q E hr h => ?_)
  · obtain ⟨D, c, A, s, rfl, _⟩ := h
    rfl
  · obtain ⟨D, c, A, s, rfl, h, w, hne, q⟩ := h
    refine ⟨_, (pss_one (ps_ret (pe_fn F_p_meeting (hr.mono (by decide)) (pa_cons (pe_fc TC.cl (TC.no "fire" (by decide +kernel)) (pv 0)) (pa_cons (pe_mt0 M_paces TC.cl (hr.mono (by decide)) (pv 0) ) (pa_cons (pe_fc TC.cl (TC.no "spots" (by decide +kernel)) (pv 0)) pa_nil)))))), ?_⟩
    have n8 := w.wk.n8
    rw [pcs_len] at n8
    refine ⟨_, rfl, c, _, _, _, rfl, h.ins, fl_fire, _, rfl, c, _, _, rfl, h.ins, fl_no (by decide +kernel), c, A, s, rfl, h, by omega, w.tp, fun p H1 s1 np ep => ?_⟩
    have h1 := h.sm s1
    obtain ⟨ps, p1, p2⟩ := h1.sp
    refine ⟨_, rfl, c, _, _, _, rfl, h1.ins, fl_sp, s.fire, D, p, A.sp, ps, pcs s, s.spots, rfl, SqL.of ep, SqL.of p1, p2, w.wk, w.hD, w.f1, fun e => ?_, fun _ p2 H2 s2 hp2 => q p2 H2 (s1.trans s2) hp2⟩
    have := congrArg List.length e
    rw [pcs_len] at this
    exact absurd (List.length_eq_zero_iff.mp this) hne
theorem nd_inj {l : List Str} (h : l.Nodup) {i j : Nat} (hi : i < l.length) (hj : j < l.length) (e : l[i] = l[j]) : i = j := nd_ix h (List.getElem?_eq_getElem hi) (by rw [List.getElem?_eq_getElem hj, e])
def ledN (s : Ch) (h : Rat) : Nat → List (Str × (Rat × Rat × Rat))
  | 0 => s.ledgers
  | i + 1 => putL (ledN s h i) (s.row.getD i "") (ledAdd ((getL s.ledgers (s.row.getD i "")).getD (0, 0, 0)) ((pcs s).getD i 0) ((spd (pcs s) s.spots).getD i 0) h)
theorem ledN_get {s : Ch} {h : Rat} (nd : s.row.Nodup) : ∀ i, i ≤ s.row.length → ∀ n, (∀ j, j < i → s.row.getD j "" ≠ n) → getL (ledN s h i) n = getL s.ledgers n
  | 0, _, n, _ => rfl
  | i + 1, hi, n, hn => by
    show getL (putL _ _ _) n = _
    rw [getL_put, if_neg (hn i (by omega))]
    exact ledN_get nd i (by omega) n fun j hj => hn j (by omega)
theorem ledN_at {s : Ch} {h : Rat} (nd : s.row.Nodup) {i : Nat} (hi : i ≤ s.row.length) : ∀ {j : Nat}, j < i → getL (ledN s h i) (s.row.getD j "") = some (ledAdd ((getL s.ledgers (s.row.getD j "")).getD (0, 0, 0)) ((pcs s).getD j 0) ((spd (pcs s) s.spots).getD j 0) h) := by
  induction i with
  | zero => intro j hj; omega
  | succ i ih =>
    intro j hj
    show getL (putL _ _ _) _ = _
    rw [getL_put]
    by_cases c : j = i
    · subst c
      rw [if_pos rfl]
    · rw [if_neg, ih (by omega) (by omega)]
      rw [getD_lt (show i < s.row.length by omega), getD_lt (show j < s.row.length by omega)]
      exact fun z => c (nd_inj nd (by omega) (by omega) z).symm
theorem ledN_len {s : Ch} {h : Rat} (hs : ∀ n ∈ s.row, ∃ x, getL s.ledgers n = some x) (nd : s.row.Nodup) : ∀ i, i ≤ s.row.length → (ledN s h i).length = s.ledgers.length
  | 0, _ => rfl
  | i + 1, hi => by
    have hm := getD_mem (d := ("" : Str)) (show i < s.row.length by omega)
    obtain ⟨x, hx⟩ := hs _ hm
    have e := ledN_get (h := h) nd i (by omega) (s.row.getD i "") (fun j hj => by
      rw [getD_lt (show i < s.row.length by omega), getD_lt (show j < s.row.length by omega)]
      exact fun z => absurd (nd_inj nd (by omega) (by omega) z) (by omega))
    show (putL _ _ _).length = _
    rw [putL_has (b := x) (by rw [e]; exact hx)]
    exact ledN_len hs nd i (by omega)
def walkS (s : Ch) (h : Rat) : Ch := { s with ledgers := ledN s h s.row.length, spots := walkM (pcs s) s.spots h, now := s.now + h }
def sp_p_Chain_walk (K : PySem.W.Frag) (T : Tb) (CC : Addr) : Sp := fun vs H Q _ => ∃ (D : Int) (c : Addr) (A : Ad) (s : Ch) (hp : Addr) (h : Rat), vs = [.ref c, .ref hp] ∧ ChAt K CC H c A s ∧ WOk D s ∧ SqT K H hp (tv (am h)) ∧ (Fr D h ∧ 0 ≤ h ∧ h ≤ 50000) ∧
  ∀ H' A', Sx T (ownC c A) H H' → (∀ x ∈ ownC c A', x ∈ ownC c A ∨ H x = none) → ChAt K CC H' c A' (walkS s h) → Q .non H'
theorem ok_p_Chain_walk {f : Addr} {fd : FuncData} (F : Fun K "walk" "Chain.walk" s_p_Chain_walk f fd) (B : Bn mg) {CC : Addr} (TC : Kl K CC) (F_p_plus : Fn P w K mg base 3 "plus" ["one", "other"] (sp_p_plus K T)) (M_paces : Mt P w K mg base CC 1 "paces" ["self"] (sp_p_Chain_paces K T CC)) (F_p_speeds : Fn P w K mg base 1 "speeds" ["paces", "places"] (sp_p_speeds K T)) (F_p_walked : Fn P w K mg base 4 "walked" ["paces", "places", "hours"] (sp_p_walked K T)) (F_p_ledger_on : Fn P w K mg base 4 "ledger_on" ["ledger", "pace", "speed", "hours"] (sp_p_ledger_on K T)) : FnOk P w K mg base CX0 5 f fd ["self", "hours"] (sp_p_Chain_walk K T CC) := by
  refine F.ok sc_p_Chain_walk (fun vs H Q E h => ?_) (fun cdv A outer s H vs Q E hr h => ?_)
  · obtain ⟨D, c, A, s, hp, h, rfl, _⟩ := h
    rfl
  · obtain ⟨D, c, A, s, hp, h, rfl, ch, w, hh, ⟨hf, h0, h1⟩, q⟩ := h
    refine ⟨_, (pss_cons (ps_set (i := 2) sc_p_Chain_walk.nd rfl (.inl rfl) (pe_mt0 M_paces TC.cl (hr.mono (by decide)) (pv 0) ))
      (pss_cons (ps_set (i := 3) sc_p_Chain_walk.nd rfl (.inl rfl) (pe_fn F_p_speeds (hr.mono (by decide)) (pa_cons (pv 2) (pa_cons (pe_fc TC.cl (TC.no "spots" (by decide +kernel)) (pv 0)) pa_nil))))
      (pss_cons (ps_for PassesOwn.never rfl (pi_zip3 (by rfl) B.zip_ (pa_cons (pe_fc TC.cl (TC.no "row" (by decide +kernel)) (pv 0)) (pa_cons (pv 2) (pa_cons (pv 3) pa_nil)))) (pg_tup rfl (pgs_cons (pg_name (i := 4) sc_p_Chain_walk.nd rfl (.inl rfl)) (pgs_cons (pg_name (i := 5) sc_p_Chain_walk.nd rfl (.inl rfl)) (pgs_cons (pg_name (i := 6) sc_p_Chain_walk.nd rfl (.inl rfl)) pgs_nil))))
      (pss_one (ps_dput (hu_of hr) (pe_fc TC.cl (TC.no "ledgers" (by decide +kernel)) (pv 0)) (pv 4) (pe_fn F_p_ledger_on (hr.mono (by decide)) (pa_cons (pe_dget (hu_of hr) (pe_fc TC.cl (TC.no "ledgers" (by decide +kernel)) (pv 0)) (pv 4) (fun _ _ => rfl)) (pa_cons (pv 5) (pa_cons (pv 6) (pa_cons (pv 1) pa_nil))))) rfl)))
      (pss_cons (ps_fc TC.cl (TC.no "spots" (by decide +kernel)) (pv 0) (pe_fn F_p_walked (hr.mono (by decide)) (pa_cons (pv 2) (pa_cons (pe_fc TC.cl (TC.no "spots" (by decide +kernel)) (pv 0)) (pa_cons (pv 1) pa_nil)))))
      (pss_one (ps_fc TC.cl (TC.no "now" (by decide +kernel)) (pv 0) (pe_fn F_p_plus (hr.mono (by decide)) (pa_cons (pe_fc TC.cl (TC.no "now" (by decide +kernel)) (pv 0)) (pa_cons (pv 1) pa_nil))))))))), ?_⟩
    have n8 := w.wk.n8
    have eq0 := w.wk.eq
    rw [pcs_len] at n8
    have lp := pcs_len s
    have bh : Bd 4000 (am h) := bdL w.hD.1 w.hD.2 hf h0 (Rat.le_trans h1 (by decide))
    refine ⟨_, rfl, c, _, _, rfl, ch.ins, fl_no (by decide +kernel), c, A, s, rfl, ch, by omega, w.tp, fun pp H1 s1 npp epp => ?_⟩
    have c1 := ch.sm s1
    obtain ⟨ps, p1, p2⟩ := c1.sp
    refine ⟨_, rfl, _, rfl, c, _, _, _, rfl, c1.ins, fl_sp, pp, A.sp, ps, pcs s, s.spots, rfl, SqL.of epp, SqL.of p1, p2, eq0, by omega, fun pg H2 s2 npg epg => ?_⟩
    have c2 := c1.sm s2
    have s12 := s1.trans s2
    have epp2 := s2.k epp
    have lsp : (spd (pcs s) s.spots).length = s.row.length := by rw [spd_len _ _ eq0, lp]
    have npp0 := ch.new npp
    have npg0 := c1.new npg
    refine ⟨_, rfl, c, _, _, _, rfl, c2.ins, fl_rw, _, rfl, _, rfl, A.rw, pp, pg, _, _, _, rfl, SqL.of c2.rw, SqL.of epp2, SqL.of epg, for_it (walk_zip3 (us := s.row.map V.str) (vs := (pcs s).map V.int) (ws := (spd (pcs s) s.spots).map V.int) (n := s.row.length) (by rw [List.length_map, List.length_map, List.length_map, lp, lsp]; omega)) (fun i σ H3 => Sx T (ownC c A) H2 H3 ∧ ChAt K CC H3 c A { s with ledgers := ledN s h i } ∧ ∃ x4 x5 x6, σ = [some (.ref c), some (.ref hp), some (.ref pp), some (.ref pg), x4, x5, x6]) ⟨Sx.refl, c2, _, _, _, rfl⟩ (fun i σ H3 _ ⟨x3, c3, _⟩ => ⟨SqL.of c3.rw, SqL.of (x3.lst epp2 npp0), SqL.of (x3.lst epg npg0)⟩) ?_ ?_⟩
    · rintro i x σ H3 H4 hi ⟨x3, c3, x4, x5, x6, rfl⟩ ⟨tp, y1, y2, y3, rfl, ntp, rfl, f1, f2, f3⟩
      have g2 := getI (l := pcs s) (j := i) (by omega)
      have g3 := getI (l := spd (pcs s) s.spots) (j := i) (by omega)
      have g1 : s.row[i]? = some (s.row.getD i "") := by rw [getD_lt hi, List.getElem?_eq_getElem hi]
      simp only [List.getElem?_map, g1, Option.map_some] at f1
      simp only [List.getElem?_map, g2, Option.map_some] at f2
      simp only [List.getElem?_map, g3, Option.map_some] at f3
      cases f1
      cases f2
      cases f3
      have hm := getD_mem (d := ("" : Str)) hi
      generalize hn : s.row.getD i "" = n at *
      have ut := same_upd (T := T) (o := .tup [.str n, .int ((pcs s).getD i 0), .int ((spd (pcs s) s.spots).getD i 0)]) ntp
      have c4 := c3.sm ut
      obtain ⟨kv, g4, g5⟩ := c4.lg
      obtain ⟨x, hx, o1, o2, o3⟩ := w.lg n hm
      have ex : getL (ledN s h i) n = some x := by
        rw [ledN_get w.nd i (by omega) n (fun j hj => by
          rw [← hn, getD_lt (show i < s.row.length by omega), getD_lt (show j < s.row.length by omega)]
          exact fun z => absurd (nd_inj w.nd (by omega) (by omega) z) (by omega))]
        exact hx
      have hgn : getL ({ s with ledgers := ledN s h i } : Ch).ledgers n = some x := ex
      rcases led_val g5 n with ⟨e1, _⟩ | ⟨x', v, e1, e2, e3⟩
      · rw [hgn] at e1; cases e1
      · rw [hgn] at e1
        cases e1
        have hpc := w.wk.pace _ (getD_mem (d := (0 : Int)) (show i < (pcs s).length by omega))
        have hsp := spd_bd w.wk (j := i) (by omega)
        have hle : (spd (pcs s) s.spots).getD i 0 ≤ (pcs s).getD i 0 := spd_le eq0 (by omega)
        refine ⟨tp, _, rfl, SqT.of upd_same, rfl, _, _, rfl, _, _, rfl, _, _, rfl, rfl, ?_⟩
        refine ⟨_, rfl, c, _, _, _, rfl, c4.ins, fl_lg, _, rfl, A.lg, v, rfl, by rw [← e2]; exact DGet.k (k := Sum.inr n) g4, _, rfl, _, rfl, _, rfl, ?_⟩
        refine ⟨D, v, x, _, _, hp, h, rfl, e3, (s12.sx (S := [])).tup hh |> fun z => (x3.sm' ut).tup z, w.hD, ⟨o1, o2, o3⟩, ⟨hf, h0, h1⟩, ⟨hsp.1, hle, hpc.2⟩, fun t H5 s5 d5 => ?_⟩
        have c5 := c4.sm s5
        have g6 := s5.k g4
        refine ⟨_, rfl, c, _, _, _, rfl, c5.ins, fl_lg, _, rfl, A.lg, _, rfl, DPut.k (k := Sum.inr n) g6 (by rw [led_len g5]; exact szl (by show (ledN s h i).length < _; rw [ledN_len (fun n hn => by obtain ⟨x, hx, _⟩ := w.lg n hn; exact ⟨x, hx⟩) w.nd i (by omega)]; have := w.ll; omega)), ?_⟩
        have g7 := led_put (n := n) ((s5.sx (S := [])).led g5) d5
        have c6 := c5.set_lg g7
        refine ⟨(x3.sm' (ut.trans s5)).step (sx_upd (o := .dK (putK kv (Sum.inr n) (.ref t))) g6 rfl (by simp [ownC])), ?_, _, _, _, rfl⟩
        have e6 : ledN s h (i + 1) = putL (ledN s h i) n (ledAdd x ((pcs s).getD i 0) ((spd (pcs s) s.spots).getD i 0) h) := by
          show putL _ (s.row.getD i "") _ = _
          rw [hn, hx]
          rfl
        rw [e6]
        exact c6
    · rintro σ H3 ⟨x3, c3, x4, x5, x6, rfl⟩
      obtain ⟨ps3, p3, p4⟩ := c3.sp
      have hg8 : ∀ j, j < (pcs s).length → 1 ≤ (spd (pcs s) s.spots).getD j 0 ∧ (spd (pcs s) s.spots).getD j 0 ≤ 12 := fun j hj => spd_bd w.wk hj
      have hps : ∀ p ∈ s.spots, Fr D p ∧ 0 ≤ p ∧ p ≤ 50000 := fun p hp => ⟨w.wk.fr p hp, w.wk.nn p hp, Rat.le_trans (w.wk.fire p hp) (Rat.le_trans (Rat.intCast_le_intCast.mpr w.f1.2) (by decide +kernel))⟩
      have hh3 := x3.tup ((s12.sx (S := [])).tup hh)
      refine ⟨_, rfl, _, rfl, c, _, _, _, rfl, c3.ins, fl_sp, _, rfl, D, pp, A.sp, hp, ps3, pcs s, s.spots, h, rfl, SqL.of (x3.lst epp2 npp0), SqL.of p3, p4, hh3, eq0, by omega, w.hD, hg8, hps, ⟨hf, h0, h1⟩, fun p5 H5 us' s5 n5 e5 hu5 => ?_⟩
      have c5 := c3.sm s5
      refine ⟨_, rfl, c, _, _, rfl, c5.ins, by show 11 < 1000; decide, ?_⟩
      rw [pf_sp]
      have np5 := c3.new n5
      have c6 := c5.re_sp e5 hu5 np5
      have x6 : Sx T (ownC c A) H _ := (s12.sx.step x3).sm' s5 |>.step (sx_upd (o := .ins CC A.dx (flds s.fire { A with sp := p5 })) c5.ins rfl (by simp [ownC]))
      have hh6 := x6.tup hh
      refine ⟨_, rfl, c, _, _, _, rfl, c6.ins, fl_nw, _, rfl, _, hp, _, _, rfl, c6.nw, hh6, ⟨ok6_bd w.hD w.now, bh⟩, ⟨am_pos _, am_pos _⟩, fun p7 H7 s7 n7 e7 => ?_⟩
      rw [plus_am] at e7
      have c7 := c6.sm s7
      refine ⟨_, rfl, c, _, _, rfl, c7.ins, by show 11 < 1000; decide, ?_⟩
      rw [pf_nw]
      have c8 := c7.re_nw (SqT.of e7)
      refine q _ _ (x6.sm' s7 |>.step (sx_upd c7.ins rfl (by simp [ownC]))) ?_ c8
      intro y hy
      have hy2 : y = p5 ∨ y ∈ ownC c A := by
        simp only [ownC, List.mem_cons, List.not_mem_nil, or_false] at hy ⊢
        rcases hy with h | h | h | h | h | h | h | h | h <;> simp [h]
      rcases hy2 with rfl | h
      · exact .inr (s12.free _ (x3.free _ n5))
      · exact .inl h

theorem while_ix {c : TT} {tb : TS} {D : Ends} {σ : L2.St} {H : Hp} (W : Nat → L2.St → Hp → Prop) (n : Nat) (h0 : W n σ H)
    (hs : ∀ m σ H, W m σ H → c σ H fun b H1 => if b = true then tb { D with nx := fun σ' H' => ∃ m', m' < m ∧ W m' σ' H', ct := fun σ' H' => ∃ m', m' < m ∧ W m' σ' H', bk := D.nx } σ H1 else D.nx σ H1)
    (mono : ∀ σ H Q Q', (∀ b H1, Q b H1 → Q' b H1) → c σ H Q → c σ H Q') : tWhile c tb D σ H := by
  refine ⟨W, ⟨n, h0⟩, fun m σ H hW => mono σ H _ _ (fun b H1 q => ?_) (hs m σ H hW)⟩
  cases b with
  | true => exact ⟨_, fun σ' H' z => z, q⟩
  | false => exact q
/-- at the place at the bearer is noted -/
def markS (s : Ch) (i : Nat) : Ch := { s with marks := s.marks.set (s.loads.getD i 0).toNat (s.marks.getD (s.loads.getD i 0).toNat [] ++ [(s.row.getD i "", s.spots.getD i 0)]) }
/-- lists side by side -/
structure Side (s : Ch) : Prop where
  ll : s.loads.length = s.row.length
  ls : s.spots.length = s.row.length
  n8 : s.row.length ≤ 8
  ld : ∀ l ∈ s.loads, 0 ≤ l ∧ l < (s.marks.length : Int)
theorem markS_side {s : Ch} (h : Side s) (i : Nat) : Side (markS s i) := ⟨h.ll, h.ls, h.n8, fun l hl => by
  show 0 ≤ l ∧ l < ((s.marks.set _ _).length : Int)
  rw [List.length_set]
  exact h.ld l hl⟩
theorem map_set_mk (l : List (List (Str × Rat))) (k : Nat) (m : List (Str × Rat)) : (l.set k m).map mkD = (l.map mkD).set k (mkD m) := by rw [List.map_set]
theorem dpa_set {K : PySem.W.Frag} {H : Hp} : ∀ {vs : List V} {ds : List PyData} {v : V} {d : PyData} (k : Nat), DpAll K H vs ds → Dp K H v d → DpAll K H (vs.set k v) (ds.set k d)
  | _, [], _, _, _, h, _ => by cases h; exact .nil
  | _, _ :: _, _, _, 0, h, g => by
    cases h with
    | cons h1 h2 => exact .cons g h2
  | _, _ :: _, _, _, k + 1, h, g => by
    cases h with
    | cons h1 h2 => exact .cons h1 (dpa_set k h2 g)
def sp_p_Chain_mark (K : PySem.W.Frag) (T : Tb) (CC : Addr) : Sp := fun vs H Q _ => ∃ (c : Addr) (A : Ad) (s : Ch) (i : Nat), vs = [.ref c, .int i] ∧ ChAt K CC H c A s ∧ Side s ∧ i < s.row.length ∧ (∀ m ∈ s.marks, m.length ≤ 5000) ∧ ∀ H', Sx T (ownC c A) H H' → ChAt K CC H' c A (markS s i) → Q .non H'
theorem ok_p_Chain_mark {f : Addr} {fd : FuncData} (F : Fun K "mark" "Chain.mark" s_p_Chain_mark f fd) {CC : Addr} (TC : Kl K CC) : FnOk P w K mg base CX0 1 f fd ["self", "at"] (sp_p_Chain_mark K T CC) := by
  refine F.ok sc_p_Chain_mark (fun vs H Q E h => ?_) (fun cdv A outer s H vs Q E hr h => ?_)
  · obtain ⟨c, A, s, i, rfl, _⟩ := h
    rfl
  · obtain ⟨c, A, s, i, rfl, h, sd, hi, hm, q⟩ := h
    refine ⟨_, (pss_cons (ps_set (i := 2) sc_p_Chain_mark.nd rfl (.inl rfl) (pe_ix ix_list (pe_fc TC.cl (TC.no "loads" (by decide +kernel)) (pv 0)) (pv 1) (fun _ _ => rfl)))
      (pss_one (ps_asg (pe_op op_catA (pe_ix ix_list (pe_fc TC.cl (TC.no "marks" (by decide +kernel)) (pv 0)) (pv 2) (fun _ _ => rfl)) (pe_tup (pa_cons (pe_tup (pa_cons (pe_ix ix_list (pe_fc TC.cl (TC.no "row" (by decide +kernel)) (pv 0)) (pv 1) (fun _ _ => rfl)) (pa_cons (pe_ix ix_list (pe_fc TC.cl (TC.no "spots" (by decide +kernel)) (pv 0)) (pv 1) (fun _ _ => rfl)) pa_nil))) pa_nil))) (pg_sub (pe_fc TC.cl (TC.no "marks" (by decide +kernel)) (pv 0)) (pv 2) set_list)))), ?_⟩
    obtain ⟨ms, m1, m2⟩ := h.mr
    obtain ⟨ps, p1, p2⟩ := h.sp
    have lm : ms.length = s.marks.length := by rw [dpa_len m2, List.length_map]
    have hl := sd.ld _ (getD_mem (d := (0 : Int)) (show i < s.loads.length by rw [sd.ll]; exact hi))
    have gl : s.loads[i]? = some (s.loads.getD i 0) := getI (by rw [sd.ll]; exact hi)
    obtain ⟨k, hk⟩ : ∃ k : Nat, s.loads.getD i 0 = (k : Int) := ⟨(s.loads.getD i 0).toNat, by omega⟩
    have hkl : k < s.marks.length := by omega
    have gr : (s.row.map V.str)[i]? = some (.str (s.row.getD i "")) := by rw [List.getElem?_map, getD_lt hi, List.getElem?_eq_getElem hi]; rfl
    obtain ⟨b, gb, qb⟩ := p2.at (i := i) (by rw [sd.ls]; exact hi)
    obtain ⟨v, gv, dv⟩ := dpa_get m2 (i := k) (d := mkD s.marks[k]) (by rw [List.getElem?_map, List.getElem?_eq_getElem hkl]; rfl)
    obtain ⟨tm, us, rfl, htm, hus⟩ : ∃ tm us, v = .ref tm ∧ SqT K H tm us ∧ DpAll K H us (s.marks[k].map fun x => PyData.tuple [.str x.1, amD (am x.2)]) := by
      unfold mkD at dv
      cases dv with
      | tup hs ha => exact ⟨_, _, rfl, hs, ha⟩
    have lus : us.length = s.marks[k].length := by rw [dpa_len hus, List.length_map]
    have hm9 := hm _ (List.getElem_mem hkl)
    refine ⟨_, rfl, c, _, _, _, rfl, h.ins, fl_ld, _, rfl, A.ld, _, _, .int k, rfl, rfl, SqL.of h.ld, by rw [← hk]; exact at_map (i := i) rfl gl, ?_⟩
    refine ⟨_, rfl, c, _, _, _, rfl, h.ins, fl_mk, _, rfl, A.mr, ms, _, .ref tm, rfl, rfl, SqL.of m1, at_of (j := k) rfl gv, ?_⟩
    refine ⟨_, rfl, c, _, _, _, rfl, h.ins, fl_rw, _, rfl, A.rw, _, _, _, rfl, rfl, SqL.of h.rw, at_of (j := i) rfl gr, ?_⟩
    refine ⟨_, rfl, c, _, _, _, rfl, h.ins, fl_sp, _, rfl, A.sp, ps, _, .ref b, rfl, rfl, SqL.of p1, at_of (j := i) rfl gb, by show 2 ≤ sizeLine; decide, fun t1 n1 => ⟨by show 1 ≤ sizeLine; decide, fun t2 n2 => ?_⟩⟩
    have u1 := same_upd (T := T) (o := .tup [.str (s.row.getD i ""), .ref b]) n1
    have u2 := same_upd (T := T) (o := .tup [.ref t1]) n2
    have s2 := u1.trans u2
    have d1 : Dp K (upd (upd H t1 (.tup [.str (s.row.getD i ""), .ref b])) t2 (.tup [.ref t1])) (.ref t1) (.tuple [.str (s.row.getD i ""), amD (am (s.spots.getD i 0))]) := .tup (SqT.of (u2.k upd_same)) (.cons (.str _) (.cons (amD_dp (same_tup s2 qb)) .nil))
    have fin : ∀ (tn : Addr) (H3 : Hp), Sm T H H3 → Dp K H3 (.ref tn) (mkD (s.marks[k] ++ [(s.row.getD i "", s.spots.getD i 0)])) → Q .non (upd H3 A.mr (.lst (ms.set k (.ref tn)))) := fun tn H3 s3 d3 => by
      have h3 := h.sm s3
      have m4 : DpAll K H3 (ms.set k (.ref tn)) ((s.marks.set k (s.marks[k] ++ [(s.row.getD i "", s.spots.getD i 0)])).map mkD) := by
        rw [map_set_mk]
        exact dpa_set k (dpa_same s3 _ _ m2) d3
      have h4 := h3.set_mr m4
      have e4 : ({ s with marks := s.marks.set k (s.marks[k] ++ [(s.row.getD i "", s.spots.getD i 0)]) } : Ch) = markS s i := by
        unfold markS
        rw [hk, Int.toNat_natCast, getD_lt hkl]
      rw [e4] at h4
      exact q _ (s3.sx.step (sx_upd (s3.k m1) rfl (by simp [ownC]))) h4
    have ixk : ixN ms.length (k : Int) = some k := by
      unfold ixN
      rw [if_pos (by omega), if_pos (by omega), Int.toNat_natCast]
    refine ⟨tm, t2, us, [.ref t1], rfl, rfl, same_tup s2 htm, SqT.of upd_same, sz (by show _ + 1 ≤ _; omega), fun e => ?_, fun _ e => absurd e (by simp), fun _ _ p np => ?_⟩
    · have h3 := h.sm s2
      refine ⟨_, rfl, c, _, _, _, rfl, h3.ins, fl_mk, _, rfl, A.mr, ms, k, k, rfl, rfl, s2.k m1, ixk, fin t2 _ s2 ?_⟩
      have e0 : s.marks[k] = [] := by rw [e] at lus; exact List.length_eq_zero_iff.mp lus.symm
      rw [e0]
      exact .tup (SqT.of upd_same) (.cons d1 .nil)
    · have u3 := same_upd (T := T) (o := .tup (us ++ [.ref t1])) np
      have s3 := s2.trans u3
      have h3 := h.sm s3
      refine ⟨_, rfl, c, _, _, _, rfl, h3.ins, fl_mk, _, rfl, A.mr, ms, k, k, rfl, rfl, s3.k m1, ixk, fin p _ s3 ?_⟩
      unfold mkD
      rw [List.map_append]
      exact .tup (SqT.of upd_same) (dpa_app (dpa_same s3 _ _ hus) (.cons (dp_same u3 _ _ d1) .nil))
def markN (s : Ch) : Nat → Ch
  | 0 => s
  | i + 1 => markS (markN s i) i
theorem markN_side {s : Ch} (h : Side s) : ∀ i, Side (markN s i)
  | 0 => h
  | i + 1 => markS_side (markN_side h i) i
theorem markN_row (s : Ch) : ∀ i, (markN s i).row = s.row ∧ (markN s i).loads = s.loads ∧ (markN s i).spots = s.spots ∧ (markN s i).tempos = s.tempos ∧ (markN s i).leaving = s.leaving ∧ (markN s i).ledgers = s.ledgers ∧ (markN s i).poured = s.poured ∧ (markN s i).now = s.now ∧ (markN s i).fire = s.fire ∧ (markN s i).way = s.way ∧ (markN s i).marks.length = s.marks.length
  | 0 => ⟨rfl, rfl, rfl, rfl, rfl, rfl, rfl, rfl, rfl, rfl, rfl⟩
  | i + 1 => by
    have h := markN_row s i
    refine ⟨h.1, h.2.1, h.2.2.1, h.2.2.2.1, h.2.2.2.2.1, h.2.2.2.2.2.1, h.2.2.2.2.2.2.1, h.2.2.2.2.2.2.2.1, h.2.2.2.2.2.2.2.2.1, h.2.2.2.2.2.2.2.2.2.1, ?_⟩
    show ((markN s i).marks.set _ _).length = _
    rw [List.length_set]
    exact h.2.2.2.2.2.2.2.2.2.2
theorem markN_len {s : Ch} {b : Nat} (h : ∀ m ∈ s.marks, m.length ≤ b) : ∀ i, ∀ m ∈ (markN s i).marks, m.length ≤ b + i
  | 0 => h
  | i + 1 => fun m hm => by
    have ih := markN_len h i
    have hm' : m ∈ (markN s i).marks.set ((markN s i).loads.getD i 0).toNat ((markN s i).marks.getD ((markN s i).loads.getD i 0).toNat [] ++ [((markN s i).row.getD i "", (markN s i).spots.getD i 0)]) := hm
    rcases List.mem_or_eq_of_mem_set hm' with h1 | h1
    · have := ih m h1; omega
    · rw [h1, List.length_append]
      show _ + 1 ≤ _
      by_cases hk : ((markN s i).loads.getD i 0).toNat < (markN s i).marks.length
      · have := ih _ (getD_mem (d := []) hk)
        omega
      · rw [List.getD_eq_getElem?_getD, List.getElem?_eq_none (by omega)]
        show 0 + 1 ≤ _
        omega
def sp_p_Chain_mark_from (K : PySem.W.Frag) (T : Tb) (CC : Addr) : Sp := fun vs H Q _ => ∃ (c : Addr) (A : Ad) (s : Ch), vs = [.ref c, .int 0] ∧ ChAt K CC H c A s ∧ Side s ∧ (∀ m ∈ s.marks, m.length ≤ 4000) ∧ ∀ H', Sx T (ownC c A) H H' → ChAt K CC H' c A (markN s s.row.length) → Q .non H'
theorem ok_p_Chain_mark_from {f : Addr} {fd : FuncData} (F : Fun K "mark_from" "Chain.mark_from" s_p_Chain_mark_from f fd) (B : Bn mg) {CC : Addr} (TC : Kl K CC) (M_mark : Mt P w K mg base CC 1 "mark" ["self", "at"] (sp_p_Chain_mark K T CC)) : FnOk P w K mg base CX0 2 f fd ["self", "first"] (sp_p_Chain_mark_from K T CC) := by
  refine F.ok sc_p_Chain_mark_from (fun vs H Q E h => ?_) (fun cdv A outer s H vs Q E hr h => ?_)
  · obtain ⟨c, A, s, rfl, _⟩ := h
    rfl
  · obtain ⟨c, A, s, rfl, h, sd, hm, q⟩ := h
    refine ⟨_, (pss_one (ps_for PassesOwn.never rfl (pi_range2 (by rfl) B.range_ (pa_cons (pv 1) (pa_cons (pe_callB call_len_seq (by rfl) B.len_ (by decide +kernel) (pa_cons (pe_fc TC.cl (TC.no "row" (by decide +kernel)) (pv 0)) pa_nil)) pa_nil))) (pg_name (i := 2) sc_p_Chain_mark_from.nd rfl (.inl rfl))
      (pss_one (ps_expr (pe_mt M_mark TC.cl (hr.mono (by decide)) (pv 0) (pa_cons (pv 2) pa_nil)))))), ?_⟩
    have n8 := sd.n8
    refine ⟨_, rfl, _, rfl, c, _, _, _, rfl, h.ins, fl_rw, A.rw, _, rfl, .inl (SqL.of h.rw), 0, _, rfl, ?_, ?_⟩
    · rw [List.length_map]
      exact ⟨by omega, by omega, by omega, by omega⟩
    · rw [List.length_map, show ((s.row.length : Int) - 0).toNat = s.row.length by omega]
      refine for_range (lo := 0) (n := s.row.length) (fun i σ H' => Sx T (ownC c A) H H' ∧ ChAt K CC H' c A (markN s i) ∧ ∃ x1 x2, σ = [some (.ref c), x1, x2]) ⟨Sx.refl, h, _, _, rfl⟩ ?_ ?_
      · rintro i σ H' hi ⟨x', h', x1, x2, rfl⟩
        have e := markN_row s i
        have ez : (0 : Int) + (i : Int) = (i : Int) := by omega
        rw [ez]
        refine ⟨_, rfl, c, _, _, rfl, h'.ins, fl_no (by decide +kernel), _, rfl, c, A, markN s i, i, rfl, h', markN_side sd i, by rw [e.1]; exact hi, fun m hm' => by have := markN_len hm i m hm'; omega, fun H2 x2 h2 => ?_⟩
        exact ⟨x'.step x2, h2, _, _, rfl⟩
      · rintro σ H' ⟨x', h', x1, x2, rfl⟩
        exact q H' x' h'
def sp_p_Chain_next_leaver (K : PySem.W.Frag) (T : Tb) (CC : Addr) : Sp := fun vs H Q _ => ∃ (c : Addr) (A : Ad) (s : Ch), vs = [.ref c] ∧ ChAt K CC H c A s ∧ s.leaving = [] ∧ s.row.length ≤ 8 ∧ Q .non H
theorem ok_p_Chain_next_leaver {f : Addr} {fd : FuncData} (F : Fun K "next_leaver" "Chain.next_leaver" s_p_Chain_next_leaver f fd) (B : Bn mg) {CC : Addr} (TC : Kl K CC) : FnOk P w K mg base CX0 1 f fd ["self"] (sp_p_Chain_next_leaver K T CC) := by
  refine F.ok sc_p_Chain_next_leaver (fun vs H Q E h => ?_) (fun cdv A outer s H vs Q E hr h => ?_)
  · obtain ⟨c, A, s, rfl, _⟩ := h
    rfl
  · obtain ⟨c, A, s, rfl, h, hl, n8, q⟩ := h
    refine ⟨_, (pss_cons (ps_for PassesOwn.never rfl (pi_revR (by rfl) B.reversed_ (prg_1 (by rfl) B.range_ (pe_callB call_len_seq (by rfl) B.len_ (by decide +kernel) (pa_cons (pe_fc TC.cl (TC.no "row" (by decide +kernel)) (pv 0)) pa_nil)))) (pg_name (i := 1) sc_p_Chain_next_leaver.nd rfl (.inl rfl))
      (pss_one (ps_if (pt_cmpR op_in_seq (pe_ix ix_list (pe_fc TC.cl (TC.no "row" (by decide +kernel)) (pv 0)) (pv 1) (fun _ _ => rfl)) (pe_fc TC.cl (TC.no "leaving" (by decide +kernel)) (pv 0)) (by rfl)) (pss_one (ps_ret (pv 1))) pss_nil)))
      (pss_one (ps_ret pe_non))), ?_⟩
    have hlv := h.lv
    rw [hl] at hlv
    refine ⟨_, rfl, c, _, _, _, rfl, h.ins, fl_rw, A.rw, _, rfl, .inl (SqL.of h.rw), _, rfl, by decide, by decide, by rw [List.length_map]; omega, by rw [List.length_map]; omega, for_rangeC (fun i σ H3 => H3 = H ∧ ∃ x1, σ = [some (.ref c), x1]) ⟨rfl, _, rfl⟩ ?_ ?_⟩
    · rintro i σ H3 hi ⟨rfl, x1, rfl⟩
      rw [List.length_map] at hi
      have hin : i < s.row.length := by omega
      obtain ⟨j, hj⟩ : ∃ j, j = s.row.length - 1 - i := ⟨_, rfl⟩
      have ez : (0 + ((((s.row.map V.str).length : Int) - 0).toNat : Int) - 1 + (i : Int) * -1) = (j : Int) := by rw [List.length_map]; omega
      rw [ez]
      have gr : (s.row.map V.str)[j]? = some (.str (s.row.getD j "")) := by rw [List.getElem?_map, getD_lt (show j < s.row.length by omega), List.getElem?_eq_getElem (show j < s.row.length by omega)]; rfl
      refine ⟨_, rfl, c, _, _, _, rfl, h.ins, fl_rw, _, rfl, A.rw, _, _, _, rfl, rfl, SqL.of h.rw, at_of (j := j) rfl gr, _, rfl, c, _, _, _, rfl, h.ins, fl_lv, A.lv, _, rfl, .inl (SqL.of hlv), rfl, rfl, _, rfl, ?_⟩
      exact iteF ⟨rfl, _, rfl⟩
    · rintro σ H3 ⟨rfl, x1, rfl⟩
      exact q

/-- a row of a going: the hour, the pail, who emptied it -/
abbrev Rw := Rat × Int × Str
def rowD (r : Rw) : PyData := .tuple [amD (am r.1), .str "out", .int r.2.1, .str r.2.2]
theorem noL_rows (l : List Rw) : (l.map rowD).all (noL 3) = true := by
  rw [List.all_map]
  exact List.all_eq_true.mpr fun _ _ => rfl
def rowS (s : Ch) : Rw := (s.now, s.loads.getD (s.row.length - 1) 0, s.row.getD (s.row.length - 1) "")
/-- a turn where nobody is called away -/
def turnS (s : Ch) : Ch :=
  let m := takeS (markN { s with poured := s.poured ++ [s.loads.getD (s.row.length - 1) 0] } s.row.length)
  { m with loads := m.loads.dropLast, spots := m.spots.dropLast }
structure Fit (s : Ch) : Prop where
  sd : Side s
  lv : s.leaving = []
  ml : s.marks.length < 4000
  mm : ∀ m ∈ s.marks, m.length ≤ 3000
  pl : s.poured.length < 4000
theorem last_at {α : Type} {l : List α} {d : α} (h : 0 < l.length) : l[l.length - 1]? = some (l.getD (l.length - 1) d) := by rw [getD_lt (show l.length - 1 < l.length by omega), List.getElem?_eq_getElem]
theorem last_ints {l : List Int} (h : 0 < l.length) : atI (l.map V.int) (-1) = some (.int (l.getD (l.length - 1) 0)) := at_neg1 (by rw [List.length_map]; exact h) (by rw [List.length_map, List.getElem?_map, last_at h]; rfl)
theorem last_strs {l : List Str} (h : 0 < l.length) : atI (l.map V.str) (-1) = some (.str (l.getD (l.length - 1) "")) := at_neg1 (by rw [List.length_map]; exact h) (by rw [List.length_map, List.getElem?_map, last_at h]; rfl)
theorem dpa_dropLast {K : PySem.W.Frag} {H : Hp} {vs : List V} {ds : List PyData} (h : DpAll K H vs ds) : DpAll K H vs.dropLast ds.dropLast := by
  rw [List.dropLast_eq_take, List.dropLast_eq_take, dpa_len h]
  exact dpa_take _ h
theorem AmL.dropLast {K : PySem.W.Frag} {H : Hp} {us : List V} {xs : List Rat} (h : AmL K H us xs) : AmL K H us.dropLast xs.dropLast := by
  have := dpa_dropLast h
  unfold AmL
  rw [List.map_dropLast, List.map_dropLast]
  exact this
def sp_p_Chain_turn (K : PySem.W.Frag) (T : Tb) (CC : Addr) : Sp := fun vs H Q _ => ∃ (c : Addr) (A : Ad) (s : Ch), vs = [.ref c] ∧ ChAt K CC H c A s ∧ Fit s ∧ s.row ≠ [] ∧
  ∀ p H' t, Sx T (ownC c A) H H' → ChAt K CC H' c A (turnS s) → H p = none → H' p = some (.lst [.ref t]) → Dp K H' (.ref t) (rowD (rowS s)) → Q (.ref p) H'
theorem ok_p_Chain_turn {f : Addr} {fd : FuncData} (F : Fun K "turn" "Chain.turn" s_p_Chain_turn f fd) {CC : Addr} (TC : Kl K CC) (M_take_pail : Mt P w K mg base CC 1 "take_pail" ["self"] (sp_p_Chain_take_pail K T CC)) (M_mark_from : Mt P w K mg base CC 2 "mark_from" ["self", "first"] (sp_p_Chain_mark_from K T CC)) (M_next_leaver : Mt P w K mg base CC 1 "next_leaver" ["self"] (sp_p_Chain_next_leaver K T CC)) : FnOk P w K mg base CX0 3 f fd ["self"] (sp_p_Chain_turn K T CC) := by
  refine F.ok sc_p_Chain_turn (fun vs H Q E h => ?_) (fun cdv A outer s H vs Q E hr h => ?_)
  · obtain ⟨c, A, s, rfl, _⟩ := h
    rfl
  · obtain ⟨c, A, s, rfl, h, ft, hne, q⟩ := h
    refine ⟨_, (pss_cons (ps_set (i := 1) sc_p_Chain_turn.nd rfl (.inl rfl) (pe_lst (pa_cons (pe_tup (pa_cons (pe_fc TC.cl (TC.no "now" (by decide +kernel)) (pv 0)) (pa_cons pe_str (pa_cons (pe_ix ix_list (pe_fc TC.cl (TC.no "loads" (by decide +kernel)) (pv 0)) (pe_un un_neg pe_int) (fun _ _ => rfl)) (pa_cons (pe_ix ix_list (pe_fc TC.cl (TC.no "row" (by decide +kernel)) (pv 0)) (pe_un un_neg pe_int) (fun _ _ => rfl)) pa_nil))))) pa_nil)))
      (pss_cons (ps_expr (pe_bm PySem.F.plainAttrs_list PySem.F.slot_list_append PySem.F.type_list_append mt_append (pe_fc TC.cl (TC.no "poured" (by decide +kernel)) (pv 0)) (pa_cons (pe_ix ix_list (pe_fc TC.cl (TC.no "loads" (by decide +kernel)) (pv 0)) (pe_un un_neg pe_int) (fun _ _ => rfl)) pa_nil)))
      (pss_cons (ps_set (i := 2) sc_p_Chain_turn.nd rfl (.inl rfl) (pe_mt0 M_next_leaver TC.cl (hr.mono (by decide)) (pv 0) ))
      (pss_cons (ps_if (pt_cmpR op_isN (pv 2) pe_non (nomark _)) (pss_cons (ps_expr (pe_mt M_mark_from TC.cl (hr.mono (by decide)) (pv 0) (pa_cons pe_int pa_nil)))
      (pss_one (ps_expr (pe_mt0 M_take_pail TC.cl (hr.mono (by decide)) (pv 0) )))) pss_never)
      (pss_cons (ps_expr (pe_bm0 PySem.F.plainAttrs_list PySem.F.slot_list_pop PySem.F.type_list_pop mt_pop (pe_fc TC.cl (TC.no "loads" (by decide +kernel)) (pv 0))))
      (pss_cons (ps_expr (pe_bm0 PySem.F.plainAttrs_list PySem.F.slot_list_pop PySem.F.type_list_pop mt_pop (pe_fc TC.cl (TC.no "spots" (by decide +kernel)) (pv 0))))
      (pss_one (ps_ret (pv 1))))))))), ?_⟩
    have n8 := ft.sd.n8
    have hr0 : 0 < s.row.length := List.length_pos_iff.mpr hne
    have ll := ft.sd.ll
    have ls := ft.sd.ls
    have el : s.loads.getD (s.loads.length - 1) 0 = s.loads.getD (s.row.length - 1) 0 := by rw [ll]
    refine ⟨_, rfl, c, _, _, _, rfl, h.ins, fl_nw, ?_⟩
    refine ⟨_, rfl, c, _, _, _, rfl, h.ins, fl_ld, 1, rfl, A.ld, _, _, _, rfl, rfl, SqL.of h.ld, last_ints (by omega), ?_⟩
    refine ⟨_, rfl, c, _, _, _, rfl, h.ins, fl_rw, 1, rfl, A.rw, _, _, _, rfl, rfl, SqL.of h.rw, last_strs hr0, by show 4 ≤ sizeLine; decide, fun t nt => ⟨by show 1 ≤ sizeLine; decide, fun p np => ?_⟩⟩
    rw [el] at np ⊢
    have u1 := same_upd (T := T) (o := .tup [.ref A.nw, .str "out", .int (s.loads.getD (s.row.length - 1) 0), .str (s.row.getD (s.row.length - 1) "")]) nt
    have u2 := same_upd (T := T) (o := .lst [.ref t]) np
    have s2 := u1.trans u2
    have h2 := h.sm s2
    have hp0 : H p = none := u1.free _ np
    have npo := h.new hp0
    have d2 := Dp.tup (K := K) (SqT.of (u2.k (b := t) (o := .tup [.ref A.nw, .str "out", .int (s.loads.getD (s.row.length - 1) 0), .str (s.row.getD (s.row.length - 1) "")]) upd_same)) (.cons (amD_dp h2.nw) (.cons (.str _) (.cons (.int _) (.cons (.str _) .nil))))
    have ep : upd (upd H t (.tup [.ref A.nw, .str "out", .int (s.loads.getD (s.row.length - 1) 0), .str (s.row.getD (s.row.length - 1) "")])) p (.lst [.ref t]) p = some (.lst [.ref t]) := upd_same
    generalize upd (upd H t (.tup [.ref A.nw, .str "out", .int (s.loads.getD (s.row.length - 1) 0), .str (s.row.getD (s.row.length - 1) "")])) p (.lst [.ref t]) = H2 at *
    refine ⟨_, rfl, c, _, _, _, rfl, h2.ins, fl_pr, .inl ⟨rfl, _, SqL.of h2.pr⟩, _, rfl, c, _, _, _, rfl, h2.ins, fl_ld, 1, rfl, A.ld, _, _, _, rfl, rfl, SqL.of h2.ld, last_ints (by omega), A.pr, _, _, rfl, rfl, h2.pr, by rw [List.length_map]; exact szl (by have := ft.pl; omega), ?_⟩
    rw [el]
    have h3 := h2.set_pr (s.poured ++ [s.loads.getD (s.row.length - 1) 0])
    have e3 : s.poured.map V.int ++ [.int (s.loads.getD (s.row.length - 1) 0)] = (s.poured ++ [s.loads.getD (s.row.length - 1) 0]).map V.int := by rw [List.map_append]; rfl
    rw [e3]
    have x3 : Sx T (ownC c A) H2 _ := sx_upd (o := .lst ((s.poured ++ [s.loads.getD (s.row.length - 1) 0]).map V.int)) h2.pr rfl (by simp [ownC])
    refine ⟨_, rfl, c, _, _, rfl, h3.ins, fl_no (by decide +kernel), c, A, _, rfl, h3, ft.lv, n8, ?_⟩
    try dsimp only [gName]
    refine seq_if (fun σ' H4 => Sx T (ownC c A) H2 H4 ∧ ChAt K CC H4 c A (takeS (markN { s with poured := s.poured ++ [s.loads.getD (s.row.length - 1) 0] } s.row.length)) ∧ ∃ x2, σ' = [some (.ref c), some (.ref p), x2]) (fun σ' H4 pp => ?_) (fun k => ?_)
    · obtain ⟨x4, h4, x2, rfl⟩ := pp
      have em := markN_row { s with poured := s.poured ++ [s.loads.getD (s.row.length - 1) 0] } s.row.length
      generalize hm : takeS (markN { s with poured := s.poured ++ [s.loads.getD (s.row.length - 1) 0] } s.row.length) = m at *
      have lml : m.loads.length = s.row.length + 1 := by
        rw [← hm]
        show ((_ : Int) :: _).length = _
        rw [List.length_cons, em.2.1]
        exact congrArg (· + 1) ll
      have lms : m.spots.length = s.row.length + 1 := by
        rw [← hm]
        show ((0 : Rat) :: _).length = _
        rw [List.length_cons, em.2.2.1]
        exact congrArg (· + 1) ls
      have e5 : (m.loads.map V.int)[(m.loads.map V.int).length - 1]? = some (.int (m.loads.getD (m.loads.length - 1) 0)) := by rw [List.length_map, List.getElem?_map, last_at (by omega)]; rfl
      refine ⟨_, rfl, c, _, _, _, rfl, h4.ins, fl_ld, .inl ⟨rfl, _, SqL.of h4.ld⟩, A.ld, _, _, rfl, rfl, h4.ld, e5, ?_⟩
      have h5 := h4.set_ld m.loads.dropLast
      have e6 : (m.loads.map V.int).dropLast = m.loads.dropLast.map V.int := by rw [List.map_dropLast]
      rw [e6]
      have x5 := x4.step (sx_upd (o := .lst (m.loads.dropLast.map V.int)) h4.ld rfl (by simp [ownC]))
      obtain ⟨ps, p1, p2⟩ := h5.sp
      have lps := p2.len
      have lps' : ps.length = s.row.length + 1 := by rw [lps]; exact lms
      refine ⟨_, rfl, c, _, _, _, rfl, h5.ins, fl_sp, .inl ⟨rfl, _, SqL.of p1⟩, A.sp, ps, _, rfl, rfl, p1, last_at (d := V.non) (by omega), ?_⟩
      have h6 := h5.set_sp p2.dropLast
      have x6 := x5.step (sx_upd (o := .lst ps.dropLast) p1 rfl (by simp [ownC]))
      refine ⟨_, rfl, q p _ t (s2.sx.step x6) ?_ hp0 (x6.lst ep npo) (x6.dp 3 _ _ rfl d2)⟩
      have et : turnS s = { m with loads := m.loads.dropLast, spots := m.spots.dropLast } := by
        unfold turnS
        rw [hm]
      rw [et]
      exact h6
    · refine ⟨_, rfl, rfl, _, rfl, iteT ?_⟩
      have sd3 : Side { s with poured := s.poured ++ [s.loads.getD (s.row.length - 1) 0] } := ⟨ft.sd.ll, ft.sd.ls, ft.sd.n8, ft.sd.ld⟩
      refine ⟨_, rfl, c, _, _, rfl, h3.ins, fl_no (by decide +kernel), c, A, _, rfl, h3, sd3, fun m hm => by have := ft.mm m hm; omega, fun H4 x4 h4 => ?_⟩
      have em := markN_row { s with poured := s.poured ++ [s.loads.getD (s.row.length - 1) 0] } s.row.length
      have e1 := em.2.2.2.2.2.2.2.2.2.2
      refine ⟨_, rfl, c, _, _, rfl, h4.ins, fl_no (by decide +kernel), c, A, _, rfl, h4, ⟨?_, ?_, ?_⟩, fun H5 x5 h5 => k _ _ ⟨(x3.step x4).step x5, h5, _, rfl⟩⟩
      · have : s.marks.length < 4000 := ft.ml
        show (markN _ _).marks.length < _
        rw [e1]
        show s.marks.length < _
        omega
      · show (markN _ _).loads.length < _
        rw [em.2.1]
        show s.loads.length < _
        omega
      · show (markN _ _).spots.length < _
        rw [em.2.2.1]
        show s.spots.length < _
        omega

/-- turns, one behind another -/
inductive Tn (s : Ch) : Ch → List Rw → Prop
  | refl : Tn s s []
  | step {s' : Ch} {rows : List Rw} (h : Tn s s' rows) (hne : s'.row ≠ []) (hl : s'.spots.getD (s'.row.length - 1) 0 = (s'.fire : Rat)) : Tn s (turnS s') (rows ++ [rowS s'])
theorem turnS_row (s : Ch) : (turnS s).row = s.row ∧ (turnS s).tempos = s.tempos ∧ (turnS s).leaving = s.leaving ∧ (turnS s).ledgers = s.ledgers ∧ (turnS s).now = s.now ∧ (turnS s).fire = s.fire ∧ (turnS s).way = s.way := by
  have em := markN_row { s with poured := s.poured ++ [s.loads.getD (s.row.length - 1) 0] } s.row.length
  exact ⟨em.1, em.2.2.2.1, em.2.2.2.2.1, em.2.2.2.2.2.1, em.2.2.2.2.2.2.2.1, em.2.2.2.2.2.2.2.2.1, em.2.2.2.2.2.2.2.2.2.1⟩
theorem turnS_pour (s : Ch) : (turnS s).poured = s.poured ++ [s.loads.getD (s.row.length - 1) 0] ∧ (turnS s).marks.length = s.marks.length + 1 ∧ (turnS s).spots = ((0 : Rat) :: s.spots).dropLast ∧ (turnS s).loads = ((s.marks.length : Int) :: s.loads).dropLast := by
  have em := markN_row { s with poured := s.poured ++ [s.loads.getD (s.row.length - 1) 0] } s.row.length
  have e1 := em.2.2.2.2.2.2.2.2.2.2
  refine ⟨em.2.2.2.2.2.2.1, ?_, ?_, ?_⟩
  · show ((markN _ _).marks ++ [[]]).length = _
    rw [List.length_append, e1]
    rfl
  · show ((0 : Rat) :: (markN _ _).spots).dropLast = _
    rw [em.2.2.1]
  · show (((markN _ _).marks.length : Int) :: (markN _ _).loads).dropLast = _
    rw [e1, em.2.1]
theorem turnS_side {s : Ch} (h : Side s) : Side (turnS s) := by
  obtain ⟨e1, _⟩ := turnS_row s
  obtain ⟨_, f2, f3, f4⟩ := turnS_pour s
  refine ⟨?_, ?_, by rw [e1]; exact h.n8, fun l hl => ?_⟩
  · rw [f4, e1, List.length_dropLast, List.length_cons, h.ll]; rfl
  · rw [f3, e1, List.length_dropLast, List.length_cons, h.ls]; rfl
  · rw [f4] at hl
    rw [f2]
    rcases List.mem_cons.mp ((List.dropLast_sublist _).subset hl) with z | z
    · rw [z]; omega
    · have := h.ld l z; omega
theorem turnS_mm {s : Ch} {b : Nat} (h : ∀ m ∈ s.marks, m.length ≤ b) (n8 : s.row.length ≤ 8) : ∀ m ∈ (turnS s).marks, m.length ≤ b + 8 := fun m hm => by
  have hm' : m ∈ (markN { s with poured := s.poured ++ [s.loads.getD (s.row.length - 1) 0] } s.row.length).marks ++ [[]] := hm
  rcases List.mem_append.mp hm' with z | z
  · have := markN_len (s := { s with poured := s.poured ++ [s.loads.getD (s.row.length - 1) 0] }) (b := b) h s.row.length m z
    omega
  · rw [List.mem_singleton.mp z]
    exact Nat.zero_le _
def cntF (s : Ch) : Nat := s.spots.countP fun x => decide (x = (s.fire : Rat))
theorem cnt_turn {s : Ch} (h : Side s) (hne : s.row ≠ []) (hl : s.spots.getD (s.row.length - 1) 0 = (s.fire : Rat)) (hf : 1 ≤ s.fire) : cntF (turnS s) + 1 = cntF s := by
  obtain ⟨_, _, _, _, _, e6, _⟩ := turnS_row s
  obtain ⟨_, _, f3, _⟩ := turnS_pour s
  have hr : 0 < s.row.length := List.length_pos_iff.mpr hne
  have hls := h.ls
  have hsn : s.spots ≠ [] := fun z => by rw [z] at hls; simp at hls; omega
  have e0 : s.spots = s.spots.dropLast ++ [s.spots.getD (s.row.length - 1) 0] := by
    have := (List.dropLast_concat_getLast hsn).symm
    rw [List.getLast_eq_getElem] at this
    rw [getD_lt (show s.row.length - 1 < s.spots.length by omega)]
    simp only [hls] at this
    exact this
  unfold cntF
  rw [f3, e6]
  have e1 : ((0 : Rat) :: s.spots).dropLast = 0 :: s.spots.dropLast := by
    cases hs : s.spots with
    | nil => exact absurd hs hsn
    | cons a l => rfl
  rw [e1, List.countP_cons]
  have z0 : decide ((0 : Rat) = (s.fire : Rat)) = false := decide_eq_false fun z => by
    have : (0 : Rat) < (s.fire : Rat) := cp (by omega)
    rw [← z] at this
    exact absurd this (by decide)
  rw [z0]
  conv => rhs; rw [e0]
  rw [List.countP_append, hl, List.countP_cons, List.countP_nil, decide_eq_true rfl]
  rfl
/-- fit for turns -/
structure Fit2 (s : Ch) : Prop where
  sd : Side s
  lv : s.leaving = []
  f1 : 1 ≤ s.fire
  ml : s.marks.length < 3900
  mm : ∀ m ∈ s.marks, m.length ≤ 2800
  pl : s.poured.length < 3900
def sp_p_Chain_turns (K : PySem.W.Frag) (T : Tb) (CC : Addr) : Sp := fun vs H Q _ => ∃ (c : Addr) (A : Ad) (s : Ch), vs = [.ref c] ∧ ChAt K CC H c A s ∧ Fit2 s ∧
  ∀ p H' us s' rows, Sx T (ownC c A) H H' → ChAt K CC H' c A s' → Tn s s' rows → rows.length ≤ 8 → (s'.row ≠ [] → s'.spots.getD (s'.row.length - 1) 0 ≠ (s'.fire : Rat)) → H p = none → H' p = some (.lst us) → DpAll K H' us (rows.map rowD) → Q (.ref p) H'
theorem tn_facts {s s' : Ch} {rows : List Rw} (h : Fit2 s) (t : Tn s s' rows) : Side s' ∧ s'.leaving = [] ∧ s'.fire = s.fire ∧ s'.row = s.row ∧ s'.marks.length = s.marks.length + rows.length ∧ (∀ m ∈ s'.marks, m.length ≤ 2800 + 8 * rows.length) ∧ s'.poured.length = s.poured.length + rows.length ∧ cntF s' + rows.length = cntF s := by
  induction t with
  | refl => exact ⟨h.sd, h.lv, rfl, rfl, rfl, h.mm, rfl, rfl⟩
  | step t hne hl ih =>
    rename_i s1 rows1
    obtain ⟨i1, i2, i3, i4, i5, i6, i7, i8⟩ := ih
    obtain ⟨e1, e2, e3, e4, e5, e6, e7⟩ := turnS_row s1
    obtain ⟨f1, f2, f3, f4⟩ := turnS_pour s1
    have lr : (rows1 ++ [rowS s1]).length = rows1.length + 1 := by rw [List.length_append]; rfl
    have c := cnt_turn i1 hne hl (by rw [i3]; exact h.f1)
    refine ⟨turnS_side i1, by rw [e3]; exact i2, by rw [e6]; exact i3, by rw [e1]; exact i4, by rw [f2, i5, lr]; omega, fun m hm => ?_, by rw [f1, List.length_append, i7, lr]; rfl, by rw [lr]; omega⟩
    have := turnS_mm i6 i1.n8 m hm
    rw [lr]
    omega
theorem ok_p_Chain_turns {f : Addr} {fd : FuncData} (F : Fun K "turns" "Chain.turns" s_p_Chain_turns f fd) {CC : Addr} (TC : Kl K CC) (M_turn : Mt P w K mg base CC 3 "turn" ["self"] (sp_p_Chain_turn K T CC)) : FnOk P w K mg base CX0 4 f fd ["self"] (sp_p_Chain_turns K T CC) := by
  refine F.ok sc_p_Chain_turns (fun vs H Q E h => ?_) (fun cdv A outer s H vs Q E hr h => ?_)
  · obtain ⟨c, A, s, rfl, _⟩ := h
    rfl
  · obtain ⟨c, A, s, rfl, h, ft, q⟩ := h
    refine ⟨_, (pss_cons (ps_set (i := 1) sc_p_Chain_turns.nd rfl (.inl rfl) (pe_lst pa_nil))
      (pss_cons (ps_while PassesOwn.never (PW.pt (pw_and (pt_truth (pe_fc TC.cl (TC.no "row" (by decide +kernel)) (pv 0)) (by intro _; rfl)) (pw_and1 (pt_cmpR (op_eqD hr.units) (pe_ix ix_list (pe_fc TC.cl (TC.no "spots" (by decide +kernel)) (pv 0)) (pe_un un_neg pe_int) (fun _ _ => rfl)) (pe_tup (pa_cons (pe_fc TC.cl (TC.no "fire" (by decide +kernel)) (pv 0)) (pa_cons pe_int pa_nil))) (nomark _))))) (pss_one (ps_expr (pe_bm PySem.F.plainAttrs_list PySem.F.slot_list_extend PySem.F.type_list_extend mt_extend (pv 1) (pa_cons (pe_mt0 M_turn TC.cl (hr.mono (by decide)) (pv 0) ) pa_nil)))))
      (pss_one (ps_ret (pv 1))))), ?_⟩
    have c8 : cntF s ≤ 8 := Nat.le_trans List.countP_le_length (by rw [ft.sd.ls]; exact ft.sd.n8)
    refine ⟨Nat.zero_le _, fun o no => ?_⟩
    have u0 := same_upd (T := T) (o := .lst []) no
    have noo := h.new no
    refine ⟨fun m σ H3 => ∃ s' rows us, m = cntF s' ∧ Tn s s' rows ∧ Sx T (ownC c A) H H3 ∧ ChAt K CC H3 c A s' ∧ σ = [some (.ref c), some (.ref o)] ∧ H3 o = some (.lst us) ∧ DpAll K H3 us (rows.map rowD), ⟨_, s, [], [], rfl, .refl, u0.sx, h.sm u0, rfl, upd_same, .nil⟩, ?_⟩
    rintro m σ H3 ⟨s', rows, us, rfl, t, x3, h3, rfl, eo, du⟩
    obtain ⟨i1, i2, i3, i4, i5, i6, i7, i8⟩ := tn_facts ft t
    have fin : ∀ H4, Sm T H3 H4 → (s'.row ≠ [] → s'.spots.getD (s'.row.length - 1) 0 ≠ (s'.fire : Rat)) → Q (.ref o) H4 := fun H4 s4 hn => q o H4 us s' rows (x3.sm' s4) (h3.sm s4) t (by omega) hn no (s4.k eo) (dpa_same s4 _ _ du)
    refine ⟨_, rfl, c, _, _, _, rfl, h3.ins, fl_rw, _, .inl ⟨_, SqL.of h3.rw, rfl⟩, ?_⟩
    by_cases hne : s'.row = []
    · rw [hne]
      exact iteF (iteF ⟨_, rfl, fin H3 Sm.refl fun z => absurd hne z⟩)
    · have hb : ((s'.row.map V.str).isEmpty) = false := by
        cases hs : s'.row with
        | nil => exact absurd hs hne
        | cons a l => rfl
      rw [hb]
      refine iteT ?_
      obtain ⟨ps, p1, p2⟩ := h3.sp
      have hr : 0 < s'.row.length := List.length_pos_iff.mpr hne
      have hls := i1.ls
      have lps := p2.len
      obtain ⟨bl, gl, ql⟩ := p2.at (i := s'.row.length - 1) (by omega)
      refine ⟨_, rfl, c, _, _, _, rfl, h3.ins, fl_sp, 1, rfl, A.sp, ps, _, .ref bl, rfl, rfl, SqL.of p1, at_neg1 (by omega) (by rw [lps, hls]; exact gl), ?_⟩
      refine ⟨_, rfl, c, _, _, _, rfl, h3.ins, fl_fire, by show 2 ≤ sizeLine; decide, fun tt ntt => ?_⟩
      have ut := same_upd (T := T) (o := .tup [.int s'.fire, .int 1]) ntt
      refine ⟨amD (am (s'.spots.getD (s'.row.length - 1) 0)), amD (s'.fire, 1), amD_dp (same_tup ut ql), amD_dp (x := (s'.fire, 1)) (SqT.of upd_same), shaped_am _, shaped_am (s'.fire, 1), _, rfl, ?_⟩
      rw [eqv_am]
      by_cases hl : s'.spots.getD (s'.row.length - 1) 0 = (s'.fire : Rat)
      · rw [decide_eq_true (by rw [hl, am_int])]
        refine iteT ⟨fun σ' H' => ∃ m', m' < cntF s' ∧ ∃ s2 rows us, m' = cntF s2 ∧ Tn s s2 rows ∧ Sx T (ownC c A) H H' ∧ ChAt K CC H' c A s2 ∧ σ' = [some (.ref c), some (.ref o)] ∧ H' o = some (.lst us) ∧ DpAll K H' us (rows.map rowD), fun _ _ z => z, ?_⟩
        have h4 := h3.sm ut
        have eo4 := ut.k eo
        have c' := cnt_turn i1 hne hl (by rw [i3]; exact ft.f1)
        refine ⟨_, rfl, .inl ⟨rfl, _, SqL.of eo4⟩, _, rfl, c, _, _, rfl, h4.ins, fl_no (by decide +kernel), c, A, s', rfl, h4, ⟨i1, i2, by have := ft.ml; omega, fun m hm => by have := i6 m hm; omega, by have := ft.pl; omega⟩, hne, fun p H5 t5 x5 h5 np ep dp => ?_⟩
        have eo5 := x5.lst eo4 noo
        have lus : us.length = rows.length := by rw [dpa_len du, List.length_map]
        refine ⟨o, p, us, [.ref t5], rfl, rfl, eo5, ep, sz (by show _ + 1 ≤ _; omega), ?_⟩
        have xo : Sx T [o] H5 (upd H5 o (.lst (us ++ [.ref t5]))) := sx_upd eo5 rfl List.mem_cons_self
        have h6 := h5.sx xo fun y hy z => noo (by rw [← List.mem_singleton.mp z]; exact hy)
        refine ⟨_, by omega, turnS s', rows ++ [rowS s'], us ++ [.ref t5], rfl, .step t hne hl, ?_, h6, rfl, upd_same, ?_⟩
        · refine ((x3.sm' ut).step x5).trans xo fun y hy => .inr ?_
          rw [List.mem_singleton.mp hy]
          exact no
        · rw [List.map_append]
          exact xo.dps 3 _ _ (by rw [List.all_append, noL_rows, Bool.true_and]; rfl) (dpa_app (x5.dps 3 _ _ (noL_rows _) (dpa_same ut _ _ du)) (.cons dp .nil))
      · rw [decide_eq_false (fun z => hl (am_inj (z.trans (am_int _).symm)))]
        exact iteF ⟨_, rfl, fin _ ut fun _ => hl⟩

def wOk (q : Am) : Bool := (decide (1 ≤ q.1) && decide (q.1 ≤ 9)) && (decide (1 ≤ q.2) && decide (q.2 ≤ 9))
def wayB (qs : List Am) : Bool := (decide (1 ≤ qs.length) && decide (qs.length ≤ 6)) && qs.all wOk
def labourM (qs : List Am) : Int := (qs.map fun (q : Int × Int) => q.1 * q.2).sum
def stepsM (qs : List Am) : Int := (qs.map fun (q : Int × Int) => q.1).sum
theorem wOk_b {q : Am} (h : wOk q = true) : 1 ≤ q.1 ∧ q.1 ≤ 9 ∧ 1 ≤ q.2 ∧ q.2 ≤ 9 := by
  unfold wOk at h
  simp only [Bool.and_eq_true, decide_eq_true_eq] at h
  exact ⟨h.1.1, h.1.2, h.2.1, h.2.2⟩
theorem wayB_b {qs : List Am} (h : wayB qs = true) : 1 ≤ qs.length ∧ qs.length ≤ 6 ∧ ∀ q ∈ qs, 1 ≤ q.1 ∧ q.1 ≤ 9 ∧ 1 ≤ q.2 ∧ q.2 ≤ 9 := by
  unfold wayB at h
  simp only [Bool.and_eq_true, decide_eq_true_eq, List.all_eq_true] at h
  exact ⟨h.1.1, h.1.2, fun q hq => wOk_b (h.2 q hq)⟩
theorem sum_bd {c : Int} (hc : 0 ≤ c) : ∀ (l : List Int), (∀ z ∈ l, 0 ≤ z ∧ z ≤ c) → 0 ≤ l.sum ∧ l.sum ≤ c * (l.length : Int)
  | [], _ => by simp
  | z :: l, h => by
    have i := sum_bd hc l fun y hy => h y (List.mem_cons_of_mem _ hy)
    have j := h z List.mem_cons_self
    rw [List.sum_cons, List.length_cons]
    have e : c * ((l.length + 1 : Nat) : Int) = c * (l.length : Int) + c := by rw [Int.natCast_add, Int.mul_add]; simp
    rw [e]
    omega
theorem long_of {l : List Int} (h : ∀ z ∈ l, 0 ≤ z ∧ z ≤ 81) (hl : l.length ≤ 6) : ∀ j, j < l.length → InLong (l.getD j 0) ∧ InLong ((l.take (j + 1)).sum) := fun j hj => by
  constructor
  · rw [List.getD_eq_getElem?_getD, List.getElem?_eq_getElem hj]
    have := h _ (List.getElem_mem hj)
    show -(2 ^ 63) ≤ l[j] ∧ l[j] < 2 ^ 63
    omega
  · have s := sum_bd (c := 81) (by decide) (l.take (j + 1)) fun z hz => h z (List.mem_of_mem_take hz)
    have : ((l.take (j + 1)).length : Int) ≤ 6 := by rw [List.length_take]; omega
    show -(2 ^ 63) ≤ (l.take (j + 1)).sum ∧ (l.take (j + 1)).sum < 2 ^ 63
    omega
theorem pairs_of {K : PySem.W.Frag} {H : Hp} {a : Addr} {vs : List V} {qs : List Am} (hS : SqL K H a vs) (hd : DpAll K H vs (qs.map amD)) : Pairs K H a qs := by
  refine ⟨vs, hS, ?_, fun i p e => ?_⟩
  · rw [dpa_len hd, List.length_map]
  · obtain ⟨v, e1, e2⟩ := dpa_get hd (i := i) (d := amD p) (by rw [List.getElem?_map, e]; rfl)
    obtain ⟨b, rfl, hb⟩ := pd_at e2
    exact ⟨b, e1, hb⟩
def sp_p_is_stretch (K : PySem.W.Frag) (T : Tb) : Sp := fun vs H Q _ => ∃ b q, vs = [.ref b] ∧ SqT K H b (tv q) ∧ Ok T H ∧ ∀ H', Sm T H H' → Q (.bl (wOk q)) H'
theorem ok_p_is_stretch {f : Addr} {fd : FuncData} {u_MOST_STEPS_OR_TOIL : Value} {c PT : Addr} (F : FunC K "is_stretch" "is_stretch" s_p_is_stretch f fd c) (hnT : (T.map (·.1)).Nodup) (hPT : (PT, (none : Option Str)) ∈ T) (TB : GxR.TabB base mg c PT) (B : Bn mg) (C_MOST_STEPS_OR_TOIL : RelV (.int 9) u_MOST_STEPS_OR_TOIL ∧ mg "MOST_STEPS_OR_TOIL" = some u_MOST_STEPS_OR_TOIL) {fW fN : Addr} (Wt : WithAt K fW) (kW : PySem.W.keepIn K (.ref fW) = true) (gW : mg "is_within" = some (.ref fW)) (N : NumAt K fN) (kN : PySem.W.keepIn K (.ref fN) = true) (gN : mg "is_number" = some (.ref fN)) : FnOk P w K mg base CX0 1 f fd ["thing"] (sp_p_is_stretch K T) := by
  obtain ⟨⟨tM, rfl⟩, gM⟩ := C_MOST_STEPS_OR_TOIL
  refine F.ok sc_p_is_stretch (fun vs H Q E h => ?_) (fun A outer s H vs Q E hr h => ?_)
  · obtain ⟨b, q, rfl, _⟩ := h
    rfl
  · obtain ⟨b, q, rfl, hS, hok, k⟩ := h
    refine ⟨_, (pss_cons (ps_if (PW.pt (pw_or (pt_not (pt_val (pe_callB call_isi (by rfl) B.isinstance_ (by decide +kernel) (pa_cons (pv 0) (pa_cons (pe_bltn (v := .ty "tuple") (by rfl) B.tuple_ (by decide +kernel) rfl) pa_nil))))) (pw_or1 (pt_cmpR op_ne (pe_callB call_len_seq (by rfl) B.len_ (by decide +kernel) (pa_cons (pv 0) pa_nil)) pe_int (nomark _))))) (pss_one (ps_ret pe_bl)) pss_nil)
      (pss_one (ps_ret (pe_allI hnT hPT hr (by rfl) B.all_ (by decide +kernel) TB rfl (gens_by (by decide +kernel)) (pv 0) (elt_num hr Wt kW gW N kN gN gM rfl B.isinstance_ B.int_ B.bool_ rfl rfl rfl rfl) (fun _ => rfl))))), ?_⟩
    refine ⟨_, rfl, _, _, _, _, true, rfl, .ty "tuple", tyx_of (amD_dp hS), kit_ty kb_tuple_tuple, _, rfl, iteF ?_⟩
    refine ⟨_, rfl, b, _, rfl, .inr hS, rfl, _, rfl, iteF ?_⟩
    refine ⟨_, rfl, b, [q.1, q.2], rfl, hS, hok _ hPT, hok, fun H2 s2 => ?_⟩
    have e : ([q.1, q.2].all fun i => decide (1 ≤ i) && decide (i ≤ 9)) = wOk q := by
      unfold wOk
      rw [List.all_cons, List.all_cons, List.all_nil, Bool.and_true]
    rw [e]
    exact k H2 s2
def sp_p_check_way (K : PySem.W.Frag) (T : Tb) (CP : Addr) : Sp := fun vs H Q E => ∃ a us qs, vs = [.ref a] ∧ SqL K H a us ∧ DpAll K H us (qs.map amD) ∧ qs.length ≤ 1000 ∧ Ok T H ∧ (wayB qs = true → ∀ H', Sm T H H' → Q .non H') ∧
  (wayB qs = false → ∀ cls d H', Sm T H H' → Rf K CP "bad way" cls d H' → E cls d H')
theorem ok_p_check_way {f : Addr} {fd : FuncData} {u_MOST_STRETCHES : Value} (F : Fun K "check_way" "check_way" s_p_check_way f fd) (B : Bn mg) (C_MOST_STRETCHES : RelV (.int 6) u_MOST_STRETCHES ∧ mg "MOST_STRETCHES" = some u_MOST_STRETCHES) {CP : Addr} (R_BadWay : Err P w K mg base CP "BadWay" "bad way") (F_p_is_stretch : Fn P w K mg base 1 "is_stretch" ["thing"] (sp_p_is_stretch K T)) : FnOk P w K mg base (L2.CX P w) 4 f fd ["way"] (sp_p_check_way K T CP) := by
  refine F.okX sc_p_check_way (fun vs H Q E h => ?_) (fun cdv A outer s H vs Q E hr h => ?_)
  · obtain ⟨a, us, qs, rfl, _⟩ := h
    rfl
  · obtain ⟨a, us, qs, rfl, hS, hd, hl, hok, k1, k2⟩ := h
    obtain ⟨⟨tM, rfl⟩, gM⟩ := id C_MOST_STRETCHES
    refine ⟨_, (pss_cons (ps_if (pt_not (pt_chain op_le op_le pe_int (pe_callB call_len_seq (by rfl) B.len_ (by decide +kernel) (pa_cons (pv 0) pa_nil)) (pe_glob (by rfl) C_MOST_STRETCHES.2 C_MOST_STRETCHES.1))) (pss_one (ps_raise rfl (takes_of rfl rfl rfl rfl) (pmk_err R_BadWay (hr.mono (by decide)) (by rfl)))) pss_nil)
      (pss_one (ps_for (passes_of rfl) rfl (pi_list (pv 0)) (pg_name (i := 1) sc_p_check_way.nd rfl (.inl rfl))
      (pss_one (ps_if (pt_not (pt_val (pe_fn F_p_is_stretch (hr.mono (by decide)) (pa_cons (pv 1) pa_nil)))) (pss_one (ps_raise rfl (takes_of rfl rfl rfl rfl) (pmk_err R_BadWay (hr.mono (by decide)) (by rfl)))) pss_nil))))), ?_⟩
    have el : us.length = qs.length := by rw [dpa_len hd, List.length_map]
    have bad : wayB qs = false → ∀ (H1 : Hp), Sm T H H1 → tErr K CP "bad way" [] H1 (fun cls d H' => E cls d H') := fun hb H1 s1 cls dd hn rf => k2 hb cls (some dd) _ (s1.trans (same_upd hn)) rf
    refine ⟨_, rfl, a, us, rfl, .inl hS, _, _, rfl, rfl, _, rfl, ?_⟩
    by_cases h1 : (1 : Int) ≤ (us.length : Int)
    · rw [decide_eq_true h1]
      refine iteT ?_
      refine ⟨_, _, rfl, rfl, _, rfl, ?_⟩
      by_cases h2 : (us.length : Int) ≤ 6
      · rw [decide_eq_true h2]
        refine iteF ?_
        refine ⟨_, rfl, a, rfl, ⟨_, hS⟩, for_list (K := K) (a := a) (xs := us) (fun i σ H3 => Sm T H H3 ∧ (qs.take i).all wOk = true ∧ ∃ x, σ = [some (.ref a), x]) ⟨Sm.refl, by rw [List.take_zero]; rfl, _, rfl⟩ (fun i σ H3 _ ⟨s3, _⟩ => s3.seq hS) ?_ ?_⟩
        · rintro i v σ H3 hi ⟨s3, ha, x, rfl⟩
          have hil : i < qs.length := by rw [← el]; exact (List.getElem?_eq_some_iff.mp hi).1
          obtain ⟨v', e1, e2⟩ := dpa_get hd (i := i) (d := amD qs[i]) (by rw [List.getElem?_map, List.getElem?_eq_getElem hil]; rfl)
          rw [hi] at e1
          cases e1
          obtain ⟨b, rfl, hb⟩ := pd_at e2
          refine ⟨_, rfl, b, qs[i], rfl, same_tup s3 hb, s3.ok hok, fun H4 s4 => ⟨_, rfl, ?_⟩⟩
          cases hw : wOk qs[i] with
          | true =>
            refine iteF ?_
            refine ⟨s3.trans s4, ?_, _, rfl⟩
            rw [List.take_add_one, List.all_append, ha, List.getElem?_eq_getElem hil]
            show (true && ([qs[i]].all wOk)) = true
            rw [List.all_cons, hw]
            rfl
          | false =>
            refine iteT ?_
            refine bad ?_ H4 (s3.trans s4)
            unfold wayB
            rw [Bool.and_eq_false_iff]
            refine .inr ?_
            rw [List.all_eq_false]
            exact ⟨_, List.getElem_mem hil, by rw [hw]; decide⟩
        · rintro σ H3 ⟨s3, ha, x, rfl⟩
          refine k1 ?_ H3 s3
          rw [el, List.take_length] at ha
          unfold wayB
          rw [ha, Bool.and_true, Bool.and_eq_true]
          exact ⟨decide_eq_true (by omega), decide_eq_true (by omega)⟩
      · rw [decide_eq_false h2]
        refine iteT ?_
        refine bad ?_ H Sm.refl
        unfold wayB
        rw [Bool.and_eq_false_iff, Bool.and_eq_false_iff]
        exact .inl (.inr (decide_eq_false (by omega)))
    · rw [decide_eq_false h1]
      refine iteF ?_
      refine ⟨_, rfl, iteT ?_⟩
      refine bad ?_ H Sm.refl
      unfold wayB
      rw [Bool.and_eq_false_iff, Bool.and_eq_false_iff]
      exact .inl (.inl (decide_eq_false (by omega)))
def sp_p_labour (K : PySem.W.Frag) (T : Tb) (CP : Addr) : Sp := fun vs H Q E => ∃ a us qs, vs = [.ref a] ∧ SqL K H a us ∧ DpAll K H us (qs.map amD) ∧ qs.length ≤ 1000 ∧ Ok T H ∧ (wayB qs = true → ∀ H', Sm T H H' → Q (.int (labourM qs)) H') ∧
  (wayB qs = false → ∀ cls d H', Sm T H H' → Rf K CP "bad way" cls d H' → E cls d H')
theorem ok_p_labour {f : Addr} {fd : FuncData} {c PT : Addr} (F : FunC K "labour" "labour" s_p_labour f fd c) (hnT : (T.map (·.1)).Nodup) (hPT : (PT, (none : Option Str)) ∈ T) (TB : GxR.TabB base mg c PT) (B : Bn mg) {CP : Addr} (F_p_check_way : Fx P w K mg base 4 "check_way" ["way"] (sp_p_check_way K T CP)) : FnOk P w K mg base (L2.CX P w) 5 f fd ["way"] (sp_p_labour K T CP) := by
  refine F.okX sc_p_labour (fun vs H Q E h => ?_) (fun A outer s H vs Q E hr h => ?_)
  · obtain ⟨a, us, qs, rfl, _⟩ := h
    rfl
  · obtain ⟨a, us, qs, rfl, hS, hd, hl, hok, k1, k2⟩ := h
    refine ⟨_, (pss_cons (ps_expr (pe_fx F_p_check_way (hr.mono (by decide)) (takes_of rfl rfl rfl rfl) (pa_cons (pv 0) pa_nil)))
      (pss_one (ps_ret (pe_sumP hnT hPT hr (by rfl) B.sum_ (by decide +kernel) TB rfl (gens_by (by decide +kernel)) rfl (by decide) (pv 0) (elt_mul rfl rfl rfl) (fun _ => rfl))))), ?_⟩
    refine ⟨_, rfl, a, us, qs, rfl, hS, hd, hl, hok, fun hw H1 s1 => ?_, k2⟩
    have hb := wayB_b hw
    refine ⟨_, rfl, a, qs, rfl, (pairs_of hS hd).keep s1, fun q hq => by have := hb.2.2 q hq; omega, s1.ok hok _ hPT, ⟨s1.ok hok, ?_⟩, fun H2 s2 => k1 hw H2 (s1.trans s2)⟩
    have := long_of (l := qs.map fun (q : Int × Int) => q.1 * q.2) (fun z hz => ?_) (by rw [List.length_map]; exact hb.2.1)
    · rw [List.length_map] at this
      exact this
    · obtain ⟨q, hq, rfl⟩ := List.mem_map.mp hz
      have c := hb.2.2 q hq
      exact ⟨Int.mul_nonneg (by omega) (by omega), (Int.mul_le_mul c.2.1 c.2.2.2 (by omega) (by omega) : q.1 * q.2 ≤ 9 * 9)⟩

theorem pairs_ofT {K : PySem.W.Frag} {H : Hp} {a : Addr} {vs : List V} {qs : List Am} (hS : SqT K H a vs) (hd : DpAll K H vs (qs.map amD)) : PairsT K H a qs := by
  refine ⟨vs, hS, by rw [dpa_len hd, List.length_map], fun i p e => ?_⟩
  obtain ⟨v, e1, e2⟩ := dpa_get hd (i := i) (d := amD p) (by rw [List.getElem?_map, e]; rfl)
  obtain ⟨b, rfl, hb⟩ := pd_at e2
  exact ⟨b, e1, hb⟩
def sp_p_check_way_t (K : PySem.W.Frag) (T : Tb) (CP : Addr) : Sp := fun vs H Q E => ∃ a us qs, vs = [.ref a] ∧ SqT K H a us ∧ DpAll K H us (qs.map amD) ∧ qs.length ≤ 1000 ∧ Ok T H ∧ (wayB qs = true → ∀ H', Sm T H H' → Q .non H') ∧
  (wayB qs = false → ∀ cls d H', Sm T H H' → Rf K CP "bad way" cls d H' → E cls d H')
theorem ok_p_check_way_t {f : Addr} {fd : FuncData} {u_MOST_STRETCHES : Value} (F : Fun K "check_way" "check_way" s_p_check_way_t f fd) (B : Bn mg) (C_MOST_STRETCHES : RelV (.int 6) u_MOST_STRETCHES ∧ mg "MOST_STRETCHES" = some u_MOST_STRETCHES) {CP : Addr} (R_BadWay : Err P w K mg base CP "BadWay" "bad way") (F_p_is_stretch : Fn P w K mg base 1 "is_stretch" ["thing"] (sp_p_is_stretch K T)) : FnOk P w K mg base (L2.CX P w) 4 f fd ["way"] (sp_p_check_way_t K T CP) := by
  refine F.okX sc_p_check_way_t (fun vs H Q E h => ?_) (fun cdv A outer s H vs Q E hr h => ?_)
  · obtain ⟨a, us, qs, rfl, _⟩ := h
    rfl
  · obtain ⟨a, us, qs, rfl, hS, hd, hl, hok, k1, k2⟩ := h
    obtain ⟨⟨tM, rfl⟩, gM⟩ := id C_MOST_STRETCHES
    refine ⟨_, (pss_cons (ps_if (pt_not (pt_chain op_le op_le pe_int (pe_callB call_len_seq (by rfl) B.len_ (by decide +kernel) (pa_cons (pv 0) pa_nil)) (pe_glob (by rfl) C_MOST_STRETCHES.2 C_MOST_STRETCHES.1))) (pss_one (ps_raise rfl (takes_of rfl rfl rfl rfl) (pmk_err R_BadWay (hr.mono (by decide)) (by rfl)))) pss_nil)
      (pss_one (ps_for (passes_of rfl) rfl (pi_tup (pv 0)) (pg_name (i := 1) sc_p_check_way_t.nd rfl (.inl rfl))
      (pss_one (ps_if (pt_not (pt_val (pe_fn F_p_is_stretch (hr.mono (by decide)) (pa_cons (pv 1) pa_nil)))) (pss_one (ps_raise rfl (takes_of rfl rfl rfl rfl) (pmk_err R_BadWay (hr.mono (by decide)) (by rfl)))) pss_nil))))), ?_⟩
    have el : us.length = qs.length := by rw [dpa_len hd, List.length_map]
    have bad : wayB qs = false → ∀ (H1 : Hp), Sm T H H1 → tErr K CP "bad way" [] H1 (fun cls d H' => E cls d H') := fun hb H1 s1 cls dd hn rf => k2 hb cls (some dd) _ (s1.trans (same_upd hn)) rf
    refine ⟨_, rfl, a, us, rfl, .inr hS, _, _, rfl, rfl, _, rfl, ?_⟩
    by_cases h1 : (1 : Int) ≤ (us.length : Int)
    · rw [decide_eq_true h1]
      refine iteT ?_
      refine ⟨_, _, rfl, rfl, _, rfl, ?_⟩
      by_cases h2 : (us.length : Int) ≤ 6
      · rw [decide_eq_true h2]
        refine iteF ?_
        refine ⟨_, rfl, a, rfl, ⟨_, hS⟩, for_it (walk_tup (K := K) (a := a) (xs := us)) (fun i σ H3 => Sm T H H3 ∧ (qs.take i).all wOk = true ∧ ∃ x, σ = [some (.ref a), x]) ⟨Sm.refl, by rw [List.take_zero]; rfl, _, rfl⟩ (fun i σ H3 _ ⟨s3, _⟩ => same_tup s3 hS) ?_ ?_⟩
        · rintro i v σ H2' H3 hi' ⟨s3, ha, x, rfl⟩ ⟨eH, hi⟩
          subst eH
          have hil : i < qs.length := by rw [← el]; exact (List.getElem?_eq_some_iff.mp hi).1
          obtain ⟨v', e1, e2⟩ := dpa_get hd (i := i) (d := amD qs[i]) (by rw [List.getElem?_map, List.getElem?_eq_getElem hil]; rfl)
          rw [hi] at e1
          cases e1
          obtain ⟨b, rfl, hb⟩ := pd_at e2
          refine ⟨_, rfl, b, qs[i], rfl, same_tup s3 hb, s3.ok hok, fun H4 s4 => ⟨_, rfl, ?_⟩⟩
          cases hw : wOk qs[i] with
          | true =>
            refine iteF ?_
            refine ⟨s3.trans s4, ?_, _, rfl⟩
            rw [List.take_add_one, List.all_append, ha, List.getElem?_eq_getElem hil]
            show (true && ([qs[i]].all wOk)) = true
            rw [List.all_cons, hw]
            rfl
          | false =>
            refine iteT ?_
            refine bad ?_ H4 (s3.trans s4)
            unfold wayB
            rw [Bool.and_eq_false_iff]
            refine .inr ?_
            rw [List.all_eq_false]
            exact ⟨_, List.getElem_mem hil, by rw [hw]; decide⟩
        · rintro σ H3 ⟨s3, ha, x, rfl⟩
          refine k1 ?_ H3 s3
          rw [el, List.take_length] at ha
          unfold wayB
          rw [ha, Bool.and_true, Bool.and_eq_true]
          exact ⟨decide_eq_true (by omega), decide_eq_true (by omega)⟩
      · rw [decide_eq_false h2]
        refine iteT ?_
        refine bad ?_ H Sm.refl
        unfold wayB
        rw [Bool.and_eq_false_iff, Bool.and_eq_false_iff]
        exact .inl (.inr (decide_eq_false (by omega)))
    · rw [decide_eq_false h1]
      refine iteF ?_
      refine ⟨_, rfl, iteT ?_⟩
      refine bad ?_ H Sm.refl
      unfold wayB
      rw [Bool.and_eq_false_iff, Bool.and_eq_false_iff]
      exact .inl (.inl (decide_eq_false (by omega)))
def sp_p_labour_t (K : PySem.W.Frag) (T : Tb) (CP : Addr) : Sp := fun vs H Q E => ∃ a us qs, vs = [.ref a] ∧ SqT K H a us ∧ DpAll K H us (qs.map amD) ∧ qs.length ≤ 1000 ∧ Ok T H ∧ (wayB qs = true → ∀ H', Sm T H H' → Q (.int (labourM qs)) H') ∧
  (wayB qs = false → ∀ cls d H', Sm T H H' → Rf K CP "bad way" cls d H' → E cls d H')
theorem ok_p_labour_t {f : Addr} {fd : FuncData} {c PT : Addr} (F : FunC K "labour" "labour" s_p_labour_t f fd c) (hnT : (T.map (·.1)).Nodup) (hPT : (PT, (none : Option Str)) ∈ T) (TB : GxR.TabB base mg c PT) (B : Bn mg) {CP : Addr} (F_p_check_way_t : Fx P w K mg base 4 "check_way" ["way"] (sp_p_check_way_t K T CP)) : FnOk P w K mg base (L2.CX P w) 5 f fd ["way"] (sp_p_labour_t K T CP) := by
  refine F.okX sc_p_labour_t (fun vs H Q E h => ?_) (fun A outer s H vs Q E hr h => ?_)
  · obtain ⟨a, us, qs, rfl, _⟩ := h
    rfl
  · obtain ⟨a, us, qs, rfl, hS, hd, hl, hok, k1, k2⟩ := h
    refine ⟨_, (pss_cons (ps_expr (pe_fx F_p_check_way_t (hr.mono (by decide)) (takes_of rfl rfl rfl rfl) (pa_cons (pv 0) pa_nil)))
      (pss_one (ps_ret (pe_sumPT hnT hPT hr (by rfl) B.sum_ (by decide +kernel) TB rfl (gens_by (by decide +kernel)) rfl (by decide) (pv 0) (elt_mul rfl rfl rfl) (fun _ => rfl))))), ?_⟩
    refine ⟨_, rfl, a, us, qs, rfl, hS, hd, hl, hok, fun hw H1 s1 => ?_, k2⟩
    have hb := wayB_b hw
    refine ⟨_, rfl, a, qs, rfl, (pairs_ofT hS hd).keep s1, fun q hq => by have := hb.2.2 q hq; omega, s1.ok hok _ hPT, ⟨s1.ok hok, ?_⟩, fun H2 s2 => k1 hw H2 (s1.trans s2)⟩
    have := long_of (l := qs.map fun (q : Int × Int) => q.1 * q.2) (fun z hz => ?_) (by rw [List.length_map]; exact hb.2.1)
    · rw [List.length_map] at this
      exact this
    · obtain ⟨q, hq, rfl⟩ := List.mem_map.mp hz
      have c := hb.2.2 q hq
      exact ⟨Int.mul_nonneg (by omega) (by omega), (Int.mul_le_mul c.2.1 c.2.2.2 (by omega) (by omega) : q.1 * q.2 ≤ 9 * 9)⟩

def newS (L : Int) (qs : List Am) : Ch := { fire := L, way := qs, now := 0, row := [], loads := [], spots := [], tempos := [], leaving := [], ledgers := [], marks := [], poured := [] }

def sp_init (sq : PySem.W.Frag → Hp → Addr → List V → Prop) (K : PySem.W.Frag) (T : Tb) (CP CC : Addr) : Sp := fun vs H Q E => ∃ (H0 : Hp) (c dx a : Addr) (us : List V) (qs : List Am), vs = [.ref c, .ref a] ∧ H = upd (upd H0 dx (.own c)) c (.ins CC dx []) ∧ H0 c = none ∧ H0 dx = none ∧ dx ≠ c ∧ sq K H0 a us ∧ DpAll K H0 us (qs.map amD) ∧ qs.length ≤ 1000 ∧ Ok T H0 ∧
  (wayB qs = true → ∀ H' A, Sm T H0 H' → ChAt K CC H' c A (newS (labourM qs) qs) → (∀ x ∈ ownC c A, H0 x = none) → Q .non H') ∧ (wayB qs = false → ∀ cls d H', Sm T H0 H' → Rf K CP "bad way" cls d H' → E cls d H')
abbrev sp_p_Chain___init__ : PySem.W.Frag → Tb → Addr → Addr → Sp := sp_init SqL
abbrev sp_p_Chain___init___t : PySem.W.Frag → Tb → Addr → Addr → Sp := sp_init SqT
/-- an instance that is being made -/
structure Mkg (T : Tb) (CC : Addr) (H0 H : Hp) (c dx : Addr) (fs : List (Str × V)) (L : List (Addr × HO)) : Prop where
  sm : Sm T H0 H
  ins : H c = some (.ins CC dx fs)
  own : H dx = some (.own c)
  at_ : ∀ x ∈ L, H x.1 = some x.2 ∧ H0 x.1 = none
  nd : (c :: L.map (·.1)).Nodup
theorem Mkg.val {T : Tb} {CC : Addr} {H0 H : Hp} {c dx : Addr} {fs : List (Str × V)} {L : List (Addr × HO)} (m : Mkg T CC H0 H c dx fs L) (nc : H0 c = none) (hd : dx ≠ c) (f : Str) (y : V) : Mkg T CC H0 (upd H c (.ins CC dx (putF f y fs))) c dx (putF f y fs) L := by
  refine ⟨⟨fun b o e n => ?_, fun hk q hq' => okP_mut2 (m.sm.ok hk q hq') m.ins rfl, fun l hl => ?_⟩, upd_same, by rw [upd_ne hd]; exact m.own, fun x hx => ?_, m.nd⟩
  · rw [upd_ne (fun z => by rw [z, nc] at e; cases e)]
    exact m.sm.keep b o e n
  · by_cases z : l = c
    · rw [z]; exact nc
    · rw [upd_ne z] at hl; exact m.sm.free l hl
  · have h := m.at_ x hx
    have hn : x.1 ≠ c := fun z => (List.nodup_cons.mp m.nd).1 (by rw [← z]; exact List.mem_map.mpr ⟨x, hx, rfl⟩)
    rw [upd_ne hn]
    exact h
theorem Mkg.sm' {T : Tb} {CC : Addr} {H0 H H' : Hp} {c dx : Addr} {fs : List (Str × V)} {L : List (Addr × HO)} (m : Mkg T CC H0 H c dx fs L) (s : Sm T H H') (hL : ∀ x ∈ L, nTbl x.2) : Mkg T CC H0 H' c dx fs L :=
  ⟨m.sm.trans s, s.k m.ins, s.k m.own, fun x hx => ⟨s.keep _ _ (m.at_ x hx).1 (hL x hx), (m.at_ x hx).2⟩, m.nd⟩
theorem Mkg.new {T : Tb} {CC : Addr} {H0 H : Hp} {c dx : Addr} {fs : List (Str × V)} {L : List (Addr × HO)} (m : Mkg T CC H0 H c dx fs L) (nc : H0 c = none) (hd : dx ≠ c) (f : Str) {p : Addr} {o : HO} (np : H p = none) (hL : ∀ x ∈ L, nTbl x.2) :
    Mkg T CC H0 (upd (upd H p o) c (.ins CC dx (putF f (.ref p) fs))) c dx (putF f (.ref p) fs) ((p, o) :: L) := by
  have u := same_upd (T := T) (o := o) np
  have m1 := m.sm' u hL
  have m2 : Mkg T CC H0 (upd H p o) c dx fs ((p, o) :: L) := by
    refine ⟨m1.sm, m1.ins, m1.own, fun x hx => ?_, ?_⟩
    · rcases List.mem_cons.mp hx with z | z
      · rw [z]; exact ⟨upd_same, m.sm.free _ np⟩
      · exact m1.at_ x z
    · rw [List.map_cons]
      have hpc : p ≠ c := fun z => by rw [z, m.ins] at np; cases np
      have hpL : p ∉ L.map (·.1) := fun z => by
        obtain ⟨x, hx, e⟩ := List.mem_map.mp z
        have := (m.at_ x hx).1
        rw [e, np] at this
        cases this
      have nd := List.nodup_cons.mp m.nd
      exact List.nodup_cons.mpr ⟨fun z => (List.mem_cons.mp z).elim (fun e => hpc e.symm) nd.1, List.nodup_cons.mpr ⟨hpL, nd.2⟩⟩
  exact m2.val nc hd f (.ref p)
theorem nt1 {L : List (Addr × HO)} (h : L.all (fun x => mutO x.2) = true) : ∀ x ∈ L, nTbl x.2 := fun x hx => by
  have := List.all_eq_true.mp h x hx
  cases e : x.2 <;> rw [e] at this <;> first | trivial | cases this
theorem nd_perm {l l' : List Addr} (h : l.Nodup) (p : l.Perm l') : l'.Nodup := p.nodup_iff.mp h
theorem ok_p_Chain___init__ {f : Addr} {fd : FuncData} {a_NOUGHT : Addr} (F : Fun K "__init__" "Chain.__init__" s_p_Chain___init__ f fd) (B : Bn mg) (g_NOUGHT : mg "NOUGHT" = some (.ref a_NOUGHT)) (s_NOUGHT : ∀ H, SqT K H a_NOUGHT [.int 0, .int 1]) {CP : Addr} {CC : Addr} (TC : Kl K CC) (F_p_labour : Fx P w K mg base 5 "labour" ["way"] (sp_p_labour K T CP)) : FnOk P w K mg base (L2.CX P w) 6 f fd ["self", "way"] (sp_p_Chain___init__ K T CP CC) := by
  refine F.okX sc_p_Chain___init__ (fun vs H Q E h => ?_) (fun cdv A outer s H vs Q E hr h => ?_)
  · obtain ⟨H0, c, dx, a, us, qs, rfl, _⟩ := h
    rfl
  · obtain ⟨H0, c, dx, a, us, qs, rfl, rfl, nc, nd, ncd, ha, hd, hq, hok, k1, k2⟩ := h
    refine ⟨_, (pss_cons (ps_fc TC.cl (TC.no "fire" (by decide +kernel)) (pv 0) (pe_fx F_p_labour (hr.mono (by decide)) (takes_of rfl rfl rfl rfl) (pa_cons (pv 1) pa_nil)))
      (pss_cons (ps_fc TC.cl (TC.no "stretches" (by decide +kernel)) (pv 0) (pe_callTy call_tuple_of (by rfl) B.tuple_ (by decide +kernel) (pa_cons (pv 1) pa_nil)))
      (pss_cons (ps_fc TC.cl (TC.no "now" (by decide +kernel)) (pv 0) (pe_glob (v := .ref a_NOUGHT) (by rfl) g_NOUGHT rfl))
      (pss_cons (ps_fc TC.cl (TC.no "row" (by decide +kernel)) (pv 0) (pe_lst pa_nil))
      (pss_cons (ps_fc TC.cl (TC.no "loads" (by decide +kernel)) (pv 0) (pe_lst pa_nil))
      (pss_cons (ps_fc TC.cl (TC.no "spots" (by decide +kernel)) (pv 0) (pe_lst pa_nil))
      (pss_cons (ps_fc TC.cl (TC.no "tempos" (by decide +kernel)) (pv 0) pe_dnewK)
      (pss_cons (ps_fc TC.cl (TC.no "leaving" (by decide +kernel)) (pv 0) (pe_lst pa_nil))
      (pss_cons (ps_fc TC.cl (TC.no "ledgers" (by decide +kernel)) (pv 0) pe_dnewK)
      (pss_cons (ps_fc TC.cl (TC.no "marks" (by decide +kernel)) (pv 0) (pe_lst pa_nil))
      (pss_one (ps_fc TC.cl (TC.no "poured" (by decide +kernel)) (pv 0) (pe_lst pa_nil))))))))))))), ?_⟩
    have v1 := same_upd (T := T) (o := .own c) nd
    have nc1 : upd H0 dx (.own c) c = none := by rw [upd_ne (Ne.symm ncd)]; exact nc
    have v2 := same_upd (T := T) (o := .ins CC dx []) nc1
    have s00 := v1.trans v2
    refine ⟨_, rfl, a, us, qs, rfl, Sm.seq s00 ha, dpa_same s00 _ _ hd, hq, s00.ok hok, fun hw H1 s1 => ?_, fun hw cls d H' s' rf => k2 hw cls d H' (s00.trans s') rf⟩
    have m0 : Mkg T CC H0 H1 c dx [] [] := ⟨s00.trans s1, s1.k (b := c) (o := .ins CC dx []) upd_same, (v2.trans s1).k (b := dx) (o := .own c) upd_same, (fun _ h => nomatch h), by simp⟩
    refine ⟨_, rfl, c, _, _, rfl, m0.ins, by show 0 < 1000; decide, ?_⟩
    have m1 := m0.val nc ncd "fire" (.int (labourM qs))
    generalize upd H1 c (.ins CC dx (putF "fire" (.int (labourM qs)) [])) = H2 at *
    refine ⟨_, rfl, a, us, rfl, .inl ⟨m1.sm.seq ha, fun pst nst => ?_⟩⟩
    have u2 := same_upd (T := T) (o := .tup us) nst
    have m2 := m1.sm' u2 (fun _ h => nomatch h)
    refine ⟨_, rfl, c, _, _, rfl, m2.ins, by show 1 < 1000; decide, ?_⟩
    have hst : SqT K (upd H2 pst (.tup us)) pst us := SqT.of upd_same
    have m3 := m2.val nc ncd "stretches" (.ref pst)
    have x3 : Sx [] [c] (upd H2 pst (.tup us)) _ := sx_upd (o := .ins CC dx (putF "stretches" (.ref pst) (putF "fire" (.int (labourM qs)) []))) m2.ins rfl List.mem_cons_self
    have hst3 := x3.tup hst
    generalize upd (upd H2 pst (.tup us)) c (.ins CC dx (putF "stretches" (.ref pst) (putF "fire" (.int (labourM qs)) []))) = H3 at *
    refine ⟨_, rfl, c, _, _, rfl, m3.ins, by show 2 < 1000; decide, ?_⟩
    have m4 := m3.val nc ncd "now" (.ref a_NOUGHT)
    have x4 : Sx [] [c] H3 _ := sx_upd (o := .ins CC dx (putF "now" (.ref a_NOUGHT) (putF "stretches" (.ref pst) (putF "fire" (.int (labourM qs)) [])))) m3.ins rfl List.mem_cons_self
    have hst4 := x4.tup hst3
    generalize upd H3 c (.ins CC dx (putF "now" (.ref a_NOUGHT) (putF "stretches" (.ref pst) (putF "fire" (.int (labourM qs)) [])))) = H4 at *
    refine ⟨Nat.zero_le _, fun prw nprw => ?_⟩
    have u4 := same_upd (T := T) (o := .lst []) nprw
    have w4 := m4.sm' u4 (nt1 rfl)
    refine ⟨_, rfl, c, _, _, rfl, w4.ins, by show 3 < 1000; decide, ?_⟩
    have m5 := m4.new nc ncd "row" (o := .lst []) nprw (nt1 rfl)
    have hst5 := (sx_upd (T := []) (S := [c]) (o := .ins CC dx (putF "row" (.ref prw) (putF "now" (.ref a_NOUGHT) (putF "stretches" (.ref pst) (putF "fire" (.int (labourM qs)) []))))) w4.ins rfl List.mem_cons_self).tup (same_tup u4 hst4)
    generalize upd (upd H4 prw (.lst [])) c (.ins CC dx (putF "row" (.ref prw) (putF "now" (.ref a_NOUGHT) (putF "stretches" (.ref pst) (putF "fire" (.int (labourM qs)) []))))) = H5 at *
    clear u4 w4
    refine ⟨Nat.zero_le _, fun pld npld => ?_⟩
    have u5 := same_upd (T := T) (o := .lst []) npld
    have w5 := m5.sm' u5 (nt1 rfl)
    refine ⟨_, rfl, c, _, _, rfl, w5.ins, by show 4 < 1000; decide, ?_⟩
    have m6 := m5.new nc ncd "loads" (o := .lst []) npld (nt1 rfl)
    have hst6 := (sx_upd (T := []) (S := [c]) (o := .ins CC dx (putF "loads" (.ref pld) (putF "row" (.ref prw) (putF "now" (.ref a_NOUGHT) (putF "stretches" (.ref pst) (putF "fire" (.int (labourM qs)) [])))))) w5.ins rfl List.mem_cons_self).tup (same_tup u5 hst5)
    generalize upd (upd H5 pld (.lst [])) c (.ins CC dx (putF "loads" (.ref pld) (putF "row" (.ref prw) (putF "now" (.ref a_NOUGHT) (putF "stretches" (.ref pst) (putF "fire" (.int (labourM qs)) [])))))) = H6 at *
    clear u5 w5
    refine ⟨Nat.zero_le _, fun psp npsp => ?_⟩
    have u6 := same_upd (T := T) (o := .lst []) npsp
    have w6 := m6.sm' u6 (nt1 rfl)
    refine ⟨_, rfl, c, _, _, rfl, w6.ins, by show 5 < 1000; decide, ?_⟩
    have m7 := m6.new nc ncd "spots" (o := .lst []) npsp (nt1 rfl)
    have hst7 := (sx_upd (T := []) (S := [c]) (o := .ins CC dx (putF "spots" (.ref psp) (putF "loads" (.ref pld) (putF "row" (.ref prw) (putF "now" (.ref a_NOUGHT) (putF "stretches" (.ref pst) (putF "fire" (.int (labourM qs)) []))))))) w6.ins rfl List.mem_cons_self).tup (same_tup u6 hst6)
    generalize upd (upd H6 psp (.lst [])) c (.ins CC dx (putF "spots" (.ref psp) (putF "loads" (.ref pld) (putF "row" (.ref prw) (putF "now" (.ref a_NOUGHT) (putF "stretches" (.ref pst) (putF "fire" (.int (labourM qs)) []))))))) = H7 at *
    clear u6 w6
    intro ptm nptm
    have u7 := same_upd (T := T) (o := .dK []) nptm
    have w7 := m7.sm' u7 (nt1 rfl)
    refine ⟨_, rfl, c, _, _, rfl, w7.ins, by show 6 < 1000; decide, ?_⟩
    have m8 := m7.new nc ncd "tempos" (o := .dK []) nptm (nt1 rfl)
    have hst8 := (sx_upd (T := []) (S := [c]) (o := .ins CC dx (putF "tempos" (.ref ptm) (putF "spots" (.ref psp) (putF "loads" (.ref pld) (putF "row" (.ref prw) (putF "now" (.ref a_NOUGHT) (putF "stretches" (.ref pst) (putF "fire" (.int (labourM qs)) [])))))))) w7.ins rfl List.mem_cons_self).tup (same_tup u7 hst7)
    generalize upd (upd H7 ptm (.dK [])) c (.ins CC dx (putF "tempos" (.ref ptm) (putF "spots" (.ref psp) (putF "loads" (.ref pld) (putF "row" (.ref prw) (putF "now" (.ref a_NOUGHT) (putF "stretches" (.ref pst) (putF "fire" (.int (labourM qs)) [])))))))) = H8 at *
    clear u7 w7
    refine ⟨Nat.zero_le _, fun plv nplv => ?_⟩
    have u8 := same_upd (T := T) (o := .lst []) nplv
    have w8 := m8.sm' u8 (nt1 rfl)
    refine ⟨_, rfl, c, _, _, rfl, w8.ins, by show 7 < 1000; decide, ?_⟩
    have m9 := m8.new nc ncd "leaving" (o := .lst []) nplv (nt1 rfl)
    have hst9 := (sx_upd (T := []) (S := [c]) (o := .ins CC dx (putF "leaving" (.ref plv) (putF "tempos" (.ref ptm) (putF "spots" (.ref psp) (putF "loads" (.ref pld) (putF "row" (.ref prw) (putF "now" (.ref a_NOUGHT) (putF "stretches" (.ref pst) (putF "fire" (.int (labourM qs)) []))))))))) w8.ins rfl List.mem_cons_self).tup (same_tup u8 hst8)
    generalize upd (upd H8 plv (.lst [])) c (.ins CC dx (putF "leaving" (.ref plv) (putF "tempos" (.ref ptm) (putF "spots" (.ref psp) (putF "loads" (.ref pld) (putF "row" (.ref prw) (putF "now" (.ref a_NOUGHT) (putF "stretches" (.ref pst) (putF "fire" (.int (labourM qs)) []))))))))) = H9 at *
    clear u8 w8
    intro plg nplg
    have u9 := same_upd (T := T) (o := .dK []) nplg
    have w9 := m9.sm' u9 (nt1 rfl)
    refine ⟨_, rfl, c, _, _, rfl, w9.ins, by show 8 < 1000; decide, ?_⟩
    have m10 := m9.new nc ncd "ledgers" (o := .dK []) nplg (nt1 rfl)
    have hst10 := (sx_upd (T := []) (S := [c]) (o := .ins CC dx (putF "ledgers" (.ref plg) (putF "leaving" (.ref plv) (putF "tempos" (.ref ptm) (putF "spots" (.ref psp) (putF "loads" (.ref pld) (putF "row" (.ref prw) (putF "now" (.ref a_NOUGHT) (putF "stretches" (.ref pst) (putF "fire" (.int (labourM qs)) [])))))))))) w9.ins rfl List.mem_cons_self).tup (same_tup u9 hst9)
    generalize upd (upd H9 plg (.dK [])) c (.ins CC dx (putF "ledgers" (.ref plg) (putF "leaving" (.ref plv) (putF "tempos" (.ref ptm) (putF "spots" (.ref psp) (putF "loads" (.ref pld) (putF "row" (.ref prw) (putF "now" (.ref a_NOUGHT) (putF "stretches" (.ref pst) (putF "fire" (.int (labourM qs)) [])))))))))) = H10 at *
    clear u9 w9
    refine ⟨Nat.zero_le _, fun pmr npmr => ?_⟩
    have u10 := same_upd (T := T) (o := .lst []) npmr
    have w10 := m10.sm' u10 (nt1 rfl)
    refine ⟨_, rfl, c, _, _, rfl, w10.ins, by show 9 < 1000; decide, ?_⟩
    have m11 := m10.new nc ncd "marks" (o := .lst []) npmr (nt1 rfl)
    have hst11 := (sx_upd (T := []) (S := [c]) (o := .ins CC dx (putF "marks" (.ref pmr) (putF "ledgers" (.ref plg) (putF "leaving" (.ref plv) (putF "tempos" (.ref ptm) (putF "spots" (.ref psp) (putF "loads" (.ref pld) (putF "row" (.ref prw) (putF "now" (.ref a_NOUGHT) (putF "stretches" (.ref pst) (putF "fire" (.int (labourM qs)) []))))))))))) w10.ins rfl List.mem_cons_self).tup (same_tup u10 hst10)
    generalize upd (upd H10 pmr (.lst [])) c (.ins CC dx (putF "marks" (.ref pmr) (putF "ledgers" (.ref plg) (putF "leaving" (.ref plv) (putF "tempos" (.ref ptm) (putF "spots" (.ref psp) (putF "loads" (.ref pld) (putF "row" (.ref prw) (putF "now" (.ref a_NOUGHT) (putF "stretches" (.ref pst) (putF "fire" (.int (labourM qs)) []))))))))))) = H11 at *
    clear u10 w10
    refine ⟨Nat.zero_le _, fun ppr nppr => ?_⟩
    have u11 := same_upd (T := T) (o := .lst []) nppr
    have w11 := m11.sm' u11 (nt1 rfl)
    refine ⟨_, rfl, c, _, _, rfl, w11.ins, by show 10 < 1000; decide, ?_⟩
    have m12 := m11.new nc ncd "poured" (o := .lst []) nppr (nt1 rfl)
    have hst12 := (sx_upd (T := []) (S := [c]) (o := .ins CC dx (putF "poured" (.ref ppr) (putF "marks" (.ref pmr) (putF "ledgers" (.ref plg) (putF "leaving" (.ref plv) (putF "tempos" (.ref ptm) (putF "spots" (.ref psp) (putF "loads" (.ref pld) (putF "row" (.ref prw) (putF "now" (.ref a_NOUGHT) (putF "stretches" (.ref pst) (putF "fire" (.int (labourM qs)) [])))))))))))) w11.ins rfl List.mem_cons_self).tup (same_tup u11 hst11)
    generalize upd (upd H11 ppr (.lst [])) c (.ins CC dx (putF "poured" (.ref ppr) (putF "marks" (.ref pmr) (putF "ledgers" (.ref plg) (putF "leaving" (.ref plv) (putF "tempos" (.ref ptm) (putF "spots" (.ref psp) (putF "loads" (.ref pld) (putF "row" (.ref prw) (putF "now" (.ref a_NOUGHT) (putF "stretches" (.ref pst) (putF "fire" (.int (labourM qs)) [])))))))))))) = H12 at *
    clear u11 w11
    have at_ := m12.at_
    refine k1 hw H12 { dx := dx, st := pst, nw := a_NOUGHT, rw := prw, ld := pld, sp := psp, tm := ptm, lv := plv, lg := plg, mr := pmr, pr := ppr } m12.sm ⟨m12.ins, m12.own, ⟨us, hst12, dpa_same m12.sm _ _ hd⟩, by show SqT K _ _ (tv (am 0)); rw [am_zero]; exact s_NOUGHT _, (at_ (prw, .lst []) (by simp)).1, (at_ (pld, .lst []) (by simp)).1, ⟨[], (at_ (psp, .lst []) (by simp)).1, .nil⟩, (at_ (ptm, .dK []) (by simp)).1, (at_ (plv, .lst []) (by simp)).1, ⟨[], (at_ (plg, .dK []) (by simp)).1, rfl, .nil⟩, ⟨[], (at_ (pmr, .lst []) (by simp)).1, .nil⟩, (at_ (ppr, .lst []) (by simp)).1, ?_⟩ (fun x hx => ?_)
    · have nd9 := m12.nd
      have e : ([c, ppr, pmr, plg, plv, ptm, psp, pld, prw] : List Addr).Perm [c, prw, pld, psp, ptm, plv, plg, pmr, ppr] := .cons c (List.reverse_perm _).symm
      exact nd_perm nd9 e
    · simp only [ownC, List.mem_cons, List.not_mem_nil, or_false] at hx
      rcases hx with rfl | rfl | rfl | rfl | rfl | rfl | rfl | rfl | rfl
      · exact nc
      · exact (at_ (x, .lst []) (by simp)).2
      · exact (at_ (x, .lst []) (by simp)).2
      · exact (at_ (x, .lst []) (by simp)).2
      · exact (at_ (x, .dK []) (by simp)).2
      · exact (at_ (x, .lst []) (by simp)).2
      · exact (at_ (x, .dK []) (by simp)).2
      · exact (at_ (x, .lst []) (by simp)).2
      · exact (at_ (x, .lst []) (by simp)).2
theorem ok_p_Chain___init___t {f : Addr} {fd : FuncData} {a_NOUGHT : Addr} (F : Fun K "__init__" "Chain.__init__" s_p_Chain___init___t f fd) (B : Bn mg) (g_NOUGHT : mg "NOUGHT" = some (.ref a_NOUGHT)) (s_NOUGHT : ∀ H, SqT K H a_NOUGHT [.int 0, .int 1]) {CP : Addr} {CC : Addr} (TC : Kl K CC) (F_p_labour_t : Fx P w K mg base 5 "labour" ["way"] (sp_p_labour_t K T CP)) : FnOk P w K mg base (L2.CX P w) 6 f fd ["self", "way"] (sp_p_Chain___init___t K T CP CC) := by
  refine F.okX sc_p_Chain___init___t (fun vs H Q E h => ?_) (fun cdv A outer s H vs Q E hr h => ?_)
  · obtain ⟨H0, c, dx, a, us, qs, rfl, _⟩ := h
    rfl
  · obtain ⟨H0, c, dx, a, us, qs, rfl, rfl, nc, nd, ncd, ha, hd, hq, hok, k1, k2⟩ := h
    refine ⟨_, (pss_cons (ps_fc TC.cl (TC.no "fire" (by decide +kernel)) (pv 0) (pe_fx F_p_labour_t (hr.mono (by decide)) (takes_of rfl rfl rfl rfl) (pa_cons (pv 1) pa_nil)))
      (pss_cons (ps_fc TC.cl (TC.no "stretches" (by decide +kernel)) (pv 0) (pe_callTy call_tuple_of (by rfl) B.tuple_ (by decide +kernel) (pa_cons (pv 1) pa_nil)))
      (pss_cons (ps_fc TC.cl (TC.no "now" (by decide +kernel)) (pv 0) (pe_glob (v := .ref a_NOUGHT) (by rfl) g_NOUGHT rfl))
      (pss_cons (ps_fc TC.cl (TC.no "row" (by decide +kernel)) (pv 0) (pe_lst pa_nil))
      (pss_cons (ps_fc TC.cl (TC.no "loads" (by decide +kernel)) (pv 0) (pe_lst pa_nil))
      (pss_cons (ps_fc TC.cl (TC.no "spots" (by decide +kernel)) (pv 0) (pe_lst pa_nil))
      (pss_cons (ps_fc TC.cl (TC.no "tempos" (by decide +kernel)) (pv 0) pe_dnewK)
      (pss_cons (ps_fc TC.cl (TC.no "leaving" (by decide +kernel)) (pv 0) (pe_lst pa_nil))
      (pss_cons (ps_fc TC.cl (TC.no "ledgers" (by decide +kernel)) (pv 0) pe_dnewK)
      (pss_cons (ps_fc TC.cl (TC.no "marks" (by decide +kernel)) (pv 0) (pe_lst pa_nil))
      (pss_one (ps_fc TC.cl (TC.no "poured" (by decide +kernel)) (pv 0) (pe_lst pa_nil))))))))))))), ?_⟩
    have v1 := same_upd (T := T) (o := .own c) nd
    have nc1 : upd H0 dx (.own c) c = none := by rw [upd_ne (Ne.symm ncd)]; exact nc
    have v2 := same_upd (T := T) (o := .ins CC dx []) nc1
    have s00 := v1.trans v2
    refine ⟨_, rfl, a, us, qs, rfl, same_tup s00 ha, dpa_same s00 _ _ hd, hq, s00.ok hok, fun hw H1 s1 => ?_, fun hw cls d H' s' rf => k2 hw cls d H' (s00.trans s') rf⟩
    have m0 : Mkg T CC H0 H1 c dx [] [] := ⟨s00.trans s1, s1.k (b := c) (o := .ins CC dx []) upd_same, (v2.trans s1).k (b := dx) (o := .own c) upd_same, (fun _ h => nomatch h), by simp⟩
    refine ⟨_, rfl, c, _, _, rfl, m0.ins, by show 0 < 1000; decide, ?_⟩
    have m1 := m0.val nc ncd "fire" (.int (labourM qs))
    generalize upd H1 c (.ins CC dx (putF "fire" (.int (labourM qs)) [])) = H2 at *
    have hst := same_tup m1.sm ha
    refine ⟨_, rfl, a, us, rfl, .inr ⟨hst, ?_⟩⟩
    obtain ⟨pst, rfl⟩ : ∃ pst, pst = a := ⟨a, rfl⟩
    refine ⟨_, rfl, c, _, _, rfl, m1.ins, by show 1 < 1000; decide, ?_⟩
    have m3 := m1.val nc ncd "stretches" (.ref pst)
    have x3 : Sx [] [c] H2 _ := sx_upd (o := .ins CC dx (putF "stretches" (.ref pst) (putF "fire" (.int (labourM qs)) []))) m1.ins rfl List.mem_cons_self
    have hst3 := x3.tup hst
    generalize upd H2 c (.ins CC dx (putF "stretches" (.ref pst) (putF "fire" (.int (labourM qs)) []))) = H3 at *
    refine ⟨_, rfl, c, _, _, rfl, m3.ins, by show 2 < 1000; decide, ?_⟩
    have m4 := m3.val nc ncd "now" (.ref a_NOUGHT)
    have x4 : Sx [] [c] H3 _ := sx_upd (o := .ins CC dx (putF "now" (.ref a_NOUGHT) (putF "stretches" (.ref pst) (putF "fire" (.int (labourM qs)) [])))) m3.ins rfl List.mem_cons_self
    have hst4 := x4.tup hst3
    generalize upd H3 c (.ins CC dx (putF "now" (.ref a_NOUGHT) (putF "stretches" (.ref pst) (putF "fire" (.int (labourM qs)) [])))) = H4 at *
    refine ⟨Nat.zero_le _, fun prw nprw => ?_⟩
    have u4 := same_upd (T := T) (o := .lst []) nprw
    have w4 := m4.sm' u4 (nt1 rfl)
    refine ⟨_, rfl, c, _, _, rfl, w4.ins, by show 3 < 1000; decide, ?_⟩
    have m5 := m4.new nc ncd "row" (o := .lst []) nprw (nt1 rfl)
    have hst5 := (sx_upd (T := []) (S := [c]) (o := .ins CC dx (putF "row" (.ref prw) (putF "now" (.ref a_NOUGHT) (putF "stretches" (.ref pst) (putF "fire" (.int (labourM qs)) []))))) w4.ins rfl List.mem_cons_self).tup (same_tup u4 hst4)
    generalize upd (upd H4 prw (.lst [])) c (.ins CC dx (putF "row" (.ref prw) (putF "now" (.ref a_NOUGHT) (putF "stretches" (.ref pst) (putF "fire" (.int (labourM qs)) []))))) = H5 at *
    clear u4 w4
    refine ⟨Nat.zero_le _, fun pld npld => ?_⟩
    have u5 := same_upd (T := T) (o := .lst []) npld
    have w5 := m5.sm' u5 (nt1 rfl)
    refine ⟨_, rfl, c, _, _, rfl, w5.ins, by show 4 < 1000; decide, ?_⟩
    have m6 := m5.new nc ncd "loads" (o := .lst []) npld (nt1 rfl)
    have hst6 := (sx_upd (T := []) (S := [c]) (o := .ins CC dx (putF "loads" (.ref pld) (putF "row" (.ref prw) (putF "now" (.ref a_NOUGHT) (putF "stretches" (.ref pst) (putF "fire" (.int (labourM qs)) [])))))) w5.ins rfl List.mem_cons_self).tup (same_tup u5 hst5)
    generalize upd (upd H5 pld (.lst [])) c (.ins CC dx (putF "loads" (.ref pld) (putF "row" (.ref prw) (putF "now" (.ref a_NOUGHT) (putF "stretches" (.ref pst) (putF "fire" (.int (labourM qs)) [])))))) = H6 at *
    clear u5 w5
    refine ⟨Nat.zero_le _, fun psp npsp => ?_⟩
    have u6 := same_upd (T := T) (o := .lst []) npsp
    have w6 := m6.sm' u6 (nt1 rfl)
    refine ⟨_, rfl, c, _, _, rfl, w6.ins, by show 5 < 1000; decide, ?_⟩
    have m7 := m6.new nc ncd "spots" (o := .lst []) npsp (nt1 rfl)
    have hst7 := (sx_upd (T := []) (S := [c]) (o := .ins CC dx (putF "spots" (.ref psp) (putF "loads" (.ref pld) (putF "row" (.ref prw) (putF "now" (.ref a_NOUGHT) (putF "stretches" (.ref pst) (putF "fire" (.int (labourM qs)) []))))))) w6.ins rfl List.mem_cons_self).tup (same_tup u6 hst6)
    generalize upd (upd H6 psp (.lst [])) c (.ins CC dx (putF "spots" (.ref psp) (putF "loads" (.ref pld) (putF "row" (.ref prw) (putF "now" (.ref a_NOUGHT) (putF "stretches" (.ref pst) (putF "fire" (.int (labourM qs)) []))))))) = H7 at *
    clear u6 w6
    intro ptm nptm
    have u7 := same_upd (T := T) (o := .dK []) nptm
    have w7 := m7.sm' u7 (nt1 rfl)
    refine ⟨_, rfl, c, _, _, rfl, w7.ins, by show 6 < 1000; decide, ?_⟩
    have m8 := m7.new nc ncd "tempos" (o := .dK []) nptm (nt1 rfl)
    have hst8 := (sx_upd (T := []) (S := [c]) (o := .ins CC dx (putF "tempos" (.ref ptm) (putF "spots" (.ref psp) (putF "loads" (.ref pld) (putF "row" (.ref prw) (putF "now" (.ref a_NOUGHT) (putF "stretches" (.ref pst) (putF "fire" (.int (labourM qs)) [])))))))) w7.ins rfl List.mem_cons_self).tup (same_tup u7 hst7)
    generalize upd (upd H7 ptm (.dK [])) c (.ins CC dx (putF "tempos" (.ref ptm) (putF "spots" (.ref psp) (putF "loads" (.ref pld) (putF "row" (.ref prw) (putF "now" (.ref a_NOUGHT) (putF "stretches" (.ref pst) (putF "fire" (.int (labourM qs)) [])))))))) = H8 at *
    clear u7 w7
    refine ⟨Nat.zero_le _, fun plv nplv => ?_⟩
    have u8 := same_upd (T := T) (o := .lst []) nplv
    have w8 := m8.sm' u8 (nt1 rfl)
    refine ⟨_, rfl, c, _, _, rfl, w8.ins, by show 7 < 1000; decide, ?_⟩
    have m9 := m8.new nc ncd "leaving" (o := .lst []) nplv (nt1 rfl)
    have hst9 := (sx_upd (T := []) (S := [c]) (o := .ins CC dx (putF "leaving" (.ref plv) (putF "tempos" (.ref ptm) (putF "spots" (.ref psp) (putF "loads" (.ref pld) (putF "row" (.ref prw) (putF "now" (.ref a_NOUGHT) (putF "stretches" (.ref pst) (putF "fire" (.int (labourM qs)) []))))))))) w8.ins rfl List.mem_cons_self).tup (same_tup u8 hst8)
    generalize upd (upd H8 plv (.lst [])) c (.ins CC dx (putF "leaving" (.ref plv) (putF "tempos" (.ref ptm) (putF "spots" (.ref psp) (putF "loads" (.ref pld) (putF "row" (.ref prw) (putF "now" (.ref a_NOUGHT) (putF "stretches" (.ref pst) (putF "fire" (.int (labourM qs)) []))))))))) = H9 at *
    clear u8 w8
    intro plg nplg
    have u9 := same_upd (T := T) (o := .dK []) nplg
    have w9 := m9.sm' u9 (nt1 rfl)
    refine ⟨_, rfl, c, _, _, rfl, w9.ins, by show 8 < 1000; decide, ?_⟩
    have m10 := m9.new nc ncd "ledgers" (o := .dK []) nplg (nt1 rfl)
    have hst10 := (sx_upd (T := []) (S := [c]) (o := .ins CC dx (putF "ledgers" (.ref plg) (putF "leaving" (.ref plv) (putF "tempos" (.ref ptm) (putF "spots" (.ref psp) (putF "loads" (.ref pld) (putF "row" (.ref prw) (putF "now" (.ref a_NOUGHT) (putF "stretches" (.ref pst) (putF "fire" (.int (labourM qs)) [])))))))))) w9.ins rfl List.mem_cons_self).tup (same_tup u9 hst9)
    generalize upd (upd H9 plg (.dK [])) c (.ins CC dx (putF "ledgers" (.ref plg) (putF "leaving" (.ref plv) (putF "tempos" (.ref ptm) (putF "spots" (.ref psp) (putF "loads" (.ref pld) (putF "row" (.ref prw) (putF "now" (.ref a_NOUGHT) (putF "stretches" (.ref pst) (putF "fire" (.int (labourM qs)) [])))))))))) = H10 at *
    clear u9 w9
    refine ⟨Nat.zero_le _, fun pmr npmr => ?_⟩
    have u10 := same_upd (T := T) (o := .lst []) npmr
    have w10 := m10.sm' u10 (nt1 rfl)
    refine ⟨_, rfl, c, _, _, rfl, w10.ins, by show 9 < 1000; decide, ?_⟩
    have m11 := m10.new nc ncd "marks" (o := .lst []) npmr (nt1 rfl)
    have hst11 := (sx_upd (T := []) (S := [c]) (o := .ins CC dx (putF "marks" (.ref pmr) (putF "ledgers" (.ref plg) (putF "leaving" (.ref plv) (putF "tempos" (.ref ptm) (putF "spots" (.ref psp) (putF "loads" (.ref pld) (putF "row" (.ref prw) (putF "now" (.ref a_NOUGHT) (putF "stretches" (.ref pst) (putF "fire" (.int (labourM qs)) []))))))))))) w10.ins rfl List.mem_cons_self).tup (same_tup u10 hst10)
    generalize upd (upd H10 pmr (.lst [])) c (.ins CC dx (putF "marks" (.ref pmr) (putF "ledgers" (.ref plg) (putF "leaving" (.ref plv) (putF "tempos" (.ref ptm) (putF "spots" (.ref psp) (putF "loads" (.ref pld) (putF "row" (.ref prw) (putF "now" (.ref a_NOUGHT) (putF "stretches" (.ref pst) (putF "fire" (.int (labourM qs)) []))))))))))) = H11 at *
    clear u10 w10
    refine ⟨Nat.zero_le _, fun ppr nppr => ?_⟩
    have u11 := same_upd (T := T) (o := .lst []) nppr
    have w11 := m11.sm' u11 (nt1 rfl)
    refine ⟨_, rfl, c, _, _, rfl, w11.ins, by show 10 < 1000; decide, ?_⟩
    have m12 := m11.new nc ncd "poured" (o := .lst []) nppr (nt1 rfl)
    have hst12 := (sx_upd (T := []) (S := [c]) (o := .ins CC dx (putF "poured" (.ref ppr) (putF "marks" (.ref pmr) (putF "ledgers" (.ref plg) (putF "leaving" (.ref plv) (putF "tempos" (.ref ptm) (putF "spots" (.ref psp) (putF "loads" (.ref pld) (putF "row" (.ref prw) (putF "now" (.ref a_NOUGHT) (putF "stretches" (.ref pst) (putF "fire" (.int (labourM qs)) [])))))))))))) w11.ins rfl List.mem_cons_self).tup (same_tup u11 hst11)
    generalize upd (upd H11 ppr (.lst [])) c (.ins CC dx (putF "poured" (.ref ppr) (putF "marks" (.ref pmr) (putF "ledgers" (.ref plg) (putF "leaving" (.ref plv) (putF "tempos" (.ref ptm) (putF "spots" (.ref psp) (putF "loads" (.ref pld) (putF "row" (.ref prw) (putF "now" (.ref a_NOUGHT) (putF "stretches" (.ref pst) (putF "fire" (.int (labourM qs)) [])))))))))))) = H12 at *
    clear u11 w11
    have at_ := m12.at_
    refine k1 hw H12 { dx := dx, st := pst, nw := a_NOUGHT, rw := prw, ld := pld, sp := psp, tm := ptm, lv := plv, lg := plg, mr := pmr, pr := ppr } m12.sm ⟨m12.ins, m12.own, ⟨us, hst12, dpa_same m12.sm _ _ hd⟩, by show SqT K _ _ (tv (am 0)); rw [am_zero]; exact s_NOUGHT _, (at_ (prw, .lst []) (by simp)).1, (at_ (pld, .lst []) (by simp)).1, ⟨[], (at_ (psp, .lst []) (by simp)).1, .nil⟩, (at_ (ptm, .dK []) (by simp)).1, (at_ (plv, .lst []) (by simp)).1, ⟨[], (at_ (plg, .dK []) (by simp)).1, rfl, .nil⟩, ⟨[], (at_ (pmr, .lst []) (by simp)).1, .nil⟩, (at_ (ppr, .lst []) (by simp)).1, ?_⟩ (fun x hx => ?_)
    · have nd9 := m12.nd
      have e : ([c, ppr, pmr, plg, plv, ptm, psp, pld, prw] : List Addr).Perm [c, prw, pld, psp, ptm, plv, plg, pmr, ppr] := .cons c (List.reverse_perm _).symm
      exact nd_perm nd9 e
    · simp only [ownC, List.mem_cons, List.not_mem_nil, or_false] at hx
      rcases hx with rfl | rfl | rfl | rfl | rfl | rfl | rfl | rfl | rfl
      · exact nc
      · exact (at_ (x, .lst []) (by simp)).2
      · exact (at_ (x, .lst []) (by simp)).2
      · exact (at_ (x, .lst []) (by simp)).2
      · exact (at_ (x, .dK []) (by simp)).2
      · exact (at_ (x, .lst []) (by simp)).2
      · exact (at_ (x, .dK []) (by simp)).2
      · exact (at_ (x, .lst []) (by simp)).2
      · exact (at_ (x, .lst []) (by simp)).2

/-- from meeting to meeting -/
def ItR (s : Ch) (h : Rat) (s' : Ch) (rows : List Rw) : Prop := Tn (walkS s h) s' rows ∧ rows.length ≤ 8 ∧ (s'.row ≠ [] → s'.spots.getD (s'.row.length - 1) 0 ≠ (s'.fire : Rat))
def meetS (s : Ch) : Rat := meetM s.fire (pcs s) s.spots
/-- ready to be walked on for l hours at most -/
structure Rdy (D : Int) (s : Ch) (l : Rat) : Prop where
  w : WOk D s
  d12 : (D * 12).natAbs < 2 ^ 3900
  l6 : Fr D l ∧ 0 ≤ l ∧ l ≤ 50000
  lt : ∀ x ∈ s.spots, x < (s.fire : Rat)
  ft : Fit2 s
theorem Wk.scale {D L : Int} {ns : List Int} {ps : List Rat} (w : Wk D L ns ps) (hD : 0 < D) {k : Int} (hk : 1 ≤ k) : Wk (D * k) L ns ps := ⟨w.eq, w.n8, w.pace, w.rise, w.nn, w.fire, fun p hp => (w.fr p hp).scale (by omega) (by omega)⟩
theorem Ok6.scale {D : Int} {r : Rat} (h : Ok6 D r) (hD : 0 < D) {k : Int} (hk : 1 ≤ k) : Ok6 (D * k) r := ⟨h.1.scale (by omega) (by omega), h.2⟩
theorem d_scale {D k : Int} (hD : 0 < D) (hk : 1 ≤ k) (h12 : k ≤ 12) (h : (D * 12).natAbs < 2 ^ 3900) : 0 < D * k ∧ (D * k).natAbs < 2 ^ 3900 := by
  refine ⟨Int.mul_pos hD (by omega), Nat.lt_of_le_of_lt ?_ h⟩
  rw [Int.natAbs_mul, Int.natAbs_mul]
  exact Nat.mul_le_mul_left _ (by omega)
theorem WOk.scale {D : Int} {s : Ch} (w : WOk D s) {k : Int} (hk : 1 ≤ k) (h12 : k ≤ 12) (hd : (D * 12).natAbs < 2 ^ 3900) : WOk (D * k) s :=
  ⟨w.wk.scale w.hD.1 hk, d_scale w.hD.1 hk h12 hd, w.f1, w.nd, w.tp, fun n hn => by
    obtain ⟨x, hx, o1, o2, o3⟩ := w.lg n hn
    exact ⟨x, hx, o1.scale w.hD.1 hk, o2.scale w.hD.1 hk, o3.scale w.hD.1 hk⟩, w.ll, w.now.scale w.hD.1 hk⟩
theorem meet_ok {D : Int} {s : Ch} (w : WOk D s) (hne : s.row ≠ []) : ∃ k : Int, 1 ≤ k ∧ k ≤ 12 ∧ Fr (D * k) (meetS s) ∧ 0 ≤ meetS s ∧ meetS s ≤ 1000 := by
  have hn : 0 < (pcs s).length := by rw [pcs_len]; exact List.length_pos_iff.mpr hne
  obtain ⟨k, k1, k2, k3, k4, k5⟩ := meetF_ok w.wk (by have := w.hD.1; omega) hn (Nat.le_refl _)
  exact ⟨k, k1, k2, k3, k4, Rat.le_trans k5 (Rat.le_trans (Rat.intCast_le_intCast.mpr w.f1.2) (by decide +kernel))⟩

def outsB (n : Int) : Bool := decide (1 ≤ n) && decide (n ≤ 60)
def OutP (K : PySem.W.Frag) (T : Tb) (CC : Addr) (H : Hp) (c : Addr) (A : Ad) (s0 : Ch) (cnt : Int) (Q : VK) : Prop := ∃ (J : Ch → List Rw → Nat → Prop) (n0 : Nat), J s0 [] n0 ∧
  (∀ s rows n, J s rows n → rows.length ≤ 100 ∧ s.poured.length ≤ 5000) ∧
  (∀ s rows n, J s rows n → s.row ≠ [] → (s.poured.length : Int) < s0.poured.length + cnt → ∃ D, Rdy D s 0) ∧
  (∀ s rows n, J s rows n → s.row ≠ [] → (s.poured.length : Int) < s0.poured.length + cnt → ∀ s' rows', ItR s (meetS s) s' rows' → ∃ m, m < n ∧ J s' (rows ++ rows') m) ∧
  (∀ s rows n, J s rows n → (s.row = [] ∨ ¬ (s.poured.length : Int) < s0.poured.length + cnt) → ∀ H' A' p us, Sx T (ownC c A) H H' → ChAt K CC H' c A' s → (∀ x ∈ ownC c A', x ∈ ownC c A ∨ H x = none) → p ∉ ownC c A' → H p = none → H' p = some (.lst us) → DpAll K H' us (rows.map rowD) → Q (.ref p) H')
def sp_p_Chain_outs (K : PySem.W.Frag) (T : Tb) (CP CC : Addr) : Sp := fun vs H Q E => ∃ (c : Addr) (A : Ad) (s0 : Ch) (cnt : Int), vs = [.ref c, .int cnt] ∧ ChAt K CC H c A s0 ∧
  (outsB cnt = false → ∀ cls d H', Sm T H H' → Rf K CP "bad count" cls d H' → E cls d H') ∧
  (outsB cnt = true → s0.row = [] → ∀ cls d H', Sm T H H' → Rf K CP "nobody" cls d H' → E cls d H') ∧
  (outsB cnt = true → s0.row ≠ [] → OutP K T CC H c A s0 cnt Q)
theorem ok_p_Chain_outs {f : Addr} {fd : FuncData} {u_MOST_OUTS : Value} (F : Fun K "outs" "Chain.outs" s_p_Chain_outs f fd) (B : Bn mg) (C_MOST_OUTS : RelV (.int 60) u_MOST_OUTS ∧ mg "MOST_OUTS" = some u_MOST_OUTS) {CP : Addr} (R_BadCount : Err P w K mg base CP "BadCount" "bad count") (R_Nobody : Err P w K mg base CP "Nobody" "nobody") {CC : Addr} (TC : Kl K CC) (F_p_is_within : Fn P w K mg base 2 "is_within" ["thing", "least", "most"] (sp_p_is_within K T)) (M_till_meeting : Mt P w K mg base CC 6 "till_meeting" ["self"] (sp_p_Chain_till_meeting K T CC)) (M_walk : Mt P w K mg base CC 5 "walk" ["self", "hours"] (sp_p_Chain_walk K T CC)) (M_turns : Mt P w K mg base CC 4 "turns" ["self"] (sp_p_Chain_turns K T CC)) : FnOk P w K mg base (L2.CX P w) 7 f fd ["self", "count"] (sp_p_Chain_outs K T CP CC) := by
  obtain ⟨⟨tM, rfl⟩, gM⟩ := id C_MOST_OUTS
  refine F.okX sc_p_Chain_outs (fun vs H Q E h => ?_) (fun cdv A outer s H vs Q E hr h => ?_)
  · obtain ⟨c, A, s0, cnt, rfl, _⟩ := h
    rfl
  · obtain ⟨c, A, s0, cnt, rfl, h, kb, kn, kk⟩ := h
    refine ⟨_, (pss_cons (ps_if (pt_not (pt_val (pe_fn F_p_is_within (hr.mono (by decide)) (pa_cons (pv 1) (pa_cons pe_int (pa_cons (pe_glob (by rfl) C_MOST_OUTS.2 C_MOST_OUTS.1) pa_nil)))))) (pss_one (ps_raise rfl (takes_of rfl rfl rfl rfl) (pmk_err R_BadCount (hr.mono (by decide)) (by rfl)))) pss_nil)
      (pss_cons (ps_if (pt_not (pt_truth (pe_fc TC.cl (TC.no "row" (by decide +kernel)) (pv 0)) (by intro _; rfl))) (pss_one (ps_raise rfl (takes_of rfl rfl rfl rfl) (pmk_err R_Nobody (hr.mono (by decide)) (by rfl)))) pss_nil)
      (pss_cons (ps_set (i := 2) sc_p_Chain_outs.nd rfl (.inl rfl) (pe_lst pa_nil))
      (pss_cons (ps_set (i := 3) sc_p_Chain_outs.nd rfl (.inl rfl) (pe_op op_add (pe_callB call_len_seq (by rfl) B.len_ (by decide +kernel) (pa_cons (pe_fc TC.cl (TC.no "poured" (by decide +kernel)) (pv 0)) pa_nil)) (pv 1)))
      (pss_cons (ps_while (passes_of rfl) (PW.pt (pw_and (pt_truth (pe_fc TC.cl (TC.no "row" (by decide +kernel)) (pv 0)) (by intro _; rfl)) (pw_and1 (pt_cmpR op_lt (pe_callB call_len_seq (by rfl) B.len_ (by decide +kernel) (pa_cons (pe_fc TC.cl (TC.no "poured" (by decide +kernel)) (pv 0)) pa_nil)) (pv 3) (nomark _))))) (pss_cons (ps_expr (pe_mt M_walk TC.cl (hr.mono (by decide)) (pv 0) (pa_cons (pe_mt0 M_till_meeting TC.cl (hr.mono (by decide)) (pv 0) ) pa_nil)))
      (pss_one (ps_expr (pe_bm PySem.F.plainAttrs_list PySem.F.slot_list_extend PySem.F.type_list_extend mt_extend (pv 2) (pa_cons (pe_mt0 M_turns TC.cl (hr.mono (by decide)) (pv 0) ) pa_nil))))))
      (pss_one (ps_ret (pv 2)))))))), ?_⟩
    refine ⟨_, rfl, cnt, 1, 60, rfl, _, rfl, ?_⟩
    show if (!(outsB cnt)) = true then _ else _
    cases hz : outsB cnt with
    | false => exact iteT fun cls dd hn rf => kb hz cls (some dd) _ (same_upd hn) rf
    | true =>
      refine iteF ?_
      refine ⟨_, rfl, c, _, _, _, rfl, h.ins, fl_rw, _, .inl ⟨_, SqL.of h.rw, rfl⟩, ?_⟩
      by_cases hne0 : s0.row = []
      · rw [hne0]
        exact iteT fun cls dd hn rf => kn hz hne0 cls (some dd) _ (same_upd hn) rf
      have hb0 : ((s0.row.map V.str).isEmpty) = false := by
        cases hs : s0.row with
        | nil => exact absurd hs hne0
        | cons a l => rfl
      rw [hb0]
      refine iteF ?_
      obtain ⟨J, n0, j0, jb, jr, js, je⟩ := kk hz hne0
      refine ⟨Nat.zero_le _, fun o no => ?_⟩
      have u0 := same_upd (T := T) (o := .lst []) no
      have h1 := h.sm u0
      refine ⟨_, rfl, c, _, _, _, rfl, h1.ins, fl_pr, A.pr, _, rfl, .inl (SqL.of h1.pr), _, rfl, _, _, rfl, rfl, ?_⟩
      rw [List.length_map]
      refine ⟨fun n σ H3 => ∃ s rows us A3, J s rows n ∧ Sx T (ownC c A) H H3 ∧ ChAt K CC H3 c A3 s ∧ (∀ x ∈ ownC c A3, x ∈ ownC c A ∨ H x = none) ∧ o ∉ ownC c A3 ∧ σ = [some (.ref c), some (.int cnt), some (.ref o), some (.int ((s0.poured.length : Int) + cnt))] ∧ H3 o = some (.lst us) ∧ DpAll K H3 us (rows.map rowD),
        ⟨n0, s0, [], [], A, j0, u0.sx, h1, fun _ h => .inl h, h.new no, rfl, upd_same, .nil⟩, ?_⟩
      rintro n σ H3 ⟨s, rows, us, A3, j, x3, h3, fr3, no3, rfl, eo, du⟩
      have bb := jb s rows n j
      refine ⟨_, rfl, c, _, _, _, rfl, h3.ins, fl_rw, _, .inl ⟨_, SqL.of h3.rw, rfl⟩, ?_⟩
      by_cases hne : s.row = []
      · rw [hne]
        exact iteF (iteF ⟨_, rfl, je s rows n j (.inl hne) H3 A3 o us x3 h3 fr3 no3 no eo du⟩)
      have hb : ((s.row.map V.str).isEmpty) = false := by
        cases hs : s.row with
        | nil => exact absurd hs hne
        | cons a l => rfl
      rw [hb]
      refine iteT ?_
      refine ⟨_, rfl, c, _, _, _, rfl, h3.ins, fl_pr, A3.pr, _, rfl, .inl (SqL.of h3.pr), _, rfl, _, _, rfl, rfl, _, rfl, ?_⟩
      rw [List.length_map]
      by_cases hpos : ¬ (s.poured.length : Int) < (s0.poured.length : Int) + cnt
      · rw [decide_eq_false hpos]
        exact iteF ⟨_, rfl, je s rows n j (.inr hpos) H3 A3 o us x3 h3 fr3 no3 no eo du⟩
      have hpos : (s.poured.length : Int) < (s0.poured.length : Int) + cnt := Classical.not_not.mp hpos
      rw [decide_eq_true hpos]
      refine iteT ⟨fun σ' H' => ∃ m', m' < n ∧ ∃ s rows us A3, J s rows m' ∧ Sx T (ownC c A) H H' ∧ ChAt K CC H' c A3 s ∧ (∀ x ∈ ownC c A3, x ∈ ownC c A ∨ H x = none) ∧ o ∉ ownC c A3 ∧ σ' = [some (.ref c), some (.int cnt), some (.ref o), some (.int ((s0.poured.length : Int) + cnt))] ∧ H' o = some (.lst us) ∧ DpAll K H' us (rows.map rowD), fun _ _ z => z, ?_⟩
      obtain ⟨D, rd⟩ := jr s rows n j hne hpos
      obtain ⟨k, k1, k12, kf, m0, m1⟩ := meet_ok rd.w hne
      have wk' := rd.w.scale k1 k12 rd.d12
      have mf : Fr (D * k) (meetS s) ∧ 0 ≤ meetS s ∧ meetS s ≤ 50000 := ⟨kf, m0, Rat.le_trans m1 (by decide)⟩
      refine ⟨_, rfl, c, _, _, rfl, h3.ins, fl_no (by decide +kernel), _, rfl, c, _, _, rfl, h3.ins, fl_no (by decide +kernel), D, c, A3, s, rfl, h3, rd.w, hne, fun pm H4 s4 hpm => ?_⟩
      have h4 := h3.sm s4
      refine ⟨D * k, c, A3, s, pm, meetS s, rfl, h4, wk', hpm, mf, fun H5 A5 x5' fr5 h5 => ?_⟩
      have eo4 := s4.k eo
      have no5 : o ∉ ownC c A5 := fun z => (fr5 o z).elim no3 fun z' => by rw [eo4] at z'; cases z'
      have eo5 := x5'.lst eo4 no3
      have x05 := (x3.sm' s4).trans x5' fr3
      have fr05 : ∀ x ∈ ownC c A5, x ∈ ownC c A ∨ H x = none := fun x hx => (fr5 x hx).elim (fr3 x) fun z => .inr (x3.free _ (s4.free _ z))
      have ft6 : Fit2 (walkS s (meetS s)) := ⟨⟨rd.ft.sd.ll, by show (walkM _ _ _).length = _; rw [walkM_len, pcs_len]; rfl, rd.ft.sd.n8, rd.ft.sd.ld⟩, rd.ft.lv, rd.ft.f1, rd.ft.ml, rd.ft.mm, rd.ft.pl⟩
      refine ⟨_, rfl, .inl ⟨rfl, _, SqL.of eo5⟩, _, rfl, c, _, _, rfl, h5.ins, fl_no (by decide +kernel), c, A5, _, rfl, h5, ft6, fun p7 H7 us7 s' rows' x7 h7 tn l8 nl np7 ep7 du7 => ?_⟩
      have eo7 := x7.lst eo5 no5
      have du6 := x7.dps 3 _ _ (noL_rows _) (x5'.dps 3 _ _ (noL_rows _) (dpa_same s4 _ _ du))
      have lus : us.length = rows.length := by rw [dpa_len du, List.length_map]
      have lus7 : us7.length = rows'.length := by rw [dpa_len du7, List.length_map]
      refine ⟨o, p7, us, us7, rfl, rfl, eo7, ep7, sz (by have := bb.1; omega), ?_⟩
      have xo : Sx T [o] H7 (upd H7 o (.lst (us ++ us7))) := sx_upd eo7 rfl List.mem_cons_self
      have h8 := h7.sx xo fun y hy z => no5 (by rw [← List.mem_singleton.mp z]; exact hy)
      have x08 : Sx T (ownC c A) H (upd H7 o (.lst (us ++ us7))) := (x05.trans x7 fr05).trans xo fun y hy => .inr (by rw [List.mem_singleton.mp hy]; exact no)
      have du8 : DpAll K (upd H7 o (.lst (us ++ us7))) (us ++ us7) ((rows ++ rows').map rowD) := by
        rw [List.map_append]
        exact xo.dps 3 _ _ (by rw [List.all_append, noL_rows, noL_rows]; rfl) (dpa_app du6 du7)
      obtain ⟨m, hm, j'⟩ := js s rows n j hne hpos s' rows' ⟨tn, l8, nl⟩
      exact ⟨m, hm, s', rows ++ rows', us ++ us7, A5, j', x08, h8, fr05, no5, rfl, upd_same, du8⟩

def sp_l_split (K : PySem.W.Frag) (T : Tb) : Sp := fun vs H Q _ => ∃ (c : Int) (n : Nat), vs = [.int c, .int n] ∧ n ≤ 100 ∧
  ∀ p H' (zs : List Int), Sm T H H' → H p = none → H' p = some (.lst (zs.map V.int)) → zs.length = n → Q (.ref p) H'
theorem ok_l_split {f : Addr} {fd : FuncData} (F : Fun K "_law_split" "_law_split" s_l_split f fd) (B : Bn mg) : FnOk P w K mg base CX0 1 f fd ["_law_cell_here", "_law_many_here"] (sp_l_split K T) := by
  refine F.ok sc_l_split (fun vs H Q E h => ?_) (fun cdv A outer s H vs Q E hr h => ?_)
  · obtain ⟨c, n, rfl, _⟩ := h
    rfl
  · obtain ⟨c, n, rfl, hn, q⟩ := h
    refine ⟨_, (pss_cons (ps_set (i := 2) sc_l_split.nd rfl (.inl rfl) (pe_lst pa_nil))
      (pss_cons (ps_set (i := 3) sc_l_split.nd rfl (.inl rfl) (pe_cmpR op_ge (pv 0) (pe_op op_pow pe_int pe_int) (nomark _)))
      (pss_cons (ps_for PassesOwn.never rfl (pi_range1 (by rfl) B.range_ (pa_cons (pv 1) pa_nil)) (pg_name (i := 4) sc_l_split.nd rfl (.inl rfl))
      (pss_one (ps_if (pt_val (pv 3)) (pss_cons (ps_expr (pe_bm PySem.F.plainAttrs_list PySem.F.slot_list_append PySem.F.type_list_append mt_append (pv 2) (pa_cons (pe_op op_add (pe_op op_pow pe_int pe_int) (pe_op op_mod (pv 0) (pe_op op_pow pe_int pe_int))) pa_nil)))
      (pss_one (ps_set (i := 0) sc_l_split.nd rfl (.inl rfl) (pe_op op_fdivW (pv 0) (pe_op op_pow pe_int pe_int))))) (pss_one (ps_expr (pe_bm PySem.F.plainAttrs_list PySem.F.slot_list_append PySem.F.type_list_append mt_append (pv 2) (pa_cons (pe_op op_add (pe_op op_mul (pv 0) (pe_op op_add (pe_op op_mul pe_int (pv 4)) pe_int)) (pe_op op_mul pe_int (pv 4))) pa_nil)))))))
      (pss_one (ps_ret (pv 2)))))), ?_⟩
    refine ⟨Nat.zero_le _, fun o no => ?_⟩
    refine ⟨_, rfl, _, _, rfl, rfl, ⟨by decide, by decide, by decide⟩, _, _, rfl, rfl, ?_⟩
    refine ⟨_, rfl, n, rfl, by omega, by omega, for_range (lo := 0) (n := n)
      (fun i σ H3 => ∃ (c : Int) (b : Bool) (x4 : Option V) (zs : List Int), σ = [some (.int c), some (.int n), some (.ref o), some (.bl b), x4] ∧ Sm T H H3 ∧ H3 o = some (.lst (zs.map V.int)) ∧ zs.length = i)
      ⟨c, _, none, [], rfl, same_upd no, upd_same, rfl⟩ ?_ ?_⟩
    · rintro i σ H3 hi ⟨c, b, x4, zs, rfl, sm, eo, hl⟩
      have hs : (zs.map V.int).length < sizeLine := by
        rw [List.length_map]
        exact szl (by omega)
      refine ⟨_, rfl, _, rfl, ?_⟩
      cases b with
      | true =>
        refine iteT ?_
        refine ⟨_, rfl, .inl ⟨rfl, _, SqL.of eo⟩, _, _, rfl, rfl, ⟨by decide, by decide, by decide⟩, _, rfl, _, _, rfl, rfl, ⟨by decide, by decide, by decide⟩, _, _, rfl, rfl, (by show (0 : Int) < 10 ^ 30; decide), _, _, rfl, rfl, o, _, _, rfl, rfl, eo, hs, ?_⟩
        refine ⟨_, rfl, _, _, rfl, rfl, ⟨by decide, by decide, by decide⟩, _, _, rfl, rfl, wide_div (b := 200) (by show (0 : Int) < 10 ^ 30; decide) (by decide) (by decide) (by decide), ?_⟩
        refine ⟨_, true, _, zs ++ [10 ^ (18 : Int).toNat + c % 10 ^ (30 : Int).toNat], rfl, same_mut sm no eo, ?_, ?_⟩
        · rw [upd_same, List.map_append]
          rfl
        · rw [List.length_append, hl]
          rfl
      | false =>
        refine iteF ?_
        refine ⟨_, rfl, .inl ⟨rfl, _, SqL.of eo⟩, _, rfl, _, rfl, _, _, rfl, rfl, .inl ⟨by decide, by decide⟩, _, _, rfl, rfl, _, _, rfl, rfl, .inr ⟨by omega, by omega⟩, _, rfl, _, _, rfl, rfl, .inl ⟨by decide, by decide⟩, _, _, rfl, rfl, o, _, _, rfl, rfl, eo, hs, ?_⟩
        refine ⟨_, false, _, zs ++ [c * (2 * (0 + (i : Int)) + 3) + 7919 * (0 + (i : Int))], rfl, same_mut sm no eo, ?_, ?_⟩
        · rw [upd_same, List.map_append]
          rfl
        · rw [List.length_append, hl]
          rfl
    · rintro σ H3 ⟨c, b, x4, zs, rfl, sm, eo, hl⟩
      exact ⟨_, rfl, q o H3 zs sm no eo hl⟩

def sp_l_gcd (K : PySem.W.Frag) (T : Tb) : Sp := fun vs H Q _ => ∃ a b : Nat, vs = [.int a, .int b] ∧ Q (.int (Nat.gcd a b : Nat)) H
theorem ok_l_gcd {f : Addr} {fd : FuncData} (F : Fun K "_law_gcd" "_law_gcd" s_l_gcd f fd) : FnOk P w K mg base CX0 1 f fd ["_law_one", "_law_other"] (sp_l_gcd K T) := by
  refine F.ok sc_l_gcd (fun vs H Q E h => ?_) (fun cdv A outer s H vs Q E hr h => ?_)
  · obtain ⟨a, b, rfl, _⟩ := h
    rfl
  · obtain ⟨a, b, rfl, q⟩ := h
    refine ⟨_, (pss_cons (ps_while PassesOwn.never (pt_cmpR op_gt (pv 1) pe_int (nomark _)) (pss_one (ps_par (i := 0) (j := 1) (by rfl) sc_l_gcd.nd rfl rfl (by decide) rfl rfl (pa_cons (pv 1) (pa_cons (pe_op op_mod (pv 0) (pv 1)) pa_nil)) (by rfl))))
      (pss_one (ps_ret (pv 0)))), ?_⟩
    refine while_by (fun σ H' => ∃ x y : Nat, σ = [some (.int x), some (.int y)] ∧ H' = H ∧ Nat.gcd x y = Nat.gcd a b) (fun σ _ => match σ with | [_, some (.int y)] => y.toNat | _ => 0) ⟨a, b, rfl, rfl, rfl⟩ ?_ ?_
    · rintro σ H' ⟨x, y, rfl, rfl, hg⟩
      refine ⟨_, rfl, _, _, rfl, rfl, _, rfl, ite2 (fun e => ?_) (fun e => ?_)⟩
      · have hy : 0 < y := by
          have : (0 : Int) < (y : Int) := of_decide_eq_true e
          omega
        refine ⟨_, rfl, _, rfl, _, rfl, _, _, rfl, rfl, (by show (0 : Int) < (y : Int); omega), _, _, rfl, ⟨y, x % y, ?_, rfl, ?_⟩, ?_⟩
        · show [some (V.int y), some (V.int ((x : Int) % (y : Int)))] = _
          rw [Int.natCast_emod]
        · rw [← hg, Nat.gcd_comm x y, Nat.gcd_rec y x, Nat.gcd_comm]
        · show ((x : Int) % (y : Int)).toNat < (y : Int).toNat
          rw [← Int.natCast_emod, Int.toNat_natCast, Int.toNat_natCast]
          exact Nat.mod_lt _ hy
      · have hy : y = 0 := by
          have : ¬ (0 : Int) < (y : Int) := fun z => e (decide_eq_true z)
          omega
        subst hy
        refine ⟨_, rfl, ?_⟩
        rw [← hg, Nat.gcd_zero_right] at q
        exact q
    · rintro σ H Q Q' m ⟨v, e, i, j, e1, e2, k, e3, q⟩
      exact ⟨v, e, i, j, e1, e2, k, e3, m _ _ q⟩

def sp_l_amt (K : PySem.W.Frag) (T : Tb) : Sp := fun vs H Q _ => ∃ n d : Int, vs = [.int n, .int d] ∧ 0 < d ∧ d.natAbs < 2 ^ 8900 ∧ ∀ p H', Sm T H H' → H p = none → H' p = some (.tup (tv (amt n d))) → Q (.ref p) H'
theorem ok_l_amt {f : Addr} {fd : FuncData} (F : Fun K "_law_amt" "_law_amt" s_l_amt f fd) (B : Bn mg) (F_l_gcd : Fn P w K mg base 1 "_law_gcd" ["_law_one", "_law_other"] (sp_l_gcd K T)) : FnOk P w K mg base CX0 2 f fd ["_law_num", "_law_den"] (sp_l_amt K T) := by
  refine F.ok sc_l_amt (fun vs H Q E h => ?_) (fun cdv A outer s H vs Q E hr h => ?_)
  · obtain ⟨n, d, rfl, _⟩ := h
    rfl
  · obtain ⟨n, d, rfl, hd, hb, q⟩ := h
    refine ⟨_, (pss_cons (ps_set (i := 2) sc_l_amt.nd rfl (.inl rfl) (pe_fn F_l_gcd (hr.mono (by decide)) (pa_cons (pe_callB call_abs (by rfl) B.abs_ (by decide +kernel) (pa_cons (pv 0) pa_nil)) (pa_cons (pv 1) pa_nil))))
      (pss_one (ps_ret (pe_tup (pa_cons (pe_op op_fdivW (pv 0) (pv 2)) (pa_cons (pe_op op_fdivW (pv 1) (pv 2)) pa_nil)))))), ?_⟩
    have hg := gcd_bound (n := n) (d := d) (by omega) hb
    have e1 : (if n < 0 then -n else n) = (n.natAbs : Int) := by split <;> omega
    have e2 : d = (d.natAbs : Int) := by omega
    refine ⟨_, rfl, _, rfl, _, rfl, n.natAbs, d.natAbs, ?_, ?_⟩
    · show [V.int (if n < 0 then -n else n), V.int d] ++ [] = _
      rw [e1, ← e2]
      rfl
    · refine ⟨_, rfl, _, rfl, _, _, rfl, rfl, wide_div (b := 8900) (by omega) (by rw [Int.natAbs_natCast]; exact hg.2) (by decide) (by decide), ?_⟩
      refine ⟨_, rfl, _, rfl, _, _, rfl, rfl, wide_div (b := 8900) (by omega) (by rw [Int.natAbs_natCast]; exact hg.2) (by decide) (by decide), ?_⟩
      refine ⟨by show 2 ≤ sizeLine; decide, fun p hp => ?_⟩
      refine q p _ (same_upd hp) hp (upd_same.trans ?_)
      show some (HO.tup [V.int (n / ((Nat.gcd n.natAbs d.natAbs : Nat) : Int)), V.int (d / ((Nat.gcd n.natAbs d.natAbs : Nat) : Int))]) = some (HO.tup [V.int ((if d < 0 then -n else n) / ((Nat.gcd n.natAbs d.natAbs : Nat) : Int)), V.int ((d.natAbs : Int) / ((Nat.gcd n.natAbs d.natAbs : Nat) : Int))])
      rw [if_neg (by omega : ¬ d < 0), ← e2]

def sp_l_same_n (n : Nat) (K : PySem.W.Frag) (T : Tb) : Sp := fun vs H Q _ => ∃ x y d, vs = [x, y] ∧ Dp K H x d ∧ Dp K H y d ∧ depOk n d = true ∧ ∀ H', Sm T H H' → Q (.bl true) H'
abbrev sp_l_same (K : PySem.W.Frag) (T : Tb) : Sp := sp_l_same_n 5 K T
theorem ok_l_same_n {f : Addr} {fd : FuncData} (F : Fun K "_law_same" "_law_same" s_l_same f fd) (B : Bn mg) (g : mg "_law_same" = some (.ref f)) (b : Binds K fd ["_law_found", "_law_due"] []) :
    ∀ n, FnOk P w K mg base CX0 (n + 1) f fd ["_law_found", "_law_due"] (sp_l_same_n n K T)
  | 0 => by
    refine F.ok sc_l_same (fun vs H Q E h => ?_) (fun cdv A outer s H vs Q E hr h => ?_)
    · obtain ⟨x, y, d, rfl, _⟩ := h
      rfl
    · obtain ⟨x, y, d, rfl, hx, hy, hd, q⟩ := h
      have tx := tyx_of hx
      have ty := tyx_of hy
      have q0 := q H Sm.refl
      refine ⟨_, (pss_cons (ps_if (pt_cmpR op_isN (pv 1) pe_non (nomark _)) (pss_one (ps_ret (pe_cmpR op_isN (pv 0) pe_non (nomark _)))) pss_nil)
      (pss_cons (ps_if (PW.pt (pw_or (pt_val (pe_callB call_isi (by rfl) B.isinstance_ (by decide +kernel) (pa_cons (pv 1) (pa_cons (pe_bltn (v := .ty "bool") (by rfl) B.bool_ (by decide +kernel) rfl) pa_nil)))) (pw_or1 (pt_val (pe_callB call_isi (by rfl) B.isinstance_ (by decide +kernel) (pa_cons (pv 0) (pa_cons (pe_bltn (v := .ty "bool") (by rfl) B.bool_ (by decide +kernel) rfl) pa_nil))))))) (pss_one (ps_ret (pe_and (pe_callB call_isi (by rfl) B.isinstance_ (by decide +kernel) (pa_cons (pv 1) (pa_cons (pe_bltn (v := .ty "bool") (by rfl) B.bool_ (by decide +kernel) rfl) pa_nil))) (pe_and (pe_callB call_isi (by rfl) B.isinstance_ (by decide +kernel) (pa_cons (pv 0) (pa_cons (pe_bltn (v := .ty "bool") (by rfl) B.bool_ (by decide +kernel) rfl) pa_nil))) (pe_one (pe_cmpR op_eq (pv 0) (pv 1) (nomark _))))))) pss_nil)
      (pss_cons (ps_if (pt_val (pe_callB call_isi (by rfl) B.isinstance_ (by decide +kernel) (pa_cons (pv 1) (pa_cons (pe_bltn (v := .ty "int") (by rfl) B.int_ (by decide +kernel) rfl) pa_nil)))) (pss_one (ps_ret (pe_and (pe_callB call_isi (by rfl) B.isinstance_ (by decide +kernel) (pa_cons (pv 0) (pa_cons (pe_bltn (v := .ty "int") (by rfl) B.int_ (by decide +kernel) rfl) pa_nil))) (pe_one (pe_cmpR op_eq (pv 0) (pv 1) (nomark _)))))) pss_nil)
      (pss_cons (ps_if (pt_val (pe_callB call_isi (by rfl) B.isinstance_ (by decide +kernel) (pa_cons (pv 1) (pa_cons (pe_bltn (v := .ty "str") (by rfl) B.str_ (by decide +kernel) rfl) pa_nil)))) (pss_one (ps_ret (pe_and (pe_callB call_isi (by rfl) B.isinstance_ (by decide +kernel) (pa_cons (pv 0) (pa_cons (pe_bltn (v := .ty "str") (by rfl) B.str_ (by decide +kernel) rfl) pa_nil))) (pe_one (pe_cmpR op_eq (pv 0) (pv 1) (nomark _)))))) pss_nil)
      (pss_cons (ps_if (PW.pt (pw_or (pt_cmpR op_ne (pe_callB call_isi (by rfl) B.isinstance_ (by decide +kernel) (pa_cons (pv 1) (pa_cons (pe_bltn (v := .ty "tuple") (by rfl) B.tuple_ (by decide +kernel) rfl) pa_nil))) (pe_callB call_isi (by rfl) B.isinstance_ (by decide +kernel) (pa_cons (pv 0) (pa_cons (pe_bltn (v := .ty "tuple") (by rfl) B.tuple_ (by decide +kernel) rfl) pa_nil))) (nomark _)) (pw_or1 (pt_cmpR op_ne (pe_callB call_isi (by rfl) B.isinstance_ (by decide +kernel) (pa_cons (pv 1) (pa_cons (pe_bltn (v := .ty "list") (by rfl) B.list_ (by decide +kernel) rfl) pa_nil))) (pe_callB call_isi (by rfl) B.isinstance_ (by decide +kernel) (pa_cons (pv 0) (pa_cons (pe_bltn (v := .ty "list") (by rfl) B.list_ (by decide +kernel) rfl) pa_nil))) (nomark _))))) (pss_one (ps_ret pe_bl)) pss_nil)
      (pss_one ps_never)))))), ?_⟩
      cases d with
      | none =>
        cases hx; cases hy
        exact ⟨_, rfl, rfl, _, rfl, iteT ⟨_, rfl, rfl, q0⟩⟩
      | bool b =>
        cases hx; cases hy
        refine ⟨_, rfl, rfl, _, rfl, iteF ?_⟩
        refine ⟨_, rfl, _, _, _, _, true, rfl, .ty "bool", ty, kit_ty kb_bool_bool, _, rfl, iteT (iteT ?_)⟩
        refine ⟨_, rfl, _, _, _, _, true, rfl, .ty "bool", ty, kit_ty kb_bool_bool, _, rfl, iteT ?_⟩
        refine ⟨_, rfl, _, _, _, _, true, rfl, .ty "bool", tx, kit_ty kb_bool_bool, _, rfl, iteT ?_⟩
        refine ⟨_, rfl, _, rfl, rfl, ?_⟩
        rw [decide_eq_true rfl]
        exact q0
      | int i =>
        cases hx; cases hy
        refine ⟨_, rfl, rfl, _, rfl, iteF ?_⟩
        refine ⟨_, rfl, _, _, _, _, false, rfl, .ty "bool", ty, kit_ty kb_int_bool, _, rfl, iteF ?_⟩
        refine ⟨_, rfl, _, _, _, _, false, rfl, .ty "bool", tx, kit_ty kb_int_bool, _, rfl, iteF ?_⟩
        refine ⟨_, rfl, _, _, _, _, true, rfl, .ty "int", ty, kit_ty kb_int_int, _, rfl, iteT ?_⟩
        refine ⟨_, rfl, _, _, _, _, true, rfl, .ty "int", tx, kit_ty kb_int_int, _, rfl, iteT ?_⟩
        refine ⟨_, rfl, _, rfl, rfl, ?_⟩
        rw [decide_eq_true rfl]
        exact q0
      | str z =>
        cases hx; cases hy
        refine ⟨_, rfl, rfl, _, rfl, iteF ?_⟩
        refine ⟨_, rfl, _, _, _, _, false, rfl, .ty "bool", ty, kit_ty kb_str_bool, _, rfl, iteF ?_⟩
        refine ⟨_, rfl, _, _, _, _, false, rfl, .ty "bool", tx, kit_ty kb_str_bool, _, rfl, iteF ?_⟩
        refine ⟨_, rfl, _, _, _, _, false, rfl, .ty "int", ty, kit_ty kb_str_int, _, rfl, iteF ?_⟩
        refine ⟨_, rfl, _, _, _, _, true, rfl, .ty "str", ty, kit_ty kb_str_str, _, rfl, iteT ?_⟩
        refine ⟨_, rfl, _, _, _, _, true, rfl, .ty "str", tx, kit_ty kb_str_str, _, rfl, iteT ?_⟩
        refine ⟨_, rfl, _, rfl, rfl, ?_⟩
        rw [decide_eq_true rfl]
        exact q0
      | list ds => cases hd
      | tuple ds => cases hd
      | dict _ => cases hd
  | n + 1 => by
    have F_l_same : Fn P w K mg base (n + 1) "_law_same" ["_law_found", "_law_due"] (sp_l_same_n n K T) := Fn.mk' (ok_l_same_n F B g b n) g F.kp b
    refine F.ok sc_l_same (fun vs H Q E h => ?_) (fun cdv A outer s H vs Q E hr h => ?_)
    · obtain ⟨x, y, d, rfl, _⟩ := h
      rfl
    · obtain ⟨x, y, d, rfl, hx, hy, hd, q⟩ := h
      have tx := tyx_of hx
      have ty := tyx_of hy
      have q0 := q H Sm.refl
      refine ⟨_, (pss_cons (ps_if (pt_cmpR op_isN (pv 1) pe_non (nomark _)) (pss_one (ps_ret (pe_cmpR op_isN (pv 0) pe_non (nomark _)))) pss_nil)
      (pss_cons (ps_if (PW.pt (pw_or (pt_val (pe_callB call_isi (by rfl) B.isinstance_ (by decide +kernel) (pa_cons (pv 1) (pa_cons (pe_bltn (v := .ty "bool") (by rfl) B.bool_ (by decide +kernel) rfl) pa_nil)))) (pw_or1 (pt_val (pe_callB call_isi (by rfl) B.isinstance_ (by decide +kernel) (pa_cons (pv 0) (pa_cons (pe_bltn (v := .ty "bool") (by rfl) B.bool_ (by decide +kernel) rfl) pa_nil))))))) (pss_one (ps_ret (pe_and (pe_callB call_isi (by rfl) B.isinstance_ (by decide +kernel) (pa_cons (pv 1) (pa_cons (pe_bltn (v := .ty "bool") (by rfl) B.bool_ (by decide +kernel) rfl) pa_nil))) (pe_and (pe_callB call_isi (by rfl) B.isinstance_ (by decide +kernel) (pa_cons (pv 0) (pa_cons (pe_bltn (v := .ty "bool") (by rfl) B.bool_ (by decide +kernel) rfl) pa_nil))) (pe_one (pe_cmpR op_eq (pv 0) (pv 1) (nomark _))))))) pss_nil)
      (pss_cons (ps_if (pt_val (pe_callB call_isi (by rfl) B.isinstance_ (by decide +kernel) (pa_cons (pv 1) (pa_cons (pe_bltn (v := .ty "int") (by rfl) B.int_ (by decide +kernel) rfl) pa_nil)))) (pss_one (ps_ret (pe_and (pe_callB call_isi (by rfl) B.isinstance_ (by decide +kernel) (pa_cons (pv 0) (pa_cons (pe_bltn (v := .ty "int") (by rfl) B.int_ (by decide +kernel) rfl) pa_nil))) (pe_one (pe_cmpR op_eq (pv 0) (pv 1) (nomark _)))))) pss_nil)
      (pss_cons (ps_if (pt_val (pe_callB call_isi (by rfl) B.isinstance_ (by decide +kernel) (pa_cons (pv 1) (pa_cons (pe_bltn (v := .ty "str") (by rfl) B.str_ (by decide +kernel) rfl) pa_nil)))) (pss_one (ps_ret (pe_and (pe_callB call_isi (by rfl) B.isinstance_ (by decide +kernel) (pa_cons (pv 0) (pa_cons (pe_bltn (v := .ty "str") (by rfl) B.str_ (by decide +kernel) rfl) pa_nil))) (pe_one (pe_cmpR op_eq (pv 0) (pv 1) (nomark _)))))) pss_nil)
      (pss_cons (ps_if (PW.pt (pw_or (pt_cmpR op_ne (pe_callB call_isi (by rfl) B.isinstance_ (by decide +kernel) (pa_cons (pv 1) (pa_cons (pe_bltn (v := .ty "tuple") (by rfl) B.tuple_ (by decide +kernel) rfl) pa_nil))) (pe_callB call_isi (by rfl) B.isinstance_ (by decide +kernel) (pa_cons (pv 0) (pa_cons (pe_bltn (v := .ty "tuple") (by rfl) B.tuple_ (by decide +kernel) rfl) pa_nil))) (nomark _)) (pw_or1 (pt_cmpR op_ne (pe_callB call_isi (by rfl) B.isinstance_ (by decide +kernel) (pa_cons (pv 1) (pa_cons (pe_bltn (v := .ty "list") (by rfl) B.list_ (by decide +kernel) rfl) pa_nil))) (pe_callB call_isi (by rfl) B.isinstance_ (by decide +kernel) (pa_cons (pv 0) (pa_cons (pe_bltn (v := .ty "list") (by rfl) B.list_ (by decide +kernel) rfl) pa_nil))) (nomark _))))) (pss_one (ps_ret pe_bl)) pss_nil)
      (pss_one (ps_ret (pe_and (pe_cmpR op_eq (pe_callB call_len_seq (by rfl) B.len_ (by decide +kernel) (pa_cons (pv 0) pa_nil)) (pe_callB call_len_seq (by rfl) B.len_ (by decide +kernel) (pa_cons (pv 1) pa_nil)) (nomark _)) (pe_one (pe_callB (cr_all rfl) (by rfl) B.all_ (by decide +kernel) (pa_cons (pe_lc (own := [("_law_k", 2)]) (g := (gName 2)) (tt := tYes) (by rfl) sc_l_same.nd (pi_range1 (by rfl) B.range_ (pa_cons (pe_callB call_len_seq (by rfl) B.len_ (by decide +kernel) (pa_cons (pv 1) pa_nil)) pa_nil)) (blkOk_by (own := [("_law_k", 2)]) (N := ["_law_found", "_law_due", "_law_k"]) (sc := (defScope s_l_same)) (by decide +kernel)) (fun _ _ _ _ _ => (pg_name (i := 2) sc_l_same.nd rfl (.inl rfl))) (fun _ _ _ _ _ => pts_nil) (fun _ _ _ _ _ => (pe_fn F_l_same hr (pa_cons (pe_ix (r := rIx K) ix_seq (pv 0) (pv 2) (fun _ _ => rfl)) (pa_cons (pe_ix (r := rIx K) ix_seq (pv 1) (pv 2) (fun _ _ => rfl)) pa_nil))))) pa_nil))))))))))), ?_⟩
      cases d with
      | none =>
        cases hx; cases hy
        exact ⟨_, rfl, rfl, _, rfl, iteT ⟨_, rfl, rfl, q0⟩⟩
      | bool b =>
        cases hx; cases hy
        refine ⟨_, rfl, rfl, _, rfl, iteF ?_⟩
        refine ⟨_, rfl, _, _, _, _, true, rfl, .ty "bool", ty, kit_ty kb_bool_bool, _, rfl, iteT (iteT ?_)⟩
        refine ⟨_, rfl, _, _, _, _, true, rfl, .ty "bool", ty, kit_ty kb_bool_bool, _, rfl, iteT ?_⟩
        refine ⟨_, rfl, _, _, _, _, true, rfl, .ty "bool", tx, kit_ty kb_bool_bool, _, rfl, iteT ?_⟩
        refine ⟨_, rfl, _, rfl, rfl, ?_⟩
        rw [decide_eq_true rfl]
        exact q0
      | int i =>
        cases hx; cases hy
        refine ⟨_, rfl, rfl, _, rfl, iteF ?_⟩
        refine ⟨_, rfl, _, _, _, _, false, rfl, .ty "bool", ty, kit_ty kb_int_bool, _, rfl, iteF ?_⟩
        refine ⟨_, rfl, _, _, _, _, false, rfl, .ty "bool", tx, kit_ty kb_int_bool, _, rfl, iteF ?_⟩
        refine ⟨_, rfl, _, _, _, _, true, rfl, .ty "int", ty, kit_ty kb_int_int, _, rfl, iteT ?_⟩
        refine ⟨_, rfl, _, _, _, _, true, rfl, .ty "int", tx, kit_ty kb_int_int, _, rfl, iteT ?_⟩
        refine ⟨_, rfl, _, rfl, rfl, ?_⟩
        rw [decide_eq_true rfl]
        exact q0
      | str z =>
        cases hx; cases hy
        refine ⟨_, rfl, rfl, _, rfl, iteF ?_⟩
        refine ⟨_, rfl, _, _, _, _, false, rfl, .ty "bool", ty, kit_ty kb_str_bool, _, rfl, iteF ?_⟩
        refine ⟨_, rfl, _, _, _, _, false, rfl, .ty "bool", tx, kit_ty kb_str_bool, _, rfl, iteF ?_⟩
        refine ⟨_, rfl, _, _, _, _, false, rfl, .ty "int", ty, kit_ty kb_str_int, _, rfl, iteF ?_⟩
        refine ⟨_, rfl, _, _, _, _, true, rfl, .ty "str", ty, kit_ty kb_str_str, _, rfl, iteT ?_⟩
        refine ⟨_, rfl, _, _, _, _, true, rfl, .ty "str", tx, kit_ty kb_str_str, _, rfl, iteT ?_⟩
        refine ⟨_, rfl, _, rfl, rfl, ?_⟩
        rw [decide_eq_true rfl]
        exact q0
      | list ds =>
        cases hx with
        | @lst ax xs _ sx ax_ =>
        cases hy with
        | @lst ay ys _ sy ay_ =>
        refine ⟨_, rfl, rfl, _, rfl, iteF ?_⟩
        refine ⟨_, rfl, _, _, _, _, false, rfl, .ty "bool", ty, kit_ty kb_list_bool, _, rfl, iteF ?_⟩
        refine ⟨_, rfl, _, _, _, _, false, rfl, .ty "bool", tx, kit_ty kb_list_bool, _, rfl, iteF ?_⟩
        refine ⟨_, rfl, _, _, _, _, false, rfl, .ty "int", ty, kit_ty kb_list_int, _, rfl, iteF ?_⟩
        refine ⟨_, rfl, _, _, _, _, false, rfl, .ty "str", ty, kit_ty kb_list_str, _, rfl, iteF ?_⟩
        refine ⟨_, rfl, _, _, _, _, false, rfl, .ty "tuple", ty, kit_ty kb_list_tuple, _, rfl, _, _, _, _, false, rfl, .ty "tuple", tx, kit_ty kb_list_tuple, rfl, _, rfl, iteF ?_⟩
        refine ⟨_, rfl, _, _, _, _, true, rfl, .ty "list", ty, kit_ty kb_list_list, _, rfl, _, _, _, _, true, rfl, .ty "list", tx, kit_ty kb_list_list, rfl, _, rfl, iteF ?_⟩
        have hd' : (decide (ds.length ≤ 9000) && ds.all (depOk n)) = true := hd
        rw [Bool.and_eq_true] at hd'
        have hle : ds.length ≤ 9000 := of_decide_eq_true hd'.1
        have lx := dpa_len ax_
        have ly := dpa_len ay_
        refine ⟨_, rfl, ax, xs, rfl, .inl sx, _, rfl, ay, ys, rfl, .inl sy, rfl, _, rfl, ?_⟩
        rw [lx, ly, decide_eq_true rfl]
        refine iteT ?_
        refine ⟨_, rfl, ay, ys, rfl, .inl sy, _, rfl, by rw [ly]; omega, by rw [ly]; omega, fun D hD => lc_range (lo := 0) (n := ys.length)
          (Qd := _) (fun i H' => Sm T H H' ∧ H' D = some (.lst (List.replicate i (V.bl true)))) ⟨same_upd hD, upd_same⟩ ?_ ?_⟩
        · rintro i H' hi ⟨sm, eD⟩
          rw [ly] at hi
          obtain ⟨vx, ex, dx⟩ := dpa_get ax_ (List.getElem?_eq_getElem hi)
          obtain ⟨vy, ey, dy⟩ := dpa_get ay_ (List.getElem?_eq_getElem hi)
          refine ⟨rfl, tyes_i ?_⟩
          refine ⟨_, rfl, _, rfl, .inl ⟨ax, xs, _, vx, rfl, rfl, sm.seq sx, at_of (j := i) (by omega) ex, ?_⟩⟩
          refine ⟨_, rfl, _, rfl, .inl ⟨ay, ys, _, vy, rfl, rfl, sm.seq sy, at_of (j := i) (by omega) ey, ?_⟩⟩
          refine ⟨vx, vy, ds[i], rfl, dp_same sm _ _ dx, dp_same sm _ _ dy, List.all_eq_true.mp hd'.2 _ (List.getElem_mem hi), fun H2 s2 => ⟨_, s2.k eD, ?_, same_mut (sm.trans s2) hD (s2.lst eD), ?_⟩⟩
          · rw [List.length_replicate]
            exact szl (by omega)
          · rw [upd_same, ← List.replicate_succ']
        · rintro H' ⟨sm, eD⟩
          rw [ly] at eD
          refine ⟨D, List.replicate ds.length true, rfl, SqL.of (by rw [eD, List.map_replicate]), ?_⟩
          rw [rep_all]
          exact q H' sm
      | tuple ds =>
        cases hx with
        | @tup ax xs _ sx ax_ =>
        cases hy with
        | @tup ay ys _ sy ay_ =>
        refine ⟨_, rfl, rfl, _, rfl, iteF ?_⟩
        refine ⟨_, rfl, _, _, _, _, false, rfl, .ty "bool", ty, kit_ty kb_tuple_bool, _, rfl, iteF ?_⟩
        refine ⟨_, rfl, _, _, _, _, false, rfl, .ty "bool", tx, kit_ty kb_tuple_bool, _, rfl, iteF ?_⟩
        refine ⟨_, rfl, _, _, _, _, false, rfl, .ty "int", ty, kit_ty kb_tuple_int, _, rfl, iteF ?_⟩
        refine ⟨_, rfl, _, _, _, _, false, rfl, .ty "str", ty, kit_ty kb_tuple_str, _, rfl, iteF ?_⟩
        refine ⟨_, rfl, _, _, _, _, true, rfl, .ty "tuple", ty, kit_ty kb_tuple_tuple, _, rfl, _, _, _, _, true, rfl, .ty "tuple", tx, kit_ty kb_tuple_tuple, rfl, _, rfl, iteF ?_⟩
        refine ⟨_, rfl, _, _, _, _, false, rfl, .ty "list", ty, kit_ty kb_tuple_list, _, rfl, _, _, _, _, false, rfl, .ty "list", tx, kit_ty kb_tuple_list, rfl, _, rfl, iteF ?_⟩
        have hd' : (decide (ds.length ≤ 9000) && ds.all (depOk n)) = true := hd
        rw [Bool.and_eq_true] at hd'
        have hle : ds.length ≤ 9000 := of_decide_eq_true hd'.1
        have lx := dpa_len ax_
        have ly := dpa_len ay_
        refine ⟨_, rfl, ax, xs, rfl, .inr sx, _, rfl, ay, ys, rfl, .inr sy, rfl, _, rfl, ?_⟩
        rw [lx, ly, decide_eq_true rfl]
        refine iteT ?_
        refine ⟨_, rfl, ay, ys, rfl, .inr sy, _, rfl, by rw [ly]; omega, by rw [ly]; omega, fun D hD => lc_range (lo := 0) (n := ys.length)
          (Qd := _) (fun i H' => Sm T H H' ∧ H' D = some (.lst (List.replicate i (V.bl true)))) ⟨same_upd hD, upd_same⟩ ?_ ?_⟩
        · rintro i H' hi ⟨sm, eD⟩
          rw [ly] at hi
          obtain ⟨vx, ex, dx⟩ := dpa_get ax_ (List.getElem?_eq_getElem hi)
          obtain ⟨vy, ey, dy⟩ := dpa_get ay_ (List.getElem?_eq_getElem hi)
          refine ⟨rfl, tyes_i ?_⟩
          refine ⟨_, rfl, _, rfl, .inr (.inl ⟨ax, xs, _, vx, rfl, rfl, same_tup sm sx, at_of (j := i) (by omega) ex, ?_⟩)⟩
          refine ⟨_, rfl, _, rfl, .inr (.inl ⟨ay, ys, _, vy, rfl, rfl, same_tup sm sy, at_of (j := i) (by omega) ey, ?_⟩)⟩
          refine ⟨vx, vy, ds[i], rfl, dp_same sm _ _ dx, dp_same sm _ _ dy, List.all_eq_true.mp hd'.2 _ (List.getElem_mem hi), fun H2 s2 => ⟨_, s2.k eD, ?_, same_mut (sm.trans s2) hD (s2.lst eD), ?_⟩⟩
          · rw [List.length_replicate]
            exact szl (by omega)
          · rw [upd_same, ← List.replicate_succ']
        · rintro H' ⟨sm, eD⟩
          rw [ly] at eD
          refine ⟨D, List.replicate ds.length true, rfl, SqL.of (by rw [eD, List.map_replicate]), ?_⟩
          rw [rep_all]
          exact q H' sm
      | dict _ => cases hd
theorem ok_l_same {f : Addr} {fd : FuncData} (F : Fun K "_law_same" "_law_same" s_l_same f fd) (B : Bn mg) (g : mg "_law_same" = some (.ref f)) (b : Binds K fd ["_law_found", "_law_due"] []) :
    FnOk P w K mg base CX0 6 f fd ["_law_found", "_law_due"] (sp_l_same K T) := ok_l_same_n F B g b 5

def sp_l_way (K : PySem.W.Frag) (T : Tb) : Sp := fun vs H Q _ => ∃ c : Int, vs = [.int c] ∧ ∀ o H' us qs, Sm T H H' → H o = none → H' o = some (.lst us) → DpAll K H' us (qs.map amD) → wayB qs = true → Q (.ref o) H'
theorem ok_l_way {f : Addr} {fd : FuncData} (F : Fun K "_law_way" "_law_way" s_l_way f fd) (B : Bn mg) (F_l_draws : Fn P w K mg base 1 "_law_draws" ["_law_cell_here", "_law_parts"] (sp_l_draws K T)) : FnOk P w K mg base CX0 2 f fd ["_law_cell_here"] (sp_l_way K T) := by
  refine F.ok sc_l_way (fun vs H Q E h => ?_) (fun cdv A outer s H vs Q E hr h => ?_)
  · obtain ⟨c, rfl, _⟩ := h
    rfl
  · obtain ⟨c, rfl, q⟩ := h
    refine ⟨_, (pss_cons (ps_set (i := 1) sc_l_way.nd rfl (.inr rfl) (pe_fn F_l_draws (hr.mono (by decide)) (pa_cons (pv 0) (pa_cons (pe_op op_cat (pe_lst (pa_cons pe_int (pa_cons pe_int (pa_cons pe_int pa_nil)))) (pe_lc (own := [("_law_k", 4)]) (g := (gName 4)) (tt := tYes) (by rfl) sc_l_way.nd (pi_range1 (by rfl) B.range_ (pa_cons pe_int pa_nil)) (blkOk_by (own := [("_law_k", 4)]) (N := ["_law_cell_here", "_law_drawn", "_law_cap", "_law_many_here", "_law_k"]) (sc := (defScope s_l_way)) (by decide +kernel)) (fun _ _ _ _ _ => (pg_name (i := 4) sc_l_way.nd rfl (.inl rfl))) (fun _ _ _ _ _ => pts_nil) (fun _ _ _ _ _ => pe_int))) pa_nil))))
      (pss_cons (ps_set (i := 2) sc_l_way.nd rfl (.inr rfl) (pe_ix ix_list (pe_lst (pa_cons pe_int (pa_cons pe_int (pa_cons pe_int pa_nil)))) (pe_ix ix_list (pv 1) pe_int (fun _ _ => rfl)) (fun _ _ => rfl)))
      (pss_cons (ps_set (i := 3) sc_l_way.nd rfl (.inl rfl) (pe_ix ix_list (pe_lst (pa_cons (pe_op op_add (pe_ix ix_list (pv 1) pe_int (fun _ _ => rfl)) pe_int) (pa_cons pe_int (pa_cons (pe_op op_add pe_int (pe_op op_mod (pe_ix ix_list (pv 1) pe_int (fun _ _ => rfl)) pe_int)) pa_nil)))) (pe_ix ix_list (pv 1) pe_int (fun _ _ => rfl)) (fun _ _ => rfl)))
      (pss_one (ps_ret (pe_lc (own := [("_law_k", 4)]) (g := (gName 4)) (tt := tYes) (by rfl) sc_l_way.nd (pi_range1 (by rfl) B.range_ (pa_cons (pv 3) pa_nil)) (blkOk_by (own := [("_law_k", 4)]) (N := ["_law_cell_here", "_law_drawn", "_law_cap", "_law_many_here", "_law_k"]) (sc := (defScope s_l_way)) (by decide +kernel)) (fun _ _ _ _ _ => (pg_name (i := 4) sc_l_way.nd rfl (.inl rfl))) (fun _ _ _ _ _ => pts_nil) (fun _ _ _ _ _ => (pe_tup (pa_cons (pe_op op_add pe_int (pe_op op_mod (pe_ix (r := rIxL K) ix_list (pv 1) (pe_op op_add pe_int (pe_op op_mul pe_int (pv 4))) (fun _ _ => rfl)) (pv 2))) (pa_cons (pe_op op_add pe_int (pe_op op_mod (pe_ix (r := rIxL K) ix_list (pv 1) (pe_op op_add pe_int (pe_op op_mul pe_int (pv 4))) (fun _ _ => rfl)) (pv 2))) pa_nil)))))))))), ?_⟩
    refine ⟨_, rfl, by show 3 ≤ sizeLine; decide, fun l1 nl1 => ?_⟩
    refine ⟨_, rfl, by decide, by decide, fun D hD => lc_range (lo := 0) (n := 12) (Qd := _) (fun i H' => Sm T (upd H l1 (.lst [.int 6, .int 3, .int 3])) H' ∧ H' D = some (.lst (List.replicate i (V.int 9)))) ⟨same_upd hD, upd_same⟩ ?_ ?_⟩
    · rintro i H' hi ⟨sm, eD⟩
      refine ⟨rfl, tyes_i ?_⟩
      refine ⟨_, eD, by rw [List.length_replicate]; exact szl (by omega), same_mut sm hD eD, ?_⟩
      rw [upd_same, ← List.replicate_succ']
    · rintro H1 ⟨s1, e1⟩
      refine ⟨l1, D, _, _, rfl, rfl, s1.k upd_same, e1, by show 15 ≤ sizeLine; decide, fun l2 nl2 => ?_⟩
      refine ⟨c, l2, [6, 3, 3, 9, 9, 9, 9, 9, 9, 9, 9, 9, 9, 9, 9], rfl, SqL.of upd_same, by decide, by decide, fun p3 H3 ds s3 np3 e3 hd => ?_⟩
      have s03 : Sm T H H3 := (same_upd nl1).trans (s1.trans ((same_upd nl2).trans s3))
      obtain ⟨d0, g0, h00, h01⟩ := hd.get (i := 0) rfl
      obtain ⟨d1, g1, h10, h11⟩ := hd.get (i := 1) rfl
      obtain ⟨d2, g2, h20, h21⟩ := hd.get (i := 2) rfl
      refine ⟨by show 3 ≤ sizeLine; decide, fun l4 nl4 => ?_⟩
      have e4 := (same_upd (T := T) (o := HO.lst [V.int 9, V.int 3, V.int 5]) nl4).k e3
      have hcap : ∃ cap : Int, 1 ≤ cap ∧ cap ≤ 9 ∧ atI [V.int 9, V.int 3, V.int 5] d1 = some (.int cap) := by
        rcases (by omega : d1 = 0 ∨ d1 = 1 ∨ d1 = 2) with rfl | rfl | rfl
        · exact ⟨9, by omega, by omega, atI_nat (j := 0) rfl⟩
        · exact ⟨3, by omega, by omega, atI_nat (j := 1) rfl⟩
        · exact ⟨5, by omega, by omega, atI_nat (j := 2) rfl⟩
      obtain ⟨cap, c1, c9, hcap⟩ := hcap
      refine ⟨_, rfl, p3, _, 1, .int d1, rfl, rfl, SqL.of e4, at_map (i := 1) rfl g1, l4, _, _, _, rfl, rfl, SqL.of upd_same, hcap, ?_⟩
      refine ⟨_, rfl, p3, _, 0, .int d0, rfl, rfl, SqL.of e4, at_map (i := 0) rfl g0, _, _, rfl, rfl, ?_⟩
      refine ⟨_, rfl, p3, _, 0, .int d0, rfl, rfl, SqL.of e4, at_map (i := 0) rfl g0, _, _, rfl, rfl, (by show (0 : Int) < 3; decide), _, _, rfl, rfl, ?_⟩
      refine ⟨by show 3 ≤ sizeLine; decide, fun l5 nl5 => ?_⟩
      have e5 := (same_upd (T := T) (o := HO.lst [V.int (d0 + 1), V.int 1, V.int (1 + d0 % 3)]) nl5).k e4
      have hm : ∃ m : Nat, 1 ≤ m ∧ m ≤ 6 ∧ atI [V.int (d0 + 1), V.int 1, V.int (1 + d0 % 3)] d2 = some (.int (m : Int)) := by
        rcases (by omega : d2 = 0 ∨ d2 = 1 ∨ d2 = 2) with rfl | rfl | rfl
        · refine ⟨(d0 + 1).toNat, by omega, by omega, ?_⟩
          rw [Int.toNat_of_nonneg (by omega)]
          exact atI_nat (j := 0) rfl
        · exact ⟨1, by omega, by omega, atI_nat (j := 1) rfl⟩
        · refine ⟨(1 + d0 % 3).toNat, by omega, by omega, ?_⟩
          rw [Int.toNat_of_nonneg (by omega)]
          exact atI_nat (j := 2) rfl
      obtain ⟨m, m1, m6, hm⟩ := hm
      refine ⟨_, rfl, p3, _, 2, .int d2, rfl, rfl, SqL.of e5, at_map (i := 2) rfl g2, l5, _, _, _, rfl, rfl, SqL.of upd_same, hm, ?_⟩
      have s05 : Sm T H (upd (upd H3 l4 (.lst [V.int 9, V.int 3, V.int 5])) l5 (.lst [V.int (d0 + 1), V.int 1, V.int (1 + d0 % 3)])) := s03.trans ((same_upd nl4).trans (same_upd nl5))
      refine ⟨_, rfl, m, rfl, by omega, by omega, fun D2 hD2 => lc_range (lo := 0) (n := m) (Qd := _) (fun i H' => Sm T (upd (upd H3 l4 (.lst [V.int 9, V.int 3, V.int 5])) l5 (.lst [V.int (d0 + 1), V.int 1, V.int (1 + d0 % 3)])) H' ∧ ∃ us qs, H' D2 = some (.lst us) ∧ DpAll K H' us (qs.map amD) ∧ qs.length = i ∧ qs.all wOk = true) ⟨same_upd hD2, [], [], upd_same, .nil, rfl, rfl⟩ ?_ ?_⟩
      · rintro i H' hi ⟨sm, us, qs, eD2, hd2, hl, ha⟩
        have e6 : H' p3 = some (.lst (ds.map V.int)) := sm.k e5
        have hx : ∃ x, ds[3 + 2 * i]? = some x ∧ 0 ≤ x ∧ x < 9 := hd.get (q := 9) (by rcases (by omega : i = 0 ∨ i = 1 ∨ i = 2 ∨ i = 3 ∨ i = 4 ∨ i = 5) with rfl | rfl | rfl | rfl | rfl | rfl <;> rfl)
        have hy : ∃ x, ds[4 + 2 * i]? = some x ∧ 0 ≤ x ∧ x < 9 := hd.get (q := 9) (by rcases (by omega : i = 0 ∨ i = 1 ∨ i = 2 ∨ i = 3 ∨ i = 4 ∨ i = 5) with rfl | rfl | rfl | rfl | rfl | rfl <;> rfl)
        obtain ⟨x, gx, x0, x9⟩ := hx
        obtain ⟨y, gy, y0, y9⟩ := hy
        have hx0 := Int.emod_nonneg x (show cap ≠ 0 by omega)
        have hx1 := Int.emod_lt_of_pos x (show 0 < cap by omega)
        have hy0 := Int.emod_nonneg y (show cap ≠ 0 by omega)
        have hy1 := Int.emod_lt_of_pos y (show 0 < cap by omega)
        refine ⟨rfl, tyes_i ?_⟩
        refine ⟨_, rfl, _, rfl, _, _, rfl, rfl, .inl ⟨by decide, by decide⟩, _, _, rfl, rfl, p3, _, _, .int x, rfl, rfl, SqL.of e6, at_map (i := 3 + 2 * i) (by omega) gx, _, rfl, _, _, rfl, rfl, (by omega), _, _, rfl, rfl, ?_⟩
        refine ⟨_, rfl, _, rfl, _, _, rfl, rfl, .inl ⟨by decide, by decide⟩, _, _, rfl, rfl, p3, _, _, .int y, rfl, rfl, SqL.of e6, at_map (i := 4 + 2 * i) (by omega) gy, _, rfl, _, _, rfl, rfl, (by omega), _, _, rfl, rfl, ?_⟩
        refine ⟨by show 2 ≤ sizeLine; decide, fun t nt => ?_⟩
        have st := same_upd (T := T) (o := HO.tup (tv (1 + x % cap, 1 + y % cap))) nt
        have eD3 := st.k eD2
        have lu : us.length = i := by rw [dpa_len hd2, List.length_map, hl]
        refine ⟨us, eD3, szl (by omega), same_mut (sm.trans st) hD2 eD3, us ++ [.ref t], qs ++ [(1 + x % cap, 1 + y % cap)], upd_same, ?_, ?_, ?_⟩
        · refine pds_mut eD3 ?_
          rw [List.map_append]
          exact dpa_app (dpa_same st _ _ hd2) (.cons (tup_dp upd_same) .nil)
        · rw [List.length_append, hl]
          rfl
        · rw [List.all_append, ha, Bool.true_and, List.all_cons, List.all_nil, Bool.and_true]
          unfold wOk
          simp only [Bool.and_eq_true, decide_eq_true_eq]
          omega
      · rintro H6 ⟨s6, us, qs, eD2, hd2, hl, ha⟩
        have free : H D2 = none := s05.free _ hD2
        refine q D2 H6 us qs (s05.trans s6) free eD2 hd2 ?_
        unfold wayB
        rw [ha, hl, Bool.and_true, Bool.and_eq_true]
        exact ⟨decide_eq_true m1, decide_eq_true m6⟩

def sp_l_labour (K : PySem.W.Frag) (T : Tb) : Sp := fun vs H Q _ => ∃ a us qs, vs = [.ref a] ∧ SqL K H a us ∧ DpAll K H us (qs.map amD) ∧ (∀ q ∈ qs, wOk q = true) ∧ Q (.int (labourM qs)) H
theorem ok_l_labour {f : Addr} {fd : FuncData} (F : Fun K "_law_labour" "_law_labour" s_l_labour f fd) (B : Bn mg) : FnOk P w K mg base CX0 1 f fd ["_law_way_here"] (sp_l_labour K T) := by
  refine F.ok sc_l_labour (fun vs H Q E h => ?_) (fun cdv A outer s H vs Q E hr h => ?_)
  · obtain ⟨a, us, qs, rfl, _⟩ := h
    rfl
  · obtain ⟨a, us, qs, rfl, hS, hd, hw, q⟩ := h
    refine ⟨_, (pss_cons (ps_set (i := 1) sc_l_labour.nd rfl (.inl rfl) pe_int)
      (pss_cons (ps_for PassesOwn.never rfl (pi_list (pv 0)) (pg_tup rfl (pgs_cons (pg_name (i := 2) sc_l_labour.nd rfl (.inl rfl)) (pgs_cons (pg_name (i := 3) sc_l_labour.nd rfl (.inl rfl)) pgs_nil)))
      (pss_one (ps_for PassesOwn.never rfl (pi_range1 (by rfl) B.range_ (pa_cons (pv 2) pa_nil)) (pg_name (i := 4) sc_l_labour.nd rfl (.inl rfl))
      (pss_one (ps_set (i := 1) sc_l_labour.nd rfl (.inl rfl) (pe_op op_add (pv 1) (pv 3)))))))
      (pss_one (ps_ret (pv 1))))), ?_⟩
    have el : us.length = qs.length := by rw [dpa_len hd, List.length_map]
    refine ⟨_, rfl, a, rfl, ⟨_, hS⟩, for_list (K := K) (a := a) (xs := us) (fun i σ H3 => H3 = H ∧ ∃ x1 x2 x3, σ = [some (.ref a), some (.int (labourM (qs.take i))), x1, x2, x3]) ⟨rfl, _, _, _, rfl⟩ (fun i σ H3 _ ⟨e, _⟩ => by rw [e]; exact hS) ?_ ?_⟩
    · rintro i v σ H3 hi ⟨rfl, x1, x2, x3, rfl⟩
      have hil : i < qs.length := by rw [← el]; exact (List.getElem?_eq_some_iff.mp hi).1
      obtain ⟨v', e1, e2⟩ := dpa_get hd (i := i) (d := amD qs[i]) (by rw [List.getElem?_map, List.getElem?_eq_getElem hil]; rfl)
      rw [hi] at e1
      cases e1
      obtain ⟨b, rfl, hb⟩ := pd_at e2
      have c := wOk_b (hw qs[i] (List.getElem_mem hil))
      have et : labourM (qs.take (i + 1)) = labourM (qs.take i) + qs[i].1 * qs[i].2 := by
        unfold labourM
        rw [List.take_add_one, List.getElem?_eq_getElem hil, List.map_append, List.sum_append]
        simp
      refine ⟨b, _, rfl, hb, rfl, _, _, rfl, _, _, rfl, rfl, ?_⟩
      refine ⟨_, rfl, qs[i].1.toNat, by rw [Int.toNat_of_nonneg (by omega)], by omega, by omega, for_range (lo := 0) (n := qs[i].1.toNat) (fun j σ H4 => H4 = H3 ∧ ∃ x1, σ = [some (.ref a), some (.int (labourM (qs.take i) + (j : Int) * qs[i].2)), some (.int qs[i].1), some (.int qs[i].2), x1]) ⟨rfl, x3, by simp⟩ ?_ ?_⟩
      · rintro j σ H4 hj ⟨rfl, x1, rfl⟩
        refine ⟨_, rfl, _, rfl, _, _, rfl, rfl, rfl, some (.int (0 + (j : Int))), ?_⟩
        have : labourM (qs.take i) + (j : Int) * qs[i].2 + qs[i].2 = labourM (qs.take i) + ((j + 1 : Nat) : Int) * qs[i].2 := by
          rw [Int.natCast_add, Int.add_mul]
          simp [Int.add_assoc]
        rw [← this]
        rfl
      · rintro σ H4 ⟨rfl, x1, rfl⟩
        refine ⟨rfl, some (.int qs[i].1), some (.int qs[i].2), x1, ?_⟩
        rw [et, Int.toNat_of_nonneg (by omega)]
    · rintro σ H3 ⟨rfl, x1, x2, x3, rfl⟩
      refine ⟨_, rfl, ?_⟩
      rw [el, List.take_length]
      exact q

/-! ### hands that are the quicker the nearer they stand to the fire -/
theorem spd_rise : ∀ {ps : List Int} {xs : List Rat}, ps.length = xs.length → ps.Pairwise (· ≤ ·) → spd ps xs = ps
  | [], [], _, _ => rfl
  | [], _ :: _, h, _ => by simp at h
  | _ :: _, [], h, _ => by simp at h
  | p :: ps, x :: xs, hl, hp => by
    have ih := spd_rise (ps := ps) (xs := xs) (by simpa using hl) (List.pairwise_cons.mp hp).2
    simp only [spd, ih]
    congr 1
    match xs, ps, hp with
    | [], _, _ => rfl
    | _ :: _, [], _ => rfl
    | y :: _, s :: _, hp =>
      have : p ≤ s := (List.pairwise_cons.mp hp).1 s List.mem_cons_self
      show (if x = y then mnI p s else p) = p
      split
      · unfold mnI; rw [if_neg (by omega)]
      · rfl
theorem meet_rise {L : Int} {ps : List Int} {xs : List Rat} (hl : ps.length = xs.length) (hp : ps.Pairwise (· ≤ ·)) : meetM L ps xs = lastH L ps xs := by
  unfold meetM
  rw [spd_rise hl hp]
  have e : ∀ i, i ≤ ps.length - 1 → meetF ps xs (lastH L ps xs) i = lastH L ps xs := fun i => by
    induction i with
    | zero => intro _; rfl
    | succ i ih =>
      intro hi
      show (if _ then _ else _) = _
      rw [getD_lt (show i + 1 < ps.length by omega), getD_lt (show i < ps.length by omega), if_neg (by have := List.pairwise_iff_getElem.mp hp i (i + 1) (by omega) (by omega) (by omega); omega)]
      exact ih (by omega)
  exact e _ (Nat.le_refl _)
theorem walk_rise {ps : List Int} {xs : List Rat} {t : Rat} (hl : ps.length = xs.length) (hp : ps.Pairwise (· ≤ ·)) : walkM ps xs t = List.zipWith (fun (x : Rat) (p : Int) => x + t * (p : Rat)) xs ps := by
  refine List.ext_getElem (by rw [walkM_len, List.length_zipWith]; omega) fun i h1 h2 => ?_
  rw [walkM_len] at h1
  rw [← getD_lt (d := (0 : Rat)) (by rw [walkM_len]; exact h1), walkM_get h1, spd_rise hl hp, List.getElem_zipWith, getD_lt (show i < xs.length by omega), getD_lt h1]
theorem zip_sum {t : Rat} : ∀ {ps : List Int} {xs : List Rat}, ps.length = xs.length → (List.zipWith (fun (x : Rat) (p : Int) => x + t * (p : Rat)) xs ps).sum = xs.sum + t * ((ps.sum : Int) : Rat)
  | [], [], _ => by show (0 : Rat) = 0 + t * ((0 : Int) : Rat); show (0 : Rat) = 0 + t * 0; grind
  | [], _ :: _, h => by simp at h
  | _ :: _, [], h => by simp at h
  | p :: ps, x :: xs, h => by
    have ih := zip_sum (t := t) (ps := ps) (xs := xs) (by simpa using h)
    rw [List.zipWith_cons_cons, List.sum_cons, List.sum_cons, List.sum_cons, ih, Rat.intCast_add]
    grind
theorem sum_le_len {b : Rat} : ∀ {xs : List Rat}, (∀ x ∈ xs, 0 ≤ x ∧ x ≤ b) → 0 ≤ xs.sum ∧ xs.sum ≤ b * (((xs.length : Nat) : Int) : Rat)
  | [], _ => ⟨by decide, by show (0 : Rat) ≤ b * 0; grind⟩
  | x :: xs, h => by
    have ih := sum_le_len (xs := xs) fun y hy => h y (List.mem_cons_of_mem _ hy)
    have hx := h x List.mem_cons_self
    rw [List.sum_cons, List.length_cons, show ((xs.length + 1 : Nat) : Int) = (xs.length : Int) + 1 from by omega, Rat.intCast_add]
    refine ⟨by grind, ?_⟩
    show _ ≤ b * (_ + 1)
    grind
theorem mem_le_sum : ∀ {ps : List Int}, (∀ p ∈ ps, 1 ≤ p) → (0 ≤ ps.sum ∧ ∀ p ∈ ps, p ≤ ps.sum)
  | [], _ => ⟨by decide, fun _ h => nomatch h⟩
  | q :: ps, h => by
    have ih := mem_le_sum (ps := ps) fun y hy => h y (List.mem_cons_of_mem _ hy)
    have hq := h q List.mem_cons_self
    rw [List.sum_cons]
    refine ⟨by omega, fun p hp => ?_⟩
    rcases List.mem_cons.mp hp with z | z
    · rw [z]; omega
    · have := ih.2 p z; omega
/-- what is known of hands -/
structure Hr (ns : List Str) (ps : List Int) (L : Int) : Prop where
  n1 : 1 ≤ ns.length
  n8 : ns.length ≤ 8
  nd : ns.Nodup
  lp : ps.length = ns.length
  pp : ∀ p ∈ ps, 1 ≤ p ∧ p ≤ 12
  rs : ps.Pairwise (· ≤ ·)
  l1 : 1 ≤ L
  l5 : L ≤ 486
structure Ri (ns : List Str) (ps : List Int) (L : Int) (W : List Am) (D : Int) (s : Ch) : Prop where
  row : s.row = ns
  way : s.way = W
  fire : s.fire = L
  pc : My.pcs s = ps
  tps : ∀ n ∈ ns, (getL s.tempos n).isSome = true
  lv : s.leaving = []
  sd : Side s
  sp : ∀ x ∈ s.spots, 0 ≤ x ∧ x < (L : Rat) ∧ Fr D x
  srt : s.spots.Pairwise (· ≤ ·)
  lg : ∀ i, i < ns.length → getL s.ledgers (ns.getD i "") = some (s.now, ((ps.getD i 0 : Int) : Rat) * s.now, 0)
  lgl : s.ledgers.length ≤ ns.length
  ml : s.marks.length = s.poured.length + ns.length
  mm : ∀ m ∈ s.marks, m.length ≤ 8 * s.poured.length
  sum : (L : Rat) * (((s.poured.length : Nat) : Int) : Rat) + s.spots.sum = s.now * ((ps.sum : Int) : Rat)
  fn : Fr D s.now
  n0 : 0 ≤ s.now
section
variable {ns : List Str} {ps : List Int} {L : Int} {W : List Am} {D : Int} {s : Ch}
theorem Ri.ls (h : Ri ns ps L W D s) : s.spots.length = ns.length := by rw [h.sd.ls, h.row]
theorem Ri.ne (h : Ri ns ps L W D s) (hs : Hr ns ps L) : s.row ≠ [] := fun z => by
  have := hs.n1
  rw [← h.row, z] at this
  simp at this
theorem Ri.scale (h : Ri ns ps L W D s) (hD : 0 < D) {k : Int} (hk : 1 ≤ k) : Ri ns ps L W (D * k) s :=
  ⟨h.row, h.way, h.fire, h.pc, h.tps, h.lv, h.sd, fun x hx => ⟨(h.sp x hx).1, (h.sp x hx).2.1, (h.sp x hx).2.2.scale (by omega) (by omega)⟩, h.srt, h.lg, h.lgl, h.ml, h.mm, h.sum, h.fn.scale (by omega) (by omega), h.n0⟩
theorem Ri.lab (h : Ri ns ps L W D s) (hs : Hr ns ps L) (hp : s.poured.length ≤ 300) {p : Int} (hm : p ∈ ps) : (p : Rat) * s.now ≤ 160000 := by
  have a := mem_le_sum fun q hq => (hs.pp q hq).1
  have b : (p : Rat) ≤ ((ps.sum : Int) : Rat) := Rat.intCast_le_intCast.mpr (a.2 p hm)
  have c := Rat.mul_le_mul_of_nonneg_left b h.n0
  have d := (sum_le_len fun x hx => ⟨(h.sp x hx).1, Rat.le_of_lt (h.sp x hx).2.1⟩).2
  have e := h.sum
  have f : (L : Rat) * (((s.poured.length : Nat) : Int) : Rat) + (L : Rat) * (((s.spots.length : Nat) : Int) : Rat) ≤ 160000 := by
    rw [← Rat.intCast_mul, ← Rat.intCast_mul, ← Rat.intCast_add]
    refine Rat.intCast_le_intCast (b := 160000) |>.mpr ?_
    rw [h.ls]
    have g : L * ((s.poured.length : Nat) : Int) ≤ 486 * 300 := Int.mul_le_mul hs.l5 (by omega) (by omega) (by decide)
    have g2 : L * ((ns.length : Nat) : Int) ≤ 486 * 8 := Int.mul_le_mul hs.l5 (by have := hs.n8; omega) (by omega) (by decide)
    omega
  rw [Rat.mul_comm]
  grind
theorem Ri.now_le (h : Ri ns ps L W D s) (hs : Hr ns ps L) (hp : s.poured.length ≤ 300) : s.now ≤ 160000 := by
  have hn := hs.n1
  have hl := hs.lp
  have hm : ps.getD 0 0 ∈ ps := getD_mem (by omega)
  have a := h.lab hs hp hm
  have b : (1 : Rat) ≤ ((ps.getD 0 0 : Int) : Rat) := Rat.intCast_le_intCast.mpr (hs.pp _ hm).1
  have c := Rat.mul_le_mul_of_nonneg_right b h.n0
  rw [Rat.one_mul] at c
  exact Rat.le_trans c a
theorem Ri.wok (h : Ri ns ps L W D s) (hs : Hr ns ps L) (hD : 0 < D ∧ D.natAbs < 2 ^ 3900) (hp : s.poured.length ≤ 300) : WOk D s := by
  have hD0 : D ≠ 0 := by omega
  refine ⟨?_, hD, by rw [h.fire]; exact ⟨hs.l1, by have := hs.l5; omega⟩, by rw [h.row]; exact hs.nd, by rw [h.row]; exact h.tps, fun n hn => ?_, by have := h.lgl; have := hs.n8; omega, ⟨h.fn, h.n0, Rat.le_trans (h.now_le hs hp) (by decide)⟩⟩
  · rw [h.pc, h.fire]
    exact ⟨by rw [hs.lp, h.ls], by rw [hs.lp]; exact hs.n8, hs.pp, h.srt, fun x hx => (h.sp x hx).1, fun x hx => Rat.le_of_lt (h.sp x hx).2.1, fun x hx => (h.sp x hx).2.2⟩
  · rw [h.row] at hn
    obtain ⟨i, hi, e⟩ := List.getElem_of_mem hn
    have g := h.lg i hi
    rw [getD_lt hi, e] at g
    have hm : ps.getD i 0 ∈ ps := getD_mem (by rw [hs.lp]; exact hi)
    have hq := (hs.pp _ hm).1
    refine ⟨_, g, ⟨h.fn, h.n0, Rat.le_trans (h.now_le hs hp) (by decide)⟩, ⟨h.fn.mulI _, Rat.mul_nonneg (Rat.intCast_nonneg.mpr (by omega)) h.n0, Rat.le_trans (h.lab hs hp hm) (by decide)⟩, ⟨Fr.zero hD0, Rat.le_refl, by show (0 : Rat) ≤ 900000; decide⟩⟩
theorem Ri.fit (h : Ri ns ps L W D s) (hs : Hr ns ps L) (hj : s.poured.length ≤ 300) : Fit2 s := by
  have := hs.n8
  exact ⟨h.sd, h.lv, by rw [h.fire]; exact hs.l1, by rw [h.ml]; omega, fun m hm => by have := h.mm m hm; omega, by omega⟩
theorem Ri.rdy (h : Ri ns ps L W D s) (hs : Hr ns ps L) (hD : 0 < D ∧ D.natAbs < 2 ^ 3890) (hl : s.poured.length ≤ 300) {l : Rat} (l6 : Fr D l ∧ 0 ≤ l ∧ l ≤ 50000) : Rdy D s l :=
  ⟨h.wok hs ⟨hD.1, Nat.lt_trans hD.2 (Nat.pow_lt_pow_right (by decide) (by decide))⟩ hl, by
    rw [Int.natAbs_mul]
    have e : (2 : Nat) ^ 3900 = 2 ^ 3890 * 1024 := by rw [show (3900 : Nat) = 3890 + 10 from rfl, Nat.pow_add]
    rw [e]
    exact Nat.lt_of_lt_of_le (Nat.mul_lt_mul_of_pos_right hD.2 (by decide)) (Nat.mul_le_mul_left _ (by decide)), l6, fun x hx => by rw [h.fire]; exact (h.sp x hx).2.1, h.fit hs hl⟩
theorem Ri.meet (h : Ri ns ps L W D s) (hs : Hr ns ps L) : meetS s = ((L : Rat) - s.spots.getD (ns.length - 1) 0) / ((ps.getD (ns.length - 1) 0 : Int) : Rat) := by
  unfold meetS
  rw [h.pc, h.fire, meet_rise (by rw [hs.lp, h.ls]) hs.rs]
  unfold lastH
  rw [hs.lp]
theorem Ri.meet_fr (h : Ri ns ps L W D s) (hs : Hr ns ps L) (hD : 0 < D) : Fr (D * ps.getD (ns.length - 1) 0) (meetS s) ∧ 0 < meetS s := by
  have hn := hs.n1
  have hm : ps.getD (ns.length - 1) 0 ∈ ps := getD_mem (by rw [hs.lp]; omega)
  have hq := (hs.pp _ hm).1
  have hx := h.sp _ (getD_mem (l := s.spots) (i := ns.length - 1) (d := (0 : Rat)) (by rw [h.ls]; omega))
  rw [h.meet hs]
  refine ⟨Fr.divI (by omega) (Fr.sub (Fr.int (by omega) L) hx.2.2) (by omega), ?_⟩
  have h0 : 0 < (L : Rat) - s.spots.getD (ns.length - 1) 0 := by grind
  rw [Rat.div_def]
  exact Rat.mul_pos h0 (Rat.inv_pos.mpr (cp (by omega)))
end
/-! ### turns -/
theorem dl_last {xs : List Rat} {n : Nat} (hl : xs.length = n) (hn : 1 ≤ n) : xs = xs.dropLast ++ [xs.getD (n - 1) 0] := by
  have hsn : xs ≠ [] := fun z => by rw [z] at hl; simp at hl; omega
  have := (List.dropLast_concat_getLast hsn).symm
  rw [List.getLast_eq_getElem] at this
  rw [getD_lt (show n - 1 < xs.length by omega)]
  simp only [hl] at this
  exact this
theorem dl_cons {xs : List Rat} (hl : xs ≠ []) : ((0 : Rat) :: xs).dropLast = 0 :: xs.dropLast := by
  cases xs with
  | nil => exact absurd rfl hl
  | cons a l => rfl
/-- what turns keep -/
theorem tn_rise {s1 s' : Ch} {rows : List Rw} {L D : Int} {b : Nat} (hn : 1 ≤ s1.row.length) (hL : 1 ≤ L) (hD : D ≠ 0) (hf : s1.fire = L) (hsd : Side s1) (hsp : ∀ x ∈ s1.spots, 0 ≤ x ∧ x ≤ (L : Rat) ∧ Fr D x) (hst : s1.spots.Pairwise (· ≤ ·)) (hm : ∀ x ∈ s1.marks, x.length ≤ b) (t : Tn s1 s' rows) :
    (s'.row = s1.row ∧ s'.tempos = s1.tempos ∧ s'.leaving = s1.leaving ∧ s'.ledgers = s1.ledgers ∧ s'.now = s1.now ∧ s'.fire = s1.fire ∧ s'.way = s1.way) ∧ Side s' ∧ (∀ x ∈ s'.spots, 0 ≤ x ∧ x ≤ (L : Rat) ∧ Fr D x) ∧ s'.spots.Pairwise (· ≤ ·) ∧
    s'.marks.length = s1.marks.length + rows.length ∧ (∀ x ∈ s'.marks, x.length ≤ b + 8 * rows.length) ∧ s'.poured.length = s1.poured.length + rows.length ∧
    (L : Rat) * (((s'.poured.length : Nat) : Int) : Rat) + s'.spots.sum = (L : Rat) * (((s1.poured.length : Nat) : Int) : Rat) + s1.spots.sum := by
  induction t with
  | refl => exact ⟨⟨rfl, rfl, rfl, rfl, rfl, rfl, rfl⟩, hsd, hsp, hst, rfl, hm, rfl, rfl⟩
  | step t hne he ih =>
    rename_i s2 rows2
    obtain ⟨⟨r1, r2, r3, r4, r5, r6, r7⟩, i4, isp, ist, i5, i6, i7, i8⟩ := ih
    obtain ⟨e1, e2, e3, e4, e5, e6, e7⟩ := turnS_row s2
    obtain ⟨f1, f2, f3, f4⟩ := turnS_pour s2
    have lr : (rows2 ++ [rowS s2]).length = rows2.length + 1 := by rw [List.length_append]; rfl
    have hls : s2.spots.length = s2.row.length := i4.ls
    have hr : 1 ≤ s2.row.length := by rw [r1]; exact hn
    have hsn : s2.spots ≠ [] := fun z => by rw [z] at hls; simp at hls; omega
    have dl := dl_last hls hr
    rw [he, r6, hf] at dl
    have sub : ∀ x ∈ s2.spots.dropLast, x ∈ s2.spots := fun x hx => (List.dropLast_sublist _).subset hx
    rw [dl_cons hsn] at f3
    refine ⟨⟨by rw [e1, r1], by rw [e2, r2], by rw [e3, r3], by rw [e4, r4], by rw [e5, r5], by rw [e6, r6], by rw [e7, r7]⟩, turnS_side i4, fun x hx => ?_, ?_, by rw [f2, i5, lr]; omega, fun x hx => ?_, by rw [f1, List.length_append, i7, lr]; rfl, ?_⟩
    · rw [f3] at hx
      rcases List.mem_cons.mp hx with z | z
      · rw [z]; exact ⟨Rat.le_refl, Rat.intCast_nonneg.mpr (by omega), Fr.zero hD⟩
      · exact isp x (sub x z)
    · rw [f3, List.pairwise_cons]
      exact ⟨fun x hx => (isp x (sub x hx)).1, ist.sublist (List.dropLast_sublist _)⟩
    · have := turnS_mm i6 i4.n8 x hx
      rw [lr]
      omega
    · rw [← i8, f1, f3, List.length_append, List.sum_cons]
      have ds : s2.spots.sum = s2.spots.dropLast.sum + (L : Rat) := by
        conv => lhs; rw [dl]
        rw [List.sum_append]
        show _ + ((L : Rat) + 0) = _
        rw [Rat.add_zero]
      rw [ds, show ((s2.poured.length + [s2.loads.getD (s2.row.length - 1) 0].length : Nat) : Int) = (s2.poured.length : Int) + 1 from by show ((s2.poured.length + 1 : Nat) : Int) = _; omega, Rat.intCast_add]
      show (L : Rat) * (_ + 1) + (0 + _) = _
      grind
theorem tn_nil {s s' : Ch} (t : Tn s s' []) : s' = s := by
  generalize hr : ([] : List Rw) = rows at t
  cases t with
  | refl => rfl
  | step t _ _ => simp at hr
theorem zip_fr {ps : List Int} {xs : List Rat} {t : Rat} {D L : Int} (hD : D ≠ 0) (ft : Fr D t) (t0 : 0 ≤ t) (hp : ∀ p ∈ ps, 1 ≤ p) (hx : ∀ x ∈ xs, 0 ≤ x ∧ x < (L : Rat) ∧ Fr D x) : ∀ y ∈ List.zipWith (fun (x : Rat) (p : Int) => x + t * (p : Rat)) xs ps, 0 ≤ y ∧ Fr D y := fun y hy => by
  obtain ⟨i, hi, e⟩ := List.getElem_of_mem hy
  rw [List.length_zipWith] at hi
  rw [List.getElem_zipWith] at e
  have a := hx _ (List.getElem_mem (l := xs) (n := i) (by omega))
  have b := hp _ (List.getElem_mem (l := ps) (n := i) (by omega))
  rw [← e]
  have c : (0 : Rat) ≤ t * ((ps[i]'(by omega) : Int) : Rat) := Rat.mul_nonneg t0 (Rat.intCast_nonneg.mpr (by omega))
  refine ⟨by grind, a.2.2.add ?_⟩
  rw [Rat.mul_comm]
  exact ft.mulI _
section
variable {ns : List Str} {ps : List Int} {L : Int} {W : List Am} {D : Int} {s : Ch}
/-- walking on, not beyond the meeting, and the turns that are due -/
theorem Ri.step (h : Ri ns ps L W D s) (hs : Hr ns ps L) (hD : 0 < D) {t : Rat} (ft : Fr D t) (t0 : 0 ≤ t) (tm : t ≤ meetS s) {s' : Ch} {rows : List Rw} (it : ItR s t s' rows) :
    Ri ns ps L W D s' ∧ s'.poured.length = s.poured.length + rows.length ∧ (t = meetS s → 1 ≤ rows.length) ∧ s'.now = s.now + t := by
  obtain ⟨tn, _, nl⟩ := it
  have hD0 : D ≠ 0 := by omega
  have hn1 := hs.n1
  have hlp := hs.lp
  have hls := h.ls
  have hq : ps.getD (ns.length - 1) 0 ∈ ps := getD_mem (by omega)
  have hq1 := (hs.pp _ hq).1
  have hqp : (0 : Rat) < ((ps.getD (ns.length - 1) 0 : Int) : Rat) := cp (by omega)
  have esp : (walkS s t).spots = List.zipWith (fun (x : Rat) (p : Int) => x + t * (p : Rat)) s.spots ps := by
    show walkM (My.pcs s) s.spots t = _
    rw [h.pc, walk_rise (by omega) hs.rs]
  have lz : (walkS s t).spots.length = ns.length := by rw [esp, List.length_zipWith]; omega
  have elast : (walkS s t).spots.getD (ns.length - 1) 0 = s.spots.getD (ns.length - 1) 0 + t * ((ps.getD (ns.length - 1) 0 : Int) : Rat) := by
    rw [getD_lt (by omega), getD_lt (show ns.length - 1 < s.spots.length by omega), getD_lt (show ns.length - 1 < ps.length by omega)]
    simp only [esp, List.getElem_zipWith]
  have emeet : meetS s * ((ps.getD (ns.length - 1) 0 : Int) : Rat) = (L : Rat) - s.spots.getD (ns.length - 1) 0 := by
    rw [h.meet hs]
    have : ((ps.getD (ns.length - 1) 0 : Int) : Rat) ≠ 0 := fun z => by rw [z] at hqp; exact absurd hqp (by decide)
    grind
  have hlast : (walkS s t).spots.getD (ns.length - 1) 0 ≤ (L : Rat) := by
    rw [elast]
    have := Rat.mul_le_mul_of_nonneg_right tm (Rat.le_of_lt hqp)
    grind
  have zf : ∀ y ∈ (walkS s t).spots, 0 ≤ y ∧ Fr D y := by rw [esp]; exact zip_fr hD0 ft t0 (fun p hp => (hs.pp p hp).1) h.sp
  have zst : (walkS s t).spots.Pairwise (· ≤ ·) := by
    rw [esp, List.pairwise_iff_getElem]
    intro i j hi hj hij
    rw [List.length_zipWith] at hi hj
    rw [List.getElem_zipWith, List.getElem_zipWith]
    have a := List.pairwise_iff_getElem.mp h.srt i j (by omega) (by omega) hij
    have b := List.pairwise_iff_getElem.mp hs.rs i j (by omega) (by omega) hij
    have c := Rat.mul_le_mul_of_nonneg_left (Rat.intCast_le_intCast.mpr b) t0
    grind
  have zle : ∀ y ∈ (walkS s t).spots, y ≤ (L : Rat) := fun y hy => by
    refine Rat.le_trans ?_ hlast
    obtain ⟨i, hi, e⟩ := List.getElem_of_mem hy
    rw [← e, getD_lt (by omega)]
    rcases Nat.lt_or_ge i (ns.length - 1) with z | z
    · exact List.pairwise_iff_getElem.mp zst i (ns.length - 1) hi (by omega) z
    · have : i = ns.length - 1 := by omega
      subst this
      exact Rat.le_refl
  have hsd1 : Side (walkS s t) := ⟨h.sd.ll, by rw [lz]; show _ = s.row.length; rw [h.row], h.sd.n8, h.sd.ld⟩
  obtain ⟨⟨r1, r2, r3, r4, r5, r6, r7⟩, i4, isp, ist, i5, i6, i7, i8⟩ := tn_rise (L := L) (D := D) (b := 8 * s.poured.length) (by show 1 ≤ s.row.length; rw [h.row]; exact hn1) hs.l1 hD0 (by show s.fire = L; exact h.fire) hsd1 (fun x hx => ⟨(zf x hx).1, zle x hx, (zf x hx).2⟩) zst (by exact h.mm) tn
  have hrow : s'.row = ns := by rw [r1]; exact h.row
  have hfire : s'.fire = L := by rw [r6]; exact h.fire
  have hls' : s'.spots.length = ns.length := by rw [i4.ls, hrow]
  have hnow : s'.now = s.now + t := r5
  have hpl : s'.poured.length = s.poured.length + rows.length := i7
  have hne' : s'.row ≠ [] := fun z => by rw [hrow] at z; rw [z] at hn1; simp at hn1
  have nl' := nl hne'
  rw [hrow, hfire] at nl'
  have slt : ∀ x ∈ s'.spots, x < (L : Rat) := fun x hx => by
    have hlm := isp _ (getD_mem (l := s'.spots) (i := ns.length - 1) (d := (0 : Rat)) (by omega))
    have hl' : s'.spots.getD (ns.length - 1) 0 < (L : Rat) := by grind
    suffices hxl : x ≤ s'.spots.getD (ns.length - 1) 0 by grind
    obtain ⟨i, hi, e⟩ := List.getElem_of_mem hx
    rw [← e, getD_lt (by omega)]
    rcases Nat.lt_or_ge i (ns.length - 1) with z | z
    · exact List.pairwise_iff_getElem.mp ist i (ns.length - 1) hi (by omega) z
    · have : i = ns.length - 1 := by omega
      subst this
      exact Rat.le_refl
  refine ⟨⟨hrow, by rw [r7]; exact h.way, hfire, ?_, fun n hn => by rw [r2]; exact h.tps n hn, by rw [r3]; exact h.lv, i4, fun x hx => ⟨(isp x hx).1, slt x hx, (isp x hx).2.2⟩, ist, fun i hi => ?_, ?_, ?_, fun m hm => ?_, ?_, ?_, ?_⟩, hpl, fun te => ?_, hnow⟩
  · rw [← h.pc]
    show s'.row.map _ = s.row.map _
    rw [hrow, h.row, r2]
    rfl
  · rw [r4, hnow]
    show getL (ledN s t s.row.length) _ = _
    have hi' : i < s.row.length := by rw [h.row]; exact hi
    have g := ledN_at (s := s) (h := t) (by rw [h.row]; exact hs.nd) (Nat.le_refl _) hi'
    rw [h.row] at g ⊢
    rw [h.lg i hi, h.pc, spd_rise (by omega) hs.rs] at g
    rw [g]
    show some (s.now + t, _ * s.now + _ * t, (0 : Rat) + ((_ - _ : Int) : Rat) * t) = _
    rw [Int.sub_self]
    have e2 : (0 : Rat) + ((0 : Int) : Rat) * t = 0 := by
      show (0 : Rat) + (0 : Rat) * _ = 0
      rw [Rat.zero_mul]; decide +kernel
    rw [e2, Rat.mul_add]
  · rw [r4]
    show (ledN s t s.row.length).length ≤ _
    rw [ledN_len (fun n hn => ?_) (by rw [h.row]; exact hs.nd) _ (Nat.le_refl _)]
    · exact h.lgl
    · rw [h.row] at hn
      obtain ⟨i, hi, e⟩ := List.getElem_of_mem hn
      have g := h.lg i hi
      rw [getD_lt hi, e] at g
      exact ⟨_, g⟩
  · rw [i5, hpl]
    show s.marks.length + _ = _
    rw [h.ml]
    omega
  · have := i6 m hm
    rw [hpl]
    omega
  · rw [i8, hnow]
    show (L : Rat) * (((s.poured.length : Nat) : Int) : Rat) + (walkS s t).spots.sum = _
    rw [esp, zip_sum (by omega), Rat.add_mul, ← h.sum]
    grind
  · rw [hnow]; exact h.fn.add ft
  · rw [hnow]; have := h.n0; grind
  · rcases Nat.eq_zero_or_pos rows.length with z | z
    · exfalso
      have e0 : rows = [] := List.length_eq_zero_iff.mp z
      rw [e0] at tn
      have es := tn_nil tn
      refine nl' ?_
      rw [es, elast, te]
      grind
    · exact z
end

/-! ### going on, the quicker the nearer to the fire -/
theorem pw_le {D : Int} {a b : Nat} (h : D.natAbs < 2 ^ a) (hab : a ≤ b) : D.natAbs < 2 ^ b := Nat.lt_of_lt_of_le h (Nat.pow_le_pow_right (by decide) hab)
theorem pw_mul {D k : Int} {a : Nat} (h : D.natAbs < 2 ^ a) (h1 : 1 ≤ k) (h12 : k ≤ 12) : (D * k).natAbs < 2 ^ (a + 4) := by
  rw [Int.natAbs_mul, Nat.pow_add]
  exact Nat.mul_lt_mul'' h (show k.natAbs < 16 by omega)
theorem outs_ri {K : PySem.W.Frag} {T : Tb} {CC : Addr} {H : Hp} {c : Addr} {A : Ad} {Q : VK} {ns : List Str} {ps : List Int} {L : Int} {W : List Am} {D : Int} {s0 : Ch} {e : Nat} (h : Ri ns ps L W D s0) (hs : Hr ns ps L) (hD : 0 < D ∧ D.natAbs < 2 ^ (8 * s0.poured.length + e)) (he : e ≤ 200) (hpo : s0.poured.length ≤ 200) {cnt : Int} (c1 : 1 ≤ cnt) (c60 : cnt ≤ 60)
    (kT : ∀ D' s H' A' q us (rows : List Rw), Ri ns ps L W D' s → (0 < D' ∧ D'.natAbs < 2 ^ (8 * s.poured.length + e)) → s.poured.length = s0.poured.length + rows.length → cnt ≤ rows.length → (rows.length : Int) < cnt + 8 → Sx T (ownC c A) H H' → ChAt K CC H' c A' s → (∀ x ∈ ownC c A', x ∈ ownC c A ∨ H x = none) → q ∉ ownC c A' → H q = none → H' q = some (.lst us) → DpAll K H' us (rows.map rowD) → Q (.ref q) H') :
  OutP K T CC H c A s0 cnt Q := by
  unfold OutP
  refine ⟨fun s rows n => ∃ D', Ri ns ps L W D' s ∧ (0 < D' ∧ D'.natAbs < 2 ^ (8 * s.poured.length + e)) ∧ s.poured.length = s0.poured.length + rows.length ∧ (rows.length : Int) < cnt + 8 ∧ n = 68 - rows.length, _, ⟨D, h, hD, rfl, by show (0 : Int) < _; omega, rfl⟩, ?_, ?_, ?_, ?_⟩
  · rintro s rows n ⟨D', ri, bd, epl, r60, rfl⟩
    exact ⟨by omega, by omega⟩
  · rintro s rows n ⟨D', ri, bd, epl, r60, rfl⟩ _ _
    exact ⟨D', ri.rdy hs ⟨bd.1, pw_le bd.2 (by omega)⟩ (by omega) ⟨Fr.zero (by omega), Rat.le_refl, by decide⟩⟩
  · rintro s rows n ⟨D', ri, bd, epl, r60, rfl⟩ _ hlt s' rows' it
    have r8 := it.2.1
    have mf := ri.meet_fr hs bd.1
    have k := hs.pp _ (getD_mem (l := ps) (i := ns.length - 1) (d := 0) (by have := hs.lp; have := hs.n1; omega))
    generalize ps.getD (ns.length - 1) 0 = kk at mf k
    have ri2 := ri.scale bd.1 k.1
    have pos2 : 0 < D' * kk := Int.mul_pos bd.1 (by omega)
    obtain ⟨r3, e3, e4, e5⟩ := ri2.step hs pos2 mf.1 (Rat.le_of_lt mf.2) Rat.le_refl it
    have r1 := e4 rfl
    refine ⟨_, ?_, D' * kk, r3, ⟨pos2, pw_le (pw_mul bd.2 k.1 k.2) (by omega)⟩, by rw [List.length_append]; omega, by rw [List.length_append]; omega, rfl⟩
    rw [List.length_append]
    omega
  · rintro s rows n ⟨D', ri, bd, epl, r60, rfl⟩ hz H' A' q us x h' fr nq np ep du
    have hz := hz.resolve_left (ri.ne hs)
    exact kT D' s H' A' q us rows ri bd epl (by omega) r60 x h' fr nq np ep du
/-! ### hands come -/
structure En (ns : List Str) (ps : List Int) (L : Int) (W : List Am) (s : Ch) : Prop where
  ri : Ri ns ps L W 1 s
  now : s.now = 0
  pl : s.poured.length = 0
  lgn : ∀ n, n ∉ ns → getL s.ledgers n = none
  tl : s.tempos.length ≤ ns.length
theorem En.new (L : Int) (W : List Am) : En [] [] L W (newS L W) := by
  refine ⟨⟨rfl, rfl, rfl, rfl, fun _ h => (nomatch h), rfl, ⟨rfl, rfl, Nat.zero_le 8, fun _ h => (nomatch h)⟩, fun _ h => (nomatch h), List.Pairwise.nil, fun i hi => absurd hi (Nat.not_lt_zero i), Nat.le_refl _, rfl, fun _ h => (nomatch h), ?_, Fr.zero (by decide), Rat.le_refl⟩, rfl, rfl, fun _ _ => rfl, Nat.le_refl _⟩
  show (L : Rat) * 0 + 0 = 0 * 0
  grind
theorem En.enter {ns : List Str} {ps : List Int} {L : Int} {W : List Am} {s : Ch} (h : En ns ps L W s) {n : Str} {p : Int} (hn : n ∉ ns) (hb : nameB n = true) (h8 : ns.length < 8) (p1 : 1 ≤ p) (p12 : p ≤ 12) (hL : 1 ≤ L) : enterW s n p = none ∧ En (n :: ns) (p :: ps) L W (enterS s n p) := by
  obtain ⟨h, h0, hpl, lgn, tl⟩ := h
  have eL : (if (getL s.ledgers n).isSome = true then s.ledgers else putL s.ledgers n (0, 0, 0)) = putL s.ledgers n (0, 0, 0) := by
    rw [lgn n hn]
    rfl
  have sz : s.spots.sum = 0 := by
    have := h.sum
    rw [h0, hpl] at this
    have e : (((0 : Nat) : Int) : Rat) = 0 := rfl
    rw [e] at this
    grind
  refine ⟨?_, ⟨⟨?_, h.way, h.fire, ?_, fun m hm => ?_, h.lv, ⟨?_, ?_, ?_, fun l hl => ?_⟩, fun x hx => ?_, ?_, fun i hi => ?_, ?_, ?_, fun m hm => ?_, ?_, h.fn, h.n0⟩, h0, hpl, fun m hm => ?_, ?_⟩⟩
  · unfold enterW
    rw [if_pos hb, if_neg (by rw [h.row]; exact hn), if_pos (by unfold paceB; rw [decide_eq_true p1, decide_eq_true p12]; rfl), if_pos (by rw [h.row]; exact h8)]
  · show n :: s.row = _
    rw [h.row]
  · show ((n :: s.row).map fun m => (getL (putL s.tempos n p) m).getD 1) = _
    rw [List.map_cons, getL_put, if_pos rfl, ← h.pc]
    show p :: _ = p :: s.row.map _
    congr 1
    refine List.map_congr_left fun m hm => ?_
    rw [getL_put, if_neg fun z => hn (by rw [z, ← h.row]; exact hm)]
  · show (getL (putL s.tempos n p) m).isSome = true
    rw [getL_put]
    split
    · rfl
    · rename_i c
      exact h.tps m ((List.mem_cons.mp hm).resolve_left fun z => c z.symm)
  · show ((s.marks.length : Int) :: s.loads).length = (n :: s.row).length
    rw [List.length_cons, List.length_cons, h.sd.ll]
  · show ((0 : Rat) :: s.spots).length = (n :: s.row).length
    rw [List.length_cons, List.length_cons, h.sd.ls]
  · show (n :: s.row).length ≤ 8
    rw [h.row, List.length_cons]
    exact h8
  · show 0 ≤ l ∧ l < ((s.marks ++ [[]]).length : Int)
    rw [List.length_append]
    have hl : l ∈ (s.marks.length : Int) :: s.loads := hl
    rcases List.mem_cons.mp hl with z | z
    · rw [z]; exact ⟨by omega, by show _ < ((s.marks.length + 1 : Nat) : Int); omega⟩
    · have := h.sd.ld l z
      exact ⟨this.1, by show _ < ((s.marks.length + 1 : Nat) : Int); omega⟩
  · have hx : x ∈ (0 : Rat) :: s.spots := hx
    rcases List.mem_cons.mp hx with z | z
    · rw [z]; exact ⟨Rat.le_refl, cp (by omega), Fr.zero (by decide)⟩
    · exact h.sp x z
  · show ((0 : Rat) :: s.spots).Pairwise _
    rw [List.pairwise_cons]
    exact ⟨fun x hx => (h.sp x hx).1, h.srt⟩
  · show getL (if (getL s.ledgers n).isSome = true then s.ledgers else putL s.ledgers n (0, 0, 0)) _ = some (s.now, _ * s.now, 0)
    rw [eL, getL_put]
    cases i with
    | zero =>
      rw [List.getD_cons_zero, if_pos rfl, h0, Rat.mul_zero]
    | succ i =>
      have hi' : i < ns.length := by rw [List.length_cons] at hi; omega
      rw [List.getD_cons_succ, List.getD_cons_succ, if_neg fun z => hn (by rw [z]; exact getD_mem hi')]
      exact h.lg i hi'
  · show (if (getL s.ledgers n).isSome = true then s.ledgers else putL s.ledgers n (0, 0, 0)).length ≤ _
    rw [eL]
    have := putL_len s.ledgers n (0, 0, 0)
    have := h.lgl
    rw [List.length_cons]
    omega
  · show (s.marks ++ [[]]).length = s.poured.length + _
    rw [List.length_append, h.ml, List.length_cons]
    rfl
  · have hm : m ∈ s.marks ++ [[]] := hm
    rcases List.mem_append.mp hm with z | z
    · exact h.mm m z
    · rw [List.mem_singleton.mp z]; exact Nat.zero_le _
  · show (L : Rat) * (((s.poured.length : Nat) : Int) : Rat) + ((0 : Rat) :: s.spots).sum = s.now * _
    rw [List.sum_cons, sz, h0, hpl]
    show (L : Rat) * 0 + (0 + 0) = _
    grind
  · show getL (if (getL s.ledgers n).isSome = true then s.ledgers else putL s.ledgers n (0, 0, 0)) m = _
    rw [eL, getL_put, if_neg fun z => hm (by rw [z]; exact List.mem_cons_self)]
    exact lgn m fun z => hm (List.mem_cons_of_mem _ z)
  · show (putL s.tempos n p).length ≤ _
    have := putL_len s.tempos n p
    rw [List.length_cons]
    omega

def mixF (c : Int) : Int := if c < 10 ^ 18 then
    (let one := (c * 48271 + 11) % 2147483647
     let two := (one * one + 40692 * one + c) % 2147483399
     let six := (two * 69621 + one) % 1000000007
     two + 2147483399 * (six + 1000000007 * one)) else c - 10 ^ 18
def drF : Int → List Int → List Int
  | _, [] => []
  | c, q :: qs => c % q :: drF (c / q) qs
def cuF : Int → List Int → Int
  | c, [] => c
  | c, q :: qs => cuF (c / q) qs
theorem drF_snoc : ∀ (c : Int) (qs : List Int) (q : Int), drF c (qs ++ [q]) = drF c qs ++ [cuF c qs % q]
  | _, [], _ => rfl
  | c, a :: qs, q => by
    show c % a :: drF (c / a) (qs ++ [q]) = c % a :: drF (c / a) qs ++ [_]
    rw [drF_snoc]
    rfl
theorem cuF_snoc : ∀ (c : Int) (qs : List Int) (q : Int), cuF c (qs ++ [q]) = cuF c qs / q
  | _, [], _ => rfl
  | c, a :: qs, q => cuF_snoc (c / a) qs q
theorem drF_len : ∀ (c : Int) (qs : List Int), (drF c qs).length = qs.length
  | _, [] => rfl
  | c, _ :: qs => congrArg (· + 1) (drF_len _ qs)
theorem drF_drawn : ∀ (c : Int) (qs : List Int), (∀ q ∈ qs, 0 < q) → Drawn (drF c qs) qs
  | _, [], _ => trivial
  | c, a :: qs, h => ⟨⟨Int.emod_nonneg _ (by have := h a List.mem_cons_self; omega), Int.emod_lt_of_pos _ (h a List.mem_cons_self)⟩, drF_drawn _ qs fun q hq => h q (List.mem_cons_of_mem _ hq)⟩
def sp_l_draws_f (K : PySem.W.Frag) (T : Tb) : Sp := fun vs H Q _ => ∃ (c : Int) (a : Addr) (qs : List Int), vs = [.int c, .ref a] ∧ SqL K H a (qs.map V.int) ∧ qs.length ≤ 1000 ∧ (∀ q ∈ qs, 0 < q ∧ q.natAbs < 2 ^ 100) ∧
  ∀ p H', Sm T H H' → H p = none → H' p = some (.lst ((drF (mixF c) qs).map V.int)) → Q (.ref p) H'
theorem ok_l_draws_f {f : Addr} {fd : FuncData} (F : Fun K "_law_draws" "_law_draws" s_l_draws_f f fd) : FnOk P w K mg base CX0 1 f fd ["_law_cell_here", "_law_parts"] (sp_l_draws_f K T) := by
  refine F.ok sc_l_draws_f (fun vs H Q E h => ?_) (fun cdv A outer s H vs Q E hr h => ?_)
  · obtain ⟨c, a, qs, rfl, _⟩ := h
    rfl
  · obtain ⟨c, a, qs, rfl, hS, hlen, hpos, q⟩ := h
    refine ⟨_, (pss_cons (ps_if (pt_cmpR op_lt (pv 0) (pe_op op_pow pe_int pe_int) (nomark _)) (pss_cons (ps_set (i := 2) sc_l_draws_f.nd rfl (.inl rfl) (pe_op op_mod (pe_op op_add (pe_op op_mul (pv 0) pe_int) pe_int) pe_int))
      (pss_cons (ps_set (i := 3) sc_l_draws_f.nd rfl (.inl rfl) (pe_op op_mod (pe_op op_add (pe_op op_add (pe_op op_mul (pv 2) (pv 2)) (pe_op op_mul pe_int (pv 2))) (pv 0)) pe_int))
      (pss_cons (ps_set (i := 4) sc_l_draws_f.nd rfl (.inl rfl) (pe_op op_mod (pe_op op_add (pe_op op_mul (pv 3) pe_int) (pv 2)) pe_int))
      (pss_one (ps_set (i := 0) sc_l_draws_f.nd rfl (.inl rfl) (pe_op op_add (pv 3) (pe_op op_mul pe_int (pe_op op_add (pv 4) (pe_op op_mul pe_int (pv 2)))))))))) (pss_one (ps_set (i := 0) sc_l_draws_f.nd rfl (.inl rfl) (pe_op op_sub (pv 0) (pe_op op_pow pe_int pe_int)))))
      (pss_cons (ps_set (i := 5) sc_l_draws_f.nd rfl (.inl rfl) (pe_lst pa_nil))
      (pss_cons (ps_for PassesOwn.never rfl (pi_list (pv 1)) (pg_name (i := 6) sc_l_draws_f.nd rfl (.inl rfl))
      (pss_cons (ps_expr (pe_bm PySem.F.plainAttrs_list PySem.F.slot_list_append PySem.F.type_list_append mt_append (pv 5) (pa_cons (pe_op op_mod (pv 0) (pv 6)) pa_nil)))
      (pss_one (ps_set (i := 0) sc_l_draws_f.nd rfl (.inl rfl) (pe_op op_fdivW (pv 0) (pv 6))))))
      (pss_one (ps_ret (pv 5)))))), ?_⟩
    refine seq_if (fun σ' H' => H' = H ∧ ∃ (c1 : Int) (x2 x3 x4 : Option V), σ' = [some (.int c1), some (.ref a), x2, x3, x4, none, none] ∧ mixF c = c1) (fun σ' H' p => ?_) (fun k => ?_)
    · obtain ⟨rfl, c1, x2, x3, x4, rfl, ec⟩ := p
      rw [ec] at q
      refine ⟨Nat.zero_le _, fun o no => ?_⟩
      refine ⟨_, rfl, a, rfl, ⟨_, (same_upd (T := T) no).seq hS⟩, for_list (K := K) (a := a) (xs := qs.map V.int)
        (fun i σ H3 => ∃ (x6 : Option V), σ = [some (.int (cuF c1 (qs.take i))), some (.ref a), x2, x3, x4, some (.ref o), x6] ∧ Sm T H' H3 ∧ H3 o = some (.lst ((drF c1 (qs.take i)).map V.int)))
        ⟨none, rfl, same_upd no, upd_same⟩ (fun i σ H3 _ ⟨_, _, sm, _⟩ => sm.seq hS) ?_ ?_⟩
      · rintro i y σ H3 hi ⟨x6, rfl, sm, eo⟩
        rw [List.getElem?_map] at hi
        obtain ⟨qi, hq, rfl⟩ : ∃ qi, qs[i]? = some qi ∧ V.int qi = y := Option.map_eq_some_iff.mp hi
        have hqm := hpos qi (List.mem_of_getElem? hq)
        have hil : i < qs.length := (List.getElem?_eq_some_iff.mp hq).1
        refine ⟨_, rfl, .inl ⟨rfl, _, SqL.of eo⟩, _, rfl, _, rfl, _, _, rfl, rfl, hqm.1, o, _, _, rfl, rfl, eo, ?_, ?_⟩
        · rw [List.length_map, drF_len, List.length_take]
          exact szl (by omega)
        · refine ⟨_, rfl, _, rfl, _, _, rfl, rfl, wide_div hqm.1 hqm.2 (by decide) (by decide), ?_⟩
          refine ⟨some (.int qi), ?_, same_mut sm no eo, ?_⟩
          · rw [List.take_add_one, hq]
            show _ = [some (V.int (cuF c1 (qs.take i ++ [qi]))), _, _, _, _, _, _]
            rw [cuF_snoc]
            rfl
          · rw [upd_same, List.take_add_one, hq]
            show _ = some (HO.lst ((drF c1 (qs.take i ++ [qi])).map V.int))
            rw [drF_snoc, List.map_append]
            rfl
      · rintro σ H3 ⟨x6, rfl, sm, eo⟩
        rw [List.length_map, List.take_length] at eo
        exact ⟨_, rfl, q o H3 sm no eo⟩
    · have b1 := Int.emod_nonneg (c * 48271 + 11) (show (2147483647 : Int) ≠ 0 by decide)
      have b2 := Int.emod_lt_of_pos (c * 48271 + 11) (show (0 : Int) < 2147483647 by decide)
      refine ⟨_, rfl, _, _, rfl, rfl, ⟨by decide, by decide, by decide⟩, _, _, rfl, rfl, _, rfl, ite2 (fun e => ?_) (fun e => ?_)⟩
      · have ec : c < 10 ^ 18 := of_decide_eq_true e
        refine ⟨_, rfl, _, _, rfl, rfl, .inr ⟨by decide, by decide⟩, _, _, rfl, rfl, _, _, rfl, rfl, (by show (0 : Int) < 2147483647; decide), ?_⟩
        refine ⟨_, rfl, _, rfl, _, _, rfl, rfl, .inl ⟨by omega, by omega⟩, ?_⟩
        refine ⟨_, rfl, _, _, rfl, rfl, .inl ⟨by decide, by decide⟩, _, _, rfl, rfl, _, rfl, _, _, rfl, rfl, _, _, rfl, rfl, (by show (0 : Int) < 2147483399; decide), ?_⟩
        refine ⟨_, rfl, _, _, rfl, rfl, .inr ⟨by decide, by decide⟩, _, rfl, _, _, rfl, rfl, _, _, rfl, rfl, (by show (0 : Int) < 1000000007; decide), ?_⟩
        refine ⟨_, rfl, _, rfl, _, rfl, _, _, rfl, rfl, .inl ⟨by decide, by decide⟩, _, _, rfl, rfl, _, _, rfl, rfl, .inl ⟨by decide, by decide⟩, _, _, rfl, rfl, ?_⟩
        refine k _ _ ⟨rfl, _, _, _, _, rfl, ?_⟩
        unfold mixF
        rw [if_pos ec]
      · have ec : ¬ c < 10 ^ 18 := fun z => e (decide_eq_true z)
        refine ⟨_, rfl, _, _, rfl, rfl, ⟨by decide, by decide, by decide⟩, _, _, rfl, rfl, ?_⟩
        refine k _ _ ⟨rfl, _, _, _, _, rfl, ?_⟩
        unfold mixF
        rw [if_neg ec]
        rfl

/-- a text times a number -/
theorem op_repS {X : Cx} : OpR X (binaryOp .Mult) (fun x y H Q => ∃ i n, x = .str i ∧ y = .int n ∧ MulOk i n ∧ Q (.str (Txt.mul i n)) H) := by
  intro pins s σ H x y v u Q I rx ry h
  obtain ⟨i, n, rfl, rfl, hk, q⟩ := h
  obtain ⟨t, rfl⟩ := rx
  obtain ⟨t', rfl⟩ := ry
  exact SB.mul hk (fun t' k => ⟨.str _, H, I.tok _, ⟨_, rfl⟩, q⟩)

def ABC : Str := "abcdefghijklmnopqrstuvwxyz"
def chF (i : Int) : Str := ⟨#[97 + i.toNat]⟩
theorem abc_at {i : Int} (h0 : 0 ≤ i) (h1 : i < 26) : atI ABC.cps.toList i = some (97 + i.toNat) := by
  have h : ∀ n : Fin 26, atI ABC.cps.toList ((n.val : Nat) : Int) = some (97 + n.val) := by decide +kernel
  have := h ⟨i.toNat, by omega⟩
  rw [show (((⟨i.toNat, by omega⟩ : Fin 26).val : Nat) : Int) = i from by show ((i.toNat : Nat) : Int) = i; omega] at this
  exact this
theorem abc_len : ABC.length ≤ sizeLine := by decide +kernel
theorem ch_len (i : Int) : (chF i).length = 1 := rfl
theorem mul_ok {i n : Int} (h0 : 0 ≤ n) (h1 : n < 4) : MulOk (chF i) n := by
  refine ⟨by rw [decide_eq_false (by omega), decide_eq_false (by omega)]; rfl, fun h _ z => ?_, fun h _ => ?_⟩
  · rw [ch_len] at z
    rcases (by omega : n = 1 ∨ n = 2 ∨ n = 3) with rfl | rfl | rfl <;> exact absurd z (by decide)
  · rw [ch_len]
    rcases (by omega : n = 1 ∨ n = 2 ∨ n = 3) with rfl | rfl | rfl <;> decide
theorem mul_cps {i n : Int} (h0 : 0 ≤ n) (h1 : n < 4) : (Txt.mul (chF i) n).cps.toList = List.replicate n.toNat (97 + i.toNat) := by
  rcases (by omega : n = 0 ∨ n = 1 ∨ n = 2 ∨ n = 3) with rfl | rfl | rfl | rfl <;> rfl
def nmF (a b c d : Int) (k : Nat) : Str := Txt.mul (chF c) a ++ (chF ((7 * (k : Int) + d) % 26) ++ chF ((d + (k : Int) / 26) % 26)) ++ Txt.mul (chF c) b
def nameF (k : Nat) (salt : Int) : Str := match drF (mixF salt) [4, 4, 26, 26] with
  | [a, b, c, d] => nmF a b c d k
  | _ => ""
theorem name_dr (salt : Int) : ∃ a b c d, drF (mixF salt) [4, 4, 26, 26] = [a, b, c, d] ∧ (0 ≤ a ∧ a < 4) ∧ (0 ≤ b ∧ b < 4) ∧ (0 ≤ c ∧ c < 26) ∧ (0 ≤ d ∧ d < 26) := by
  have hd := drF_drawn (mixF salt) [4, 4, 26, 26] (by decide)
  generalize drF (mixF salt) [4, 4, 26, 26] = ds at hd
  obtain ⟨d1, r1, rfl, h10, h11, hd⟩ := hd.cons
  obtain ⟨d2, r2, rfl, h20, h21, hd⟩ := hd.cons
  obtain ⟨d3, r3, rfl, h30, h31, hd⟩ := hd.cons
  obtain ⟨d4, r4, rfl, h40, h41, hd⟩ := hd.cons
  obtain rfl := hd.nil
  exact ⟨d1, d2, d3, d4, rfl, ⟨h10, h11⟩, ⟨h20, h21⟩, ⟨h30, h31⟩, ⟨h40, h41⟩⟩
theorem str_app (x y : Str) : (x ++ y).cps.toList = x.cps.toList ++ y.cps.toList := by
  show (x.cps ++ y.cps).toList = _
  exact Array.toList_append
theorem nm_cps {a b c d : Int} {k : Nat} (ha : 0 ≤ a ∧ a < 4) (hb : 0 ≤ b ∧ b < 4) : (nmF a b c d k).cps.toList = List.replicate a.toNat (97 + c.toNat) ++ ([97 + ((7 * (k : Int) + d) % 26).toNat, 97 + ((d + (k : Int) / 26) % 26).toNat] ++ List.replicate b.toNat (97 + c.toNat)) := by
  unfold nmF
  rw [str_app, str_app, str_app, mul_cps ha.1 ha.2, mul_cps hb.1 hb.2, List.append_assoc]
  rfl
theorem str_len (x : Str) : x.length = x.cps.toList.length := rfl
theorem name_ok (k : Nat) (salt : Int) : nameB (nameF k salt) = true ∧ (nameF k salt).length ≤ 8 := by
  obtain ⟨a, b, c, d, e, ha, hb, hc, hd⟩ := name_dr salt
  unfold nameF
  rw [e]
  show nameB (nmF a b c d k) = true ∧ (nmF a b c d k).length ≤ 8
  have hl : (nmF a b c d k).length = a.toNat + (2 + b.toNat) := by
    rw [str_len, nm_cps ha hb, List.length_append, List.length_append, List.length_replicate, List.length_replicate]
    rfl
  have let_ : ∀ n : Fin 26, letB (97 + n.val) = true := by decide +kernel
  have l1 : ∀ z : Int, 0 ≤ z → z < 26 → letB (97 + z.toNat) = true := fun z h0 h1 => let_ ⟨z.toNat, by omega⟩
  refine ⟨?_, by omega⟩
  unfold nameB
  rw [decide_eq_true (by omega), decide_eq_true (by omega), nm_cps ha hb, List.all_append, List.all_append, List.all_replicate, List.all_replicate, l1 c hc.1 hc.2]
  have m1 := l1 _ (Int.emod_nonneg (7 * (k : Int) + d) (show (26 : Int) ≠ 0 by decide)) (Int.emod_lt_of_pos _ (by decide))
  have m2 := l1 _ (Int.emod_nonneg (d + (k : Int) / 26) (show (26 : Int) ≠ 0 by decide)) (Int.emod_lt_of_pos _ (by decide))
  simp [m1, m2]
theorem name_inj {k l : Nat} {salt : Int} (hk : k < 26) (hl : l < 26) (h : nameF k salt = nameF l salt) : k = l := by
  obtain ⟨a, b, c, d, e, ha, hb, hc, hd⟩ := name_dr salt
  unfold nameF at h
  rw [e] at h
  have h : nmF a b c d k = nmF a b c d l := h
  have h2 : (nmF a b c d k).cps.toList = (nmF a b c d l).cps.toList := by rw [h]
  rw [nm_cps ha hb, nm_cps ha hb] at h2
  have h3 := List.append_cancel_left h2
  have h4 : 97 + ((7 * (k : Int) + d) % 26).toNat = 97 + ((7 * (l : Int) + d) % 26).toNat := (List.cons.inj h3).1
  omega
def sp_l_name (K : PySem.W.Frag) (T : Tb) : Sp := fun vs H Q _ => ∃ (k : Nat) (salt : Int), vs = [.int k, .int salt] ∧ k ≤ 1000 ∧ ∀ H', Sm T H H' → Q (.str (nameF k salt)) H'
theorem ok_l_name {f : Addr} {fd : FuncData} (F : Fun K "_law_name" "_law_name" s_l_name f fd) (F_l_draws_f : Fn P w K mg base 1 "_law_draws" ["_law_cell_here", "_law_parts"] (sp_l_draws_f K T)) : FnOk P w K mg base CX0 2 f fd ["_law_k", "_law_salt"] (sp_l_name K T) := by
  refine F.ok sc_l_name (fun vs H Q E h => ?_) (fun cdv A outer s H vs Q E hr h => ?_)
  · obtain ⟨k, salt, rfl, _⟩ := h
    rfl
  · obtain ⟨k, salt, rfl, hk, q⟩ := h
    refine ⟨_, (pss_cons (ps_set (i := 2) sc_l_name.nd rfl (.inl rfl) pe_str)
      (pss_cons (ps_asg (pe_fn F_l_draws_f (hr.mono (by decide)) (pa_cons (pv 1) (pa_cons (pe_lst (pa_cons pe_int (pa_cons pe_int (pa_cons pe_int (pa_cons pe_int pa_nil))))) pa_nil))) (pg_unl rfl (pgs_cons (pg_name (i := 3) sc_l_name.nd rfl (.inl rfl)) (pgs_cons (pg_name (i := 4) sc_l_name.nd rfl (.inl rfl)) (pgs_cons (pg_name (i := 5) sc_l_name.nd rfl (.inl rfl)) (pgs_cons (pg_name (i := 6) sc_l_name.nd rfl (.inl rfl)) pgs_nil))))))
      (pss_cons (ps_set (i := 7) sc_l_name.nd rfl (.inl rfl) (pe_op op_add_str (pe_ix ix_str (pv 2) (pe_op op_mod (pe_op op_add (pe_op op_mul pe_int (pv 0)) (pv 6)) pe_int) (fun _ _ => rfl)) (pe_ix ix_str (pv 2) (pe_op op_mod (pe_op op_add (pv 6) (pe_op op_fdivW (pv 0) pe_int)) pe_int) (fun _ _ => rfl))))
      (pss_one (ps_ret (pe_op op_add_str (pe_op op_add_str (pe_op op_repS (pe_ix ix_str (pv 2) (pv 5) (fun _ _ => rfl)) (pv 3)) (pv 7)) (pe_op op_repS (pe_ix ix_str (pv 2) (pv 5) (fun _ _ => rfl)) (pv 4)))))))), ?_⟩
    obtain ⟨a, b, c, d, ed, ha, hb, hc, hd⟩ := name_dr salt
    refine ⟨_, rfl, by show 4 ≤ sizeLine; decide, fun l1 n1 => ?_⟩
    have u1 := same_upd (T := T) (o := .lst [.int 4, .int 4, .int 26, .int 26]) n1
    refine ⟨salt, l1, [4, 4, 26, 26], rfl, SqL.of upd_same, by decide, by decide, fun p2 H2 s2 np2 e2 => ?_⟩
    rw [ed] at e2
    refine ⟨p2, _, rfl, SqL.of e2, rfl, _, _, rfl, _, _, rfl, _, _, rfl, _, _, rfl, rfl, ?_⟩
    have m1 := Int.emod_nonneg (7 * (k : Int) + d) (show (26 : Int) ≠ 0 by decide)
    have m2 := Int.emod_lt_of_pos (7 * (k : Int) + d) (show (0 : Int) < 26 by decide)
    have m3 := Int.emod_nonneg (d + (k : Int) / 26) (show (26 : Int) ≠ 0 by decide)
    have m4 := Int.emod_lt_of_pos (d + (k : Int) / 26) (show (0 : Int) < 26 by decide)
    have q' : Q (.str (nmF a b c d k)) H2 := by
      have := q H2 (u1.trans s2)
      unfold nameF at this
      rw [ed] at this
      exact this
    have z1 : (Txt.mul (chF c) a).length ≤ 3 := by rw [str_len, mul_cps ha.1 ha.2, List.length_replicate]; omega
    have z2 : (Txt.mul (chF c) b).length ≤ 3 := by rw [str_len, mul_cps hb.1 hb.2, List.length_replicate]; omega
    have z3 : ∀ x y : Str, (x ++ y).length = x.length + y.length := fun x y => by rw [str_len, str_app, List.length_append]; rfl
    refine ⟨_, rfl, _, rfl, _, _, rfl, rfl, .inl ⟨by decide, by decide⟩, _, rfl, _, _, rfl, rfl, _, _, rfl, rfl, (by show (0 : Int) < 26; decide), ABC, _, _, rfl, rfl, abc_len, abc_at m1 m2, ?_⟩
    refine ⟨_, rfl, _, rfl, _, rfl, _, _, rfl, rfl, wide_div (b := 100) (by decide) (by decide) (by decide) (by decide), _, _, rfl, rfl, _, _, rfl, rfl, (by show (0 : Int) < 26; decide), ABC, _, _, rfl, rfl, abc_len, abc_at m3 m4, _, _, rfl, rfl, by show 2 ≤ sizeLine; decide, ?_⟩
    refine ⟨_, rfl, _, rfl, ABC, _, _, rfl, rfl, abc_len, abc_at hc.1 hc.2, _, rfl, chF c, a, rfl, rfl, mul_ok ha.1 ha.2, _, rfl, _, _, rfl, rfl, sz (by rw [z3]; show (Txt.mul (chF c) a).length + 2 ≤ _; omega), ?_⟩
    refine ⟨_, rfl, _, rfl, ABC, _, _, rfl, rfl, abc_len, abc_at hc.1 hc.2, _, rfl, chF c, b, rfl, rfl, mul_ok hb.1 hb.2, _, _, rfl, rfl, sz (by rw [z3, z3]; show (Txt.mul (chF c) a).length + 2 + (Txt.mul (chF c) b).length ≤ _; omega), q'⟩

theorem rep_flat {α : Type} (v : α) : ∀ n, (List.replicate n [v]).flatten = List.replicate n v
  | 0 => rfl
  | n + 1 => by rw [List.replicate_succ, List.flatten_cons, rep_flat v n]; rfl

def sp_l_rising_of (K : PySem.W.Frag) (T : Tb) : Sp := fun vs H Q _ => ∃ c : Int, vs = [.int c] ∧ ∀ p H' ns, Sm T H H' → H p = none → H' p = some (.lst (ns.map V.int)) → Ris ns → Q (.ref p) H'
theorem cut_mid {ds : List Int} {lo m : Nat} {z1 z2 : Int} (h1 : z1 = (lo : Int)) (h2 : z2 = ((lo + m : Nat) : Int)) (hl : lo + m ≤ ds.length) : cutV (ds.map V.int) (some z1) (some z2) = ((ds.drop lo).take m).map V.int := by
  subst h1 h2
  unfold cutV
  rw [HT.sIx_nat, HT.sIx_nat, List.length_map, Nat.min_eq_left (by omega), Nat.min_eq_left (by omega), Nat.add_sub_cancel_left, List.map_take, List.map_drop]
theorem ok_l_rising_of {f : Addr} {fd : FuncData} (F : Fun K "_law_rising_of" "_law_rising_of" s_l_rising_of f fd) (B : Bn mg) (F_l_draws : Fn P w K mg base 1 "_law_draws" ["_law_cell_here", "_law_parts"] (sp_l_draws K T)) : FnOk P w K mg base CX0 2 f fd ["_law_cell_here"] (sp_l_rising_of K T) := by
  refine F.ok sc_l_rising_of (fun vs H Q E h => ?_) (fun cdv A outer s H vs Q E hr h => ?_)
  · obtain ⟨c, rfl, _⟩ := h
    rfl
  · obtain ⟨c, rfl, q⟩ := h
    refine ⟨_, (pss_cons (ps_set (i := 1) sc_l_rising_of.nd rfl (.inr rfl) (pe_fn F_l_draws (hr.mono (by decide)) (pa_cons (pv 0) (pa_cons (pe_op op_cat (pe_lst (pa_cons pe_int (pa_cons pe_int pa_nil))) (pe_op op_rep (pe_lst (pa_cons pe_int pa_nil)) pe_int)) pa_nil))))
      (pss_cons (ps_set (i := 2) sc_l_rising_of.nd rfl (.inl rfl) (pe_op op_add (pe_ix ix_list (pv 1) pe_int (fun _ _ => rfl)) pe_int))
      (pss_one (ps_ret (pe_callB cr_sortedI (by rfl) B.sorted_ (by decide +kernel) (pa_cons (pe_lc (own := [("_law_one", 3)]) (g := (gName 3)) (tt := tYes) (by rfl) sc_l_rising_of.nd (pi_list (pe_slice sl_list (pv 1) (po_some pe_int) (po_some (pe_op op_add pe_int (pv 2))))) (blkOk_by (own := [("_law_one", 3)]) (N := ["_law_cell_here", "_law_drawn", "_law_many_here", "_law_one"]) (sc := (defScope s_l_rising_of)) (by decide +kernel)) (fun _ _ _ _ _ => (pg_name (i := 3) sc_l_rising_of.nd rfl (.inl rfl))) (fun _ _ _ _ _ => pts_nil) (fun _ _ _ _ _ => (pe_ix (r := rIxL K) ix_list (pe_lst (pa_cons (pe_op op_add pe_int (pv 3)) (pa_cons (pe_op op_add pe_int (pe_op op_mod (pv 3) pe_int)) (pa_cons (pe_op op_sub pe_int (pe_op op_mod (pv 3) pe_int)) (pa_cons (pe_op op_add pe_int (pe_ix (r := rIxL K) ix_list (pv 1) pe_int (fun _ _ => rfl))) (pa_cons (pe_op op_add pe_int (pv 3)) pa_nil)))))) (pe_ix (r := rIxL K) ix_list (pv 1) pe_int (fun _ _ => rfl)) (fun _ _ => rfl)))) pa_nil)))))), ?_⟩
    refine ⟨_, rfl, by show 2 ≤ sizeLine; decide, fun l1 n1 => ⟨by show 1 ≤ sizeLine; decide, fun l2 n2 => ?_⟩⟩
    refine ⟨_, _, _, rfl, rfl, upd_same, by decide, by decide, by show 1 * 8 ≤ sizeLine; decide, fun l3 n3 => ?_⟩
    have u1 := same_upd (T := T) (o := HO.lst [V.int 8, V.int 5]) n1
    have u2 := same_upd (T := T) (o := HO.lst [V.int 12]) n2
    have u3 := same_upd (T := T) (o := HO.lst (List.replicate 8 [V.int 12]).flatten) n3
    refine ⟨_, _, _, _, rfl, rfl, u3.k (u2.k upd_same), upd_same, by show 2 + 8 ≤ sizeLine; decide, fun l4 n4 => ?_⟩
    have u4 := same_upd (T := T) (o := HO.lst ([V.int 8, V.int 5] ++ (List.replicate 8 [V.int 12]).flatten)) n4
    refine ⟨c, l4, [8, 5, 12, 12, 12, 12, 12, 12, 12, 12], rfl, SqL.of upd_same, by decide, by decide, fun p3 H3 ds s3 np3 e3 hd => ?_⟩
    have s03 : Sm T H H3 := u1.trans (u2.trans (u3.trans (u4.trans s3)))
    clear s3 u1 u2 u3 u4
    have dl : ds.length = 10 := hd.length
    obtain ⟨d0, g0, h00, h01⟩ := hd.get (i := 0) rfl
    obtain ⟨d1, g1, h10, h11⟩ := hd.get (i := 1) rfl
    obtain ⟨d2, g2, h20, h21⟩ := hd.get (i := 2) rfl
    obtain ⟨m, hm⟩ : ∃ m : Nat, d0 + 1 = (m : Int) := ⟨(d0 + 1).toNat, by omega⟩
    refine ⟨_, rfl, p3, _, 0, .int d0, rfl, rfl, SqL.of e3, at_map (i := 0) rfl g0, _, _, rfl, rfl, ?_⟩
    refine ⟨_, rfl, 2, rfl, _, rfl, _, _, rfl, rfl, _, rfl, p3, _, rfl, SqL.of e3, fun p4 np4 => ?_⟩
    have ec : cutV (ds.map V.int) (some 2) (some (2 + (d0 + 1))) = ((ds.drop 2).take m).map V.int := cut_mid (lo := 2) (m := m) rfl (by omega) (by omega)
    rw [ec]
    have u4 := same_upd (T := T) (o := HO.lst (((ds.drop 2).take m).map V.int)) np4
    refine ⟨p4, rfl, ⟨_, SqL.of upd_same⟩, fun D hD => lc_list (K := K) (a := p4) (xs := ((ds.drop 2).take m).map V.int) (Qd := _) (fun i H' => Sm T (upd H3 p4 (.lst (((ds.drop 2).take m).map V.int))) H' ∧ ∃ ns : List Int, H' D = some (.lst (ns.map V.int)) ∧ ns.length = i ∧ ∀ n ∈ ns, 1 ≤ n ∧ n ≤ 12) ⟨same_upd hD, [], upd_same, rfl, fun _ h => nomatch h⟩ (fun i H' _ ⟨sm, _⟩ => SqL.of (sm.k upd_same)) ?_ ?_⟩
    · rintro i v H' hi ⟨sm, ns, eD, hl, hn⟩
      rw [List.getElem?_map] at hi
      obtain ⟨one, hq, rfl⟩ : ∃ one, ((ds.drop 2).take m)[i]? = some one ∧ V.int one = v := Option.map_eq_some_iff.mp hi
      have him : i < m := by
        have := (List.getElem?_eq_some_iff.mp hq).1
        rw [List.length_take] at this
        omega
      have hone : 0 ≤ one ∧ one < 12 := by
        obtain ⟨x, gx, x0, x1⟩ : ∃ x, ds[2 + i]? = some x ∧ 0 ≤ x ∧ x < 12 := hd.get (q := 12) (by rcases (by omega : i = 0 ∨ i = 1 ∨ i = 2 ∨ i = 3 ∨ i = 4 ∨ i = 5 ∨ i = 6 ∨ i = 7) with rfl | rfl | rfl | rfl | rfl | rfl | rfl | rfl <;> rfl)
        rw [List.getElem?_take_of_lt him, List.getElem?_drop, gx] at hq
        cases hq
        exact ⟨x0, x1⟩
      refine ⟨rfl, tyes_i ?_⟩
      have e4 := (u4.trans sm).k e3
      refine ⟨_, rfl, _, _, rfl, rfl, _, rfl, _, _, rfl, rfl, (by show (0 : Int) < 3; decide), _, _, rfl, rfl, _, rfl, _, _, rfl, rfl, (by show (0 : Int) < 2; decide), _, _, rfl, rfl, _, rfl, p3, _, 2, .int d2, rfl, rfl, SqL.of e4, at_map (i := 2) rfl g2, _, _, rfl, rfl, _, rfl, _, _, rfl, rfl, by show 5 ≤ sizeLine; decide, fun l nl => ?_⟩
      have ul := same_upd (T := T) (o := HO.lst [V.int (1 + one), V.int (1 + one % 3), V.int (12 - one % 2), V.int (1 + d2), V.int (1 + one)]) nl
      have hz : ∃ z : Int, 1 ≤ z ∧ z ≤ 12 ∧ atI [V.int (1 + one), V.int (1 + one % 3), V.int (12 - one % 2), V.int (1 + d2), V.int (1 + one)] d1 = some (.int z) := by
        rcases (by omega : d1 = 0 ∨ d1 = 1 ∨ d1 = 2 ∨ d1 = 3 ∨ d1 = 4) with rfl | rfl | rfl | rfl | rfl
        · exact ⟨_, by omega, by omega, atI_nat (j := 0) rfl⟩
        · exact ⟨_, by omega, by omega, atI_nat (j := 1) rfl⟩
        · exact ⟨_, by omega, by omega, atI_nat (j := 2) rfl⟩
        · exact ⟨_, by omega, by omega, atI_nat (j := 3) rfl⟩
        · exact ⟨_, by omega, by omega, atI_nat (j := 4) rfl⟩
      obtain ⟨z, z1, z12, hz⟩ := hz
      have e5 := ul.k e4
      have eD5 := ul.k eD
      refine ⟨_, rfl, p3, _, 1, .int d1, rfl, rfl, SqL.of e5, at_map (i := 1) rfl g1, l, _, _, _, rfl, rfl, SqL.of upd_same, hz, ?_⟩
      refine ⟨_, eD5, by rw [List.length_map]; exact szl (by omega), same_mut (sm.trans ul) hD eD5, ns ++ [z], by rw [upd_same, List.map_append]; rfl, by rw [List.length_append, hl]; rfl, fun n hn' => ?_⟩
      rcases List.mem_append.mp hn' with h | h
      · exact hn n h
      · rw [List.mem_singleton.mp h]
        exact ⟨z1, z12⟩
    · rintro H5 ⟨s5, ns, eD, hl, hn⟩
      have nl : ns.length = m := by
        rw [hl, List.length_map, List.length_take, List.length_drop]
        omega
      refine ⟨D, ns, rfl, SqL.of eD, fun ns' p hperm hs np => ?_⟩
      have lp := hperm.length_eq
      exact q p _ ns' (s03.trans (u4.trans (s5.trans (same_upd np)))) ((s03.trans (u4.trans s5)).free _ np) upd_same ⟨by omega, by omega, fun n hn' => hn n (hperm.mem_iff.mp hn'), hs⟩

def rdB (r : Int) : Bool := decide (0 ≤ r) && decide (r ≤ 24)
def sp_p_check_rounds (K : PySem.W.Frag) (T : Tb) (CP : Addr) : Sp := fun vs H Q E => ∃ z : Int, vs = [.int z] ∧ (rdB z = true → Q .non H) ∧ (rdB z = false → ∀ cls d H', Sm T H H' → Rf K CP "bad count" cls d H' → E cls d H')
theorem ok_p_check_rounds {f : Addr} {fd : FuncData} {u_MOST_ROUNDS : Value} (F : Fun K "check_rounds" "check_rounds" s_p_check_rounds f fd) (C_MOST_ROUNDS : RelV (.int 24) u_MOST_ROUNDS ∧ mg "MOST_ROUNDS" = some u_MOST_ROUNDS) {CP : Addr} (R_BadCount : Err P w K mg base CP "BadCount" "bad count") (F_p_is_within : Fn P w K mg base 2 "is_within" ["thing", "least", "most"] (sp_p_is_within K T)) : FnOk P w K mg base (L2.CX P w) 4 f fd ["rounds"] (sp_p_check_rounds K T CP) := by
  obtain ⟨⟨tM, rfl⟩, gM⟩ := id C_MOST_ROUNDS
  refine F.okX sc_p_check_rounds (fun vs H Q E h => ?_) (fun cdv A outer s H vs Q E hr h => ?_)
  · obtain ⟨z, rfl, _⟩ := h
    rfl
  · obtain ⟨z, rfl, k1, k2⟩ := h
    refine ⟨_, (pss_one (ps_if (pt_not (pt_val (pe_fn F_p_is_within (hr.mono (by decide)) (pa_cons (pv 0) (pa_cons pe_int (pa_cons (pe_glob (by rfl) C_MOST_ROUNDS.2 C_MOST_ROUNDS.1) pa_nil)))))) (pss_one (ps_raise rfl (takes_of rfl rfl rfl rfl) (pmk_err R_BadCount (hr.mono (by decide)) (by rfl)))) pss_nil)), ?_⟩
    refine ⟨_, rfl, z, 0, 24, rfl, _, rfl, ?_⟩
    show if (!(rdB z)) = true then _ else _
    cases hz : rdB z with
    | true => exact iteF (k1 hz)
    | false => exact iteT fun cls dd hn rf => k2 hz cls (some dd) _ (same_upd hn) rf

def sp_p_mixed (K : PySem.W.Frag) (T : Tb) : Sp := fun vs H Q _ => ∃ (a b c : Addr) (x y z : Rat), vs = [.ref a, .ref b, .ref c] ∧ SqT K H a (tv (am x)) ∧ SqT K H b (tv (am y)) ∧ SqT K H c (tv (am z)) ∧ (Bd 4000 (am x) ∧ Bd 4000 (am y) ∧ Bd 4000 (am z) ∧ Bd 4000 (am (x * y)) ∧ Bd 4000 (am (1 - x)) ∧ Bd 4000 (am ((1 - x) * z))) ∧
  ∀ p H', Sm T H H' → H p = none → H' p = some (.tup (tv (am (x * y + (1 - x) * z)))) → Q (.ref p) H'
theorem ok_p_mixed {f : Addr} {fd : FuncData} {a_ONE : Addr} (F : Fun K "mixed" "mixed" s_p_mixed f fd) (g_ONE : mg "ONE" = some (.ref a_ONE)) (s_ONE : ∀ H, SqT K H a_ONE [.int 1, .int 1]) (F_p_plus : Fn P w K mg base 3 "plus" ["one", "other"] (sp_p_plus K T)) (F_p_minus : Fn P w K mg base 3 "minus" ["one", "other"] (sp_p_minus K T)) (F_p_times : Fn P w K mg base 3 "times" ["one", "other"] (sp_p_times K T)) : FnOk P w K mg base CX0 4 f fd ["part", "before", "last"] (sp_p_mixed K T) := by
  refine F.ok sc_p_mixed (fun vs H Q E h => ?_) (fun cdv A outer s H vs Q E hr h => ?_)
  · obtain ⟨a, b, c, x, y, z, rfl, _⟩ := h
    rfl
  · obtain ⟨a, b, c, x, y, z, rfl, ha, hb, hc, ⟨b1, b2, b3, b4, b5, b6⟩, q⟩ := h
    refine ⟨_, (pss_one (ps_ret (pe_fn F_p_plus (hr.mono (by decide)) (pa_cons (pe_fn F_p_times (hr.mono (by decide)) (pa_cons (pv 0) (pa_cons (pv 1) pa_nil))) (pa_cons (pe_fn F_p_times (hr.mono (by decide)) (pa_cons (pe_fn F_p_minus (hr.mono (by decide)) (pa_cons (pe_glob (v := .ref a_ONE) (by rfl) g_ONE rfl) (pa_cons (pv 0) pa_nil))) (pa_cons (pv 2) pa_nil))) pa_nil))))), ?_⟩
    refine ⟨_, rfl, _, rfl, a, b, am x, am y, rfl, ha, hb, ⟨b1, b2⟩, ⟨am_pos _, am_pos _⟩, fun p1 H1 s1 n1 e1 => ?_⟩
    rw [times_am] at e1
    refine ⟨_, rfl, a_ONE, a, (1, 1), am x, rfl, s_ONE H1, same_tup s1 ha, ⟨bd_int (small (by decide)), b1⟩, ⟨by show (0 : Int) < 1; decide, am_pos _⟩, fun p2 H2 s2 n2 e2 => ?_⟩
    rw [← am_one, minus_am] at e2
    refine ⟨_, rfl, p2, c, am (1 - x), am z, rfl, SqT.of e2, same_tup (s1.trans s2) hc, ⟨b5, b3⟩, ⟨am_pos _, am_pos _⟩, fun p3 H3 s3 n3 e3 => ?_⟩
    rw [times_am] at e3
    refine ⟨p1, p3, am (x * y), am ((1 - x) * z), rfl, SqT.of ((s2.trans s3).k e1), SqT.of e3, ⟨b4, b6⟩, ⟨am_pos _, am_pos _⟩, fun p4 H4 s4 n4 e4 => ?_⟩
    rw [plus_am] at e4
    exact q p4 H4 (s1.trans (s2.trans (s3.trans s4))) ((s1.trans (s2.trans s3)).free _ n4) e4

def sp_p_behind_one (K : PySem.W.Frag) (T : Tb) : Sp := fun vs H Q _ => ∃ (D : Int) (a b : Addr) (us : List V) (ns : List Int) (xs : List Rat), vs = [.ref a, .ref b] ∧ SqL K H a (ns.map V.int) ∧ SqL K H b us ∧ AmL K H us xs ∧ Ris ns ∧ xs.length = ns.length ∧ (0 < D ∧ (D * 27720).natAbs < 2 ^ 3900) ∧ (∀ x ∈ xs, Fr D x ∧ 0 ≤ x ∧ x ≤ 50000) ∧
  ∀ p H' us', Sm T H H' → H p = none → H' p = some (.lst us') → AmL K H' us' (bo ns xs) → Q (.ref p) H'
theorem ok_p_behind_one {f : Addr} {fd : FuncData} (F : Fun K "behind_one" "behind_one" s_p_behind_one f fd) (B : Bn mg) (F_p_amount : Fn P w K mg base 2 "amount" ["num", "den"] (sp_p_amount K T)) (F_p_mixed : Fn P w K mg base 4 "mixed" ["part", "before", "last"] (sp_p_mixed K T)) : FnOk P w K mg base CX0 5 f fd ["paces", "found"] (sp_p_behind_one K T) := by
  refine F.ok sc_p_behind_one (fun vs H Q E h => ?_) (fun cdv A outer s H vs Q E hr h => ?_)
  · obtain ⟨D, a, b, us, ns, xs, rfl, _⟩ := h
    rfl
  · obtain ⟨D, a, b, us, ns, xs, rfl, ha, hb, hu, w, hl, hD, hx, q⟩ := h
    refine ⟨_, (pss_cons (ps_set (i := 2) sc_p_behind_one.nd rfl (.inl rfl) (pe_lst (pa_cons (pe_ix ix_list (pv 1) (pe_un un_neg pe_int) (fun _ _ => rfl)) pa_nil)))
      (pss_cons (ps_for PassesOwn.never rfl (pi_range2 (by rfl) B.range_ (pa_cons pe_int (pa_cons (pe_callB call_len_seq (by rfl) B.len_ (by decide +kernel) (pa_cons (pv 0) pa_nil)) pa_nil))) (pg_name (i := 3) sc_p_behind_one.nd rfl (.inl rfl))
      (pss_one (ps_expr (pe_bm PySem.F.plainAttrs_list PySem.F.slot_list_append PySem.F.type_list_append mt_append (pv 2) (pa_cons (pe_fn F_p_mixed (hr.mono (by decide)) (pa_cons (pe_fn F_p_amount (hr.mono (by decide)) (pa_cons (pe_ix ix_list (pv 0) (pe_op op_sub (pv 3) pe_int) (fun _ _ => rfl)) (pa_cons (pe_ix ix_list (pv 0) (pv 3) (fun _ _ => rfl)) pa_nil))) (pa_cons (pe_ix ix_list (pv 1) (pe_op op_sub (pv 3) pe_int) (fun _ _ => rfl)) (pa_cons (pe_ix ix_list (pv 1) (pe_un un_neg pe_int) (fun _ _ => rfl)) pa_nil)))) pa_nil)))))
      (pss_one (ps_ret (pv 2))))), ?_⟩
    have lu := hu.len
    have n1 := w.n1
    have n8 := w.n8
    obtain ⟨bl, gl, ql⟩ := hu.at (i := ns.length - 1) (by omega)
    have at1 : atI us (-1) = some (.ref bl) := at_neg1 (by omega) (by rw [lu, hl]; exact gl)
    refine ⟨_, rfl, 1, rfl, b, _, _, .ref bl, rfl, rfl, hb, at1, by show 1 ≤ sizeLine; decide, fun o no => ?_⟩
    have u0 := same_upd (T := T) (o := HO.lst [V.ref bl]) no
    have e0 : (List.range 1).map (boR ns xs) = [xs.getD (ns.length - 1) 0] := by
      show [boR ns xs 0] = _
      unfold boR
      rw [if_pos rfl]
    have l0 : 0 < D * 27720 := by omega
    have ml := hx _ (getD_mem (d := (0 : Rat)) (show ns.length - 1 < xs.length by omega))
    have bb : ∀ {r : Rat}, Fr (D * 27720) r → 0 ≤ r → r ≤ 50000 → Bd 4000 (am r) := fun h1 h2 h3 => bdL l0 hD.2 h1 h2 (Rat.le_trans h3 (by decide +kernel))
    refine ⟨_, rfl, a, _, rfl, .inl (u0.seq ha), 1, _, rfl, by rw [List.length_map]; omega, for_range (lo := 1) (n := (((ns.map V.int).length : Int) - 1).toNat) (fun i σ H3 => Sm T H H3 ∧ ∃ x3 vs, σ = [some (.ref a), some (.ref b), some (.ref o), x3] ∧ H3 o = some (.lst vs) ∧ AmL K H3 vs ((List.range (i + 1)).map (boR ns xs))) ⟨u0, _, [.ref bl], rfl, upd_same, ?_⟩ ?_ ?_⟩
    · rw [e0]
      exact .cons (amD_dp (same_tup u0 ql)) .nil
    · rintro i σ H3 hi ⟨s3, x3, vs, rfl, eo, hv⟩
      rw [List.length_map] at hi
      have hi1 : i + 1 < ns.length := by omega
      obtain ⟨bj, gj, qj⟩ := hu.at (i := i) (by omega)
      have mj := hx _ (getD_mem (d := (0 : Rat)) (show i < xs.length by omega))
      have pA := ris_at w (show i < ns.length by omega)
      have pB := ris_at w hi1
      have pk := prt_ok w hi1
      have ep : prt ns (i + 1) = ((ns.getD i 0 : Int) : Rat) / ((ns.getD (i + 1) 0 : Int) : Rat) := rfl
      have mr := mix_rng pk.1 pk.2.1 mj.2.1 mj.2.2 ml.2.1 ml.2.2
      have f1 := prt_mul w (by omega) mj.1 hi1
      have f2 : Fr (D * 27720) ((1 - prt ns (i + 1)) * xs.getD (ns.length - 1) 0) := by
        rw [show (1 - prt ns (i + 1)) * xs.getD (ns.length - 1) 0 = xs.getD (ns.length - 1) 0 - prt ns (i + 1) * xs.getD (ns.length - 1) 0 by grind]
        exact (ml.1.up (by omega)).sub (prt_mul w (by omega) ml.1 hi1)
      have eb : boR ns xs (i + 1) = prt ns (i + 1) * xs.getD i 0 + (1 - prt ns (i + 1)) * xs.getD (ns.length - 1) 0 := by
        unfold boR
        rw [if_neg (by omega)]
        rfl
      have bp : Bd 4000 (am (prt ns (i + 1))) := bdL (D := 27720) (by decide) (small (by decide)) pk.2.2.1 pk.1 (Rat.le_trans pk.2.1 (by decide))
      have bq : Bd 4000 (am (1 - prt ns (i + 1))) := bdL (D := 27720) (by decide) (small (by decide)) ((Fr.int (by decide) 1).sub pk.2.2.1) (sub_nn' pk.2.1) (sub_le' (by decide) pk.1)
      refine ⟨_, rfl, .inl ⟨rfl, _, SqL.of eo⟩, ?_⟩
      refine ⟨_, rfl, _, rfl, _, _, rfl, rfl, a, _, _, .int (ns.getD i 0), rfl, rfl, s3.seq ha, at_map (i := i) (by omega) (getI (by omega)), ?_⟩
      refine ⟨_, rfl, _, rfl, a, _, _, .int (ns.getD (i + 1) 0), rfl, rfl, s3.seq ha, at_map (i := i + 1) (by omega) (getI hi1), ?_⟩
      refine ⟨ns.getD i 0, ns.getD (i + 1) 0, rfl, by omega, Nat.lt_of_le_of_lt (by omega : (ns.getD (i + 1) 0).natAbs ≤ 12) (Nat.lt_of_lt_of_le (by decide : 12 < 2 ^ 4) (Nat.pow_le_pow_right (by decide) (by decide))), fun p4 H4 s4 n4 e4 => ?_⟩
      rw [amt_am (by omega), ← ep] at e4
      have s34 := s3.trans s4
      refine ⟨_, rfl, _, rfl, _, _, rfl, rfl, b, _, _, .ref bj, rfl, rfl, s34.seq hb, at_of (j := i) (by omega) gj, ?_⟩
      refine ⟨_, rfl, 1, rfl, b, _, _, .ref bl, rfl, rfl, s34.seq hb, at1, ?_⟩
      refine ⟨p4, bj, bl, prt ns (i + 1), xs.getD i 0, xs.getD (ns.length - 1) 0, rfl, SqT.of e4, same_tup s34 qj, same_tup s34 ql, ⟨bp, bb (mj.1.up (by omega)) mj.2.1 mj.2.2, bb (ml.1.up (by omega)) ml.2.1 ml.2.2, bb f1 mr.1.1 mr.1.2, bq, bb f2 mr.2.1.1 mr.2.1.2⟩, fun p5 H5 s5 n5 e5 => ?_⟩
      have eo5 := (s4.trans s5).k eo
      have lv : vs.length = i + 1 := by rw [hv.len, List.length_map, List.length_range]
      refine ⟨o, _, _, rfl, rfl, eo5, szl (by omega), ?_⟩
      refine ⟨same_mut (s34.trans s5) no eo5, _, _, rfl, upd_same, ?_⟩
      rw [take_range, eb]
      exact (hv.keep (s4.trans s5)).push eo5 (SqT.of e5)
    · rintro σ H3 ⟨s3, x3, vs, rfl, eo, hv⟩
      rw [List.length_map, show (((ns.length : Int) - 1).toNat + 1) = ns.length by omega] at hv
      exact ⟨_, rfl, q o H3 vs s3 no eo hv⟩

def bhW (ns : List Int) (k : Nat) (r : Int) : Option Str := match pW ns with
  | some wd => some wd
  | none => if k = ns.length ∧ rdB r = true then none else some "bad count"
def sp_p_behind (K : PySem.W.Frag) (T : Tb) (CP : Addr) : Sp := fun vs H Q E => ∃ (D : Int) (a b : Addr) (us : List V) (ns : List Int) (xs : List Rat) (r : Int), vs = [.ref a, .ref b, .int r] ∧ SqL K H a (ns.map V.int) ∧ SqL K H b us ∧ AmL K H us xs ∧ (ns.length ≤ 1000 ∧ xs.length ≤ 1000) ∧ (0 < D ∧ D.natAbs < 2 ^ 1000) ∧ (∀ x ∈ xs, Fr D x ∧ 0 ≤ x ∧ x ≤ 50000) ∧
  (bhW ns xs.length r = none → ∀ p H' us', Sm T H H' → H p = none → H' p = some (.lst us') → AmL K H' us' (rnd ns xs r.toNat) → Q (.ref p) H') ∧ (∀ wd, bhW ns xs.length r = some wd → ∀ cls d H', Sm T H H' → Rf K CP wd cls d H' → E cls d H')
theorem ok_p_behind {f : Addr} {fd : FuncData} (F : Fun K "behind" "behind" s_p_behind f fd) (B : Bn mg) {CP : Addr} (R_BadCount : Err P w K mg base CP "BadCount" "bad count") (F_p_check_rising : Fx P w K mg base 6 "check_rising" ["paces"] (sp_p_check_rising K T CP)) (F_p_check_rounds : Fx P w K mg base 4 "check_rounds" ["rounds"] (sp_p_check_rounds K T CP)) (F_p_behind_one : Fn P w K mg base 5 "behind_one" ["paces", "found"] (sp_p_behind_one K T)) : FnOk P w K mg base (L2.CX P w) 7 f fd ["paces", "found", "rounds"] (sp_p_behind K T CP) := by
  refine F.okX sc_p_behind (fun vs H Q E h => ?_) (fun cdv A outer s H vs Q E hr h => ?_)
  · obtain ⟨D, a, b, us, ns, xs, r, rfl, _⟩ := h
    rfl
  · obtain ⟨D, a, b, us, ns, xs, r, rfl, ha, hb, hu, hl, hD, hx, k1, k2⟩ := h
    refine ⟨_, (pss_cons (ps_expr (pe_fx F_p_check_rising (hr.mono (by decide)) (takes_of rfl rfl rfl rfl) (pa_cons (pv 0) pa_nil)))
      (pss_cons (ps_if (pt_cmpR op_ne (pe_callB call_len_seq (by rfl) B.len_ (by decide +kernel) (pa_cons (pv 1) pa_nil)) (pe_callB call_len_seq (by rfl) B.len_ (by decide +kernel) (pa_cons (pv 0) pa_nil)) (nomark _)) (pss_one (ps_raise rfl (takes_of rfl rfl rfl rfl) (pmk_err R_BadCount (hr.mono (by decide)) (by rfl)))) pss_nil)
      (pss_cons (ps_expr (pe_fx F_p_check_rounds (hr.mono (by decide)) (takes_of rfl rfl rfl rfl) (pa_cons (pv 2) pa_nil)))
      (pss_cons (ps_set (i := 3) sc_p_behind.nd rfl (.inl rfl) (pe_callTy call_list_of (by rfl) B.list_ (by decide +kernel) (pa_cons (pv 1) pa_nil)))
      (pss_cons (ps_for (passes_of rfl) rfl (pi_range1 (by rfl) B.range_ (pa_cons (pv 2) pa_nil)) (pg_name (i := 4) sc_p_behind.nd rfl (.inl rfl))
      (pss_one (ps_set (i := 3) sc_p_behind.nd rfl (.inl rfl) (pe_fn F_p_behind_one (hr.mono (by decide)) (pa_cons (pv 0) (pa_cons (pv 3) pa_nil))))))
      (pss_one (ps_ret (pv 3)))))))), ?_⟩
    have lu := hu.len
    refine ⟨_, rfl, a, ns, rfl, ha, hl.1, fun hp H1 s1 => ?_, fun wd hp cls d H' s' rf => k2 wd (by unfold bhW; rw [hp]) cls d H' s' rf⟩
    have w := pW_ris.mp hp
    have n8 := w.n8
    refine ⟨_, rfl, b, _, rfl, .inl (s1.seq hb), _, rfl, a, _, rfl, .inl (s1.seq ha), rfl, _, rfl, ?_⟩
    rw [lu, List.length_map]
    by_cases hk : xs.length = ns.length
    · rw [decide_eq_true (by rw [hk])]
      refine iteF ?_
      refine ⟨_, rfl, r, rfl, fun hr => ?_, fun hr cls d H' s' rf => k2 "bad count" (by unfold bhW; rw [hp]; exact if_neg (fun c => by rw [hr] at c; exact absurd c.2 (by decide))) cls d H' (s1.trans s') rf⟩
      have k1 := k1 (by unfold bhW; rw [hp]; exact if_pos ⟨hk, hr⟩)
      have hr' : 0 ≤ r ∧ r ≤ 24 := by
        unfold rdB at hr
        simp only [Bool.and_eq_true, decide_eq_true_eq] at hr
        exact hr
      refine ⟨_, rfl, b, us, rfl, .inl (s1.seq hb), fun o no => ?_⟩
      have u := same_upd (T := T) (o := HO.lst us) no
      have s1u := s1.trans u
      refine ⟨_, rfl, r, rfl, by omega, by omega, for_range (lo := 0) (n := r.toNat) (fun i σ H3 => Sm T H H3 ∧ ∃ p x4 vs, σ = [some (.ref a), some (.ref b), some (.int r), some (.ref p), x4] ∧ H p = none ∧ H3 p = some (.lst vs) ∧ AmL K H3 vs (rnd ns xs i)) ⟨s1u, o, _, us, rfl, s1.free _ no, upd_same, hu.keep s1u⟩ ?_ ?_⟩
      · rintro i σ H3 hi ⟨s3, p, x4, vs, rfl, np, ep, hv⟩
        have hri : i ≤ 23 := by omega
        refine ⟨_, rfl, _, rfl, D * 27720 ^ i, a, p, vs, ns, rnd ns xs i, rfl, s3.seq ha, SqL.of ep, hv, w, rnd_len hk i, ⟨pw_ne hD.1 i, ?_⟩, rnd_ok w hD.1 hk hx i, fun p' H4 vs' s4 np' ep' hv' => ?_⟩
        · rw [Int.mul_assoc, ← Int.pow_succ]
          exact pw_bd hD.2 (by omega)
        · exact ⟨s3.trans s4, p', _, vs', rfl, s3.free _ np', ep', hv'⟩
      · rintro σ H3 ⟨s3, p, x4, vs, rfl, np, ep, hv⟩
        exact ⟨_, rfl, k1 p H3 vs s3 np ep hv⟩
    · rw [decide_eq_false (fun z => hk (by have := V.int.inj z; omega))]
      refine iteT ?_
      exact fun cls dd hn rf => k2 "bad count" (by unfold bhW; rw [hp]; exact if_neg (fun c => hk c.1)) cls (some dd) _ (s1.trans (same_upd hn)) rf

/-! ### the end of a law whose program raises, with tables of code objects -/
theorem walk_tabs {l : PySem.W.OpenLaw} {n k : Nat} {q : Program} {loose : List Str} {XP : (Str → Option Value) → Heap → Prop} {YP : World → Heap → Prop} {d : DefRec} {K : Params → PySem.W.Frag} {CX : World → CXT} {x : Str}
    (hn : l.most = some n) (hn2 : n ≤ sizeLine) (hdf : d.params.defaults = []) (hr : Room k callerA) (hY : ∀ (w : World) (h : Heap), YP w h → (K w.params).In h)
    (F : ∀ (w : World) (mg : Str → Option Value) (fa : Addr) (h : Heap), YP w h → (K w.params).In h → h.Ns mainGlobals mg → mg d.name = some (.ref fa) →
      (∀ (y : Str) (c P : Addr), ((recsOf q).any fun e => e.name == y) = true → PySem.W.tabIn (K w.params) y = some (c, P) → PySem.W.CodeHd h c P ∧ h.get? P = some { cls := .none, data := .fields #[] }) → LamX.LawAtS l w (K w.params) (CX w) k n x mg fa h)
    (hCX : ∀ (w : World) (H : Hp) (s : Shared) (e : Value) (s' : Shared), CX w [] H s (fun _ _ _ => False) e s' → False) :
    PySem.W.WalkO q loose XP YP l.row.toRowW d [] (fun f vs => PySem.call f vs) := by
  refine Att.attach_callB hn hdf fun w s₀ s₁ mg mb fa o pm cd doc a vs ns G Y ho hd hcd hmg hobj hints hlen hbits hg => ?_
  have KX := hY w _ Y
  have tabs : ∀ (y : Str) (c P : Addr), ((recsOf q).any fun e => e.name == y) = true → PySem.W.tabIn (K w.params) y = some (c, P) → PySem.W.CodeHd s₁.heap c P ∧ s₁.heap.get? P = some { cls := .none, data := .fields #[] } := fun y c P ha ht => by
    cases hf : (recsOf q).find? (fun e => e.name == y) with
    | none =>
      obtain ⟨e, he, hy⟩ := List.any_eq_true.mp ha
      exact absurd hy (List.find?_eq_none.mp hf e he)
    | some e => exact PySem.W.tab_of G.T KX hf ht
  obtain ⟨fd, cs, sp, hT, nT, C, hb, hsp, hF⟩ := F w mg fa _ Y KX G.T.g hmg tabs
  exact LamX.law_callTs KX G.T.g G.T.b G.T.builtins G.T.nolimit hg hT nT C G.T.bmain hobj hints (Nat.le_trans hlen hn2) hr hF hb (fun H hH hS => hsp H a ns hlen hbits hH hS) fun H e s' => hCX w H s₁ e s'
theorem tab_in {K : PySem.W.Frag} {y : Str} {f c P : Addr} {o : Obj} {fd : FuncData} {e : Value} {dd : Option Addr} {vs : Array Value} {sl : Array (Option Value)} (h1 : PySem.W.nsIn K mainGlobals y = some (some (.ref f))) (h2 : K.lookup f = some o) (h3 : o.data = .func fd) (h4 : fd.code = .ref c)
    (h5 : K.lookup c = some ⟨e, dd, .fields vs, sl⟩) (h6 : vs[11]? = some (.ref P)) : PySem.W.tabIn K y = some (c, P) := by
  obtain ⟨o1, o2, o3, o4⟩ := o
  obtain rfl : o3 = .func fd := h3
  unfold PySem.W.tabIn
  simp only [h1, h2, h4, h5, h6]
theorem okG0 {H : Hp} {P : Addr} (h : H P = some (.tbl #[])) : OkP H (P, none) := ⟨#[], h, by first | trivial | constructor⟩
theorem okS0 {H : Hp} {P : Addr} {q : Str} (h : H P = some (.tbl #[])) : OkP H (P, some q) := ⟨#[], h, by first | trivial | constructor, fun pos cv e => by cases e⟩
theorem tup_const {K : PySem.W.Frag} {a : Addr} {od : Option Addr} {xs : List V} {its : Array Value} {n : Nat} {sl : Array (Option Value)} (h : K.lookup a = some ⟨.type "tuple", od, .seq its n, sl⟩) (hs : its.size ≤ sizeLine) (hv : Vals xs its.toList) : ∀ H, SqT K H a xs := fun _ => .inr ⟨_, its, n, h, rfl, rfl, hs, hv⟩
theorem gx_lam {base : Heap} {mg : Str → Option Value} {c P : Addr} (h : LamX.TabB base mg c P) : GxR.TabB base mg c P := ⟨h.code, h.bm, h.gP⟩

theorem num_of {K : PySem.W.Frag} {f : Addr} {fd : FuncData} (F : Fun K "is_number" "is_number" s_p_is_number f fd) : NumAt K f := by
  obtain ⟨oc, od, kV, doc, pm, an, cdv, ct, osl, rfl, lk, hcg⟩ := F.ex
  exact ⟨oc, od, kV, doc, pm, an, cdv, ct, osl, _, _, _, _, _, _, _, _, _, _, _, _, lk, hcg⟩
theorem with_of {K : PySem.W.Frag} {f : Addr} {fd : FuncData} (F : Fun K "is_within" "is_within" s_p_is_within f fd) : WithAt K f := by
  obtain ⟨oc, od, kV, doc, pm, an, cdv, ct, osl, rfl, lk, hcg⟩ := F.ex
  exact ⟨oc, od, kV, doc, pm, an, cdv, ct, osl, _, _, _, _, _, _, _, _, _, _, _, _, lk, hcg⟩

theorem labour_rng {qs : List Am} (hwb : 1 ≤ qs.length ∧ qs.length ≤ 6 ∧ ∀ q ∈ qs, 1 ≤ q.1 ∧ q.1 ≤ 9 ∧ 1 ≤ q.2 ∧ q.2 ≤ 9) : 0 ≤ labourM qs ∧ labourM qs ≤ 486 := by
  have h := sum_bd (c := 81) (by decide) (qs.map fun (q : Int × Int) => q.1 * q.2) (fun z hz => by
    obtain ⟨e, he, rfl⟩ := List.mem_map.mp hz
    have k := hwb.2.2 e he
    exact ⟨Int.mul_nonneg (by omega) (by omega), (Int.mul_le_mul k.2.1 k.2.2.2 (by omega) (by omega) : e.1 * e.2 ≤ 9 * 9)⟩)
  rw [List.length_map] at h
  unfold labourM
  omega

theorem iteJ2 {c : Bool} {A B : Prop} (hA : A) (hB : B) : if c = true then A else B := by
  cases c
  · exact iteF hB
  · exact iteT hA
def sp_p_check_places (K : PySem.W.Frag) (T : Tb) (CP : Addr) : Sp := fun vs H Q E => ∃ (D : Int) (c f : Addr) (ws : List V) (ps : List Rat) (L : Int), vs = [.ref c, .ref f] ∧ SqL K H c ws ∧ AmL K H ws ps ∧ (1 ≤ ps.length ∧ ps.length ≤ 100) ∧ SqT K H f (tv (am (L : Rat))) ∧ L.natAbs < 2 ^ 60 ∧ (0 < D ∧ D.natAbs < 2 ^ 3900) ∧ (∀ p ∈ ps, Fr D p ∧ 0 ≤ p ∧ p ≤ 50000) ∧
  ((ps.getD 0 0 ≠ 0 ∧ ∀ cls d H', Sm T H H' → Rf K CP "bad place" cls d H' → E cls d H') ∨ (ps.getD 0 0 = 0 ∧ (∀ p ∈ ps, p < (L : Rat)) ∧ ps.Pairwise (· ≤ ·) ∧ ∀ H', Sm T H H' → Q .non H'))
theorem ok_p_check_places {f : Addr} {fd : FuncData} {a_NOUGHT : Addr} (F : Fun K "check_places" "check_places" s_p_check_places f fd) (B : Bn mg) (g_NOUGHT : mg "NOUGHT" = some (.ref a_NOUGHT)) (s_NOUGHT : ∀ H, SqT K H a_NOUGHT [.int 0, .int 1]) {CP : Addr} (R_BadPlace : Err P w K mg base CP "BadPlace" "bad place") (F_p_below : Fn P w K mg base 1 "below" ["one", "other"] (sp_p_below K T)) : FnOk P w K mg base (L2.CX P w) 4 f fd ["places", "fire"] (sp_p_check_places K T CP) := by
  refine F.okX sc_p_check_places (fun vs H Q E h => ?_) (fun cdv A outer s H vs Q E hr h => ?_)
  · obtain ⟨D, c, f, ws, ps, L, rfl, _⟩ := h
    rfl
  · obtain ⟨D, c, f, ws, ps, L, rfl, hc, hw, hn, hf, hL, hD, hps, k⟩ := h
    refine ⟨_, (pss_cons (ps_if (PW.pt (pw_or (pt_cmpR (op_neD hr.units) (pe_ix ix_list (pv 0) pe_int (fun _ _ => rfl)) (pe_glob (v := .ref a_NOUGHT) (by rfl) g_NOUGHT rfl) (nomark _)) (pw_or1 (pt_not (pt_val (pe_fn F_p_below (hr.mono (by decide)) (pa_cons (pe_ix ix_list (pv 0) (pe_un un_neg pe_int) (fun _ _ => rfl)) (pa_cons (pv 1) pa_nil)))))))) (pss_one (ps_raise rfl (takes_of rfl rfl rfl rfl) (pmk_err R_BadPlace (hr.mono (by decide)) (by rfl)))) pss_nil)
      (pss_one (ps_for (passes_of rfl) rfl (pi_zip (by rfl) B.zip_ (pa_cons (pv 0) (pa_cons (pe_slice sl_list (pv 0) (po_some pe_int) po_none) pa_nil))) (pg_tup rfl (pgs_cons (pg_name (i := 2) sc_p_check_places.nd rfl (.inl rfl)) (pgs_cons (pg_name (i := 3) sc_p_check_places.nd rfl (.inl rfl)) pgs_nil)))
      (pss_one (ps_if (pt_val (pe_fn F_p_below (hr.mono (by decide)) (pa_cons (pv 3) (pa_cons (pv 2) pa_nil)))) (pss_one (ps_raise rfl (takes_of rfl rfl rfl rfl) (pmk_err R_BadPlace (hr.mono (by decide)) (by rfl)))) pss_nil))))), ?_⟩
    obtain ⟨b0, g0, q0⟩ := hw.at (i := 0) (by omega)
    have lw := hw.len
    have z0 : SqT K H a_NOUGHT (tv ((0, 1) : Am)) := s_NOUGHT H
    have bd : ∀ p ∈ ps, Bd 4000 (am p) := fun p hp => bdL hD.1 hD.2 (hps p hp).1 (hps p hp).2.1 (Rat.le_trans (hps p hp).2.2 (by decide))
    refine ⟨_, rfl, c, ws, 0, .ref b0, rfl, rfl, hc, atI_nat (j := 0) g0, amD (am (ps.getD 0 0)), amD (0, 1), amD_dp q0, amD_dp z0, shaped_am _, shaped_am _, _, rfl, ?_⟩
    rw [eqv_am]
    rcases k with ⟨hne, ke⟩ | ⟨h0, hlt, hris, kq⟩
    · rw [decide_eq_false (fun z => hne (am_inj (z.trans am_zero.symm)))]
      exact iteT (iteT fun cls dd hn rf => ke cls (some dd) _ (same_upd hn) rf)
    · rw [decide_eq_true (by rw [h0, am_zero])]
      refine iteF ?_
      obtain ⟨bl, gl, ql⟩ := hw.at (i := ps.length - 1) (by omega)
      have ml := getD_mem (d := (0 : Rat)) (show ps.length - 1 < ps.length by omega)
      refine ⟨_, rfl, 1, rfl, c, ws, _, .ref bl, rfl, rfl, hc, at_neg1 (by omega) (by rw [lw]; exact gl), _, rfl, bl, f, _, _, rfl, ql, hf, ⟨bd _ ml, ?_⟩, _, rfl, ?_⟩
      · rw [am_int]
        exact bd_int (small hL)
      rw [below_am, decide_eq_true (hlt _ ml)]
      refine iteF ?_
      refine ⟨_, rfl, _, rfl, 1, rfl, c, ws, rfl, hc, fun l1 n1 => ?_⟩
      have ec : cutV ws (some 1) none = ws.drop 1 := cut_drop _ 1 rfl
      rw [ec]
      have u1 := same_upd (T := T) (o := HO.lst (ws.drop 1)) n1
      refine ⟨c, l1, _, _, rfl, u1.seq hc, SqL.of upd_same, for_it (walk_zip (n := ps.length - 1) (by rw [List.length_drop, lw]; omega)) (fun i σ H3 => Sm T (upd H l1 (.lst (ws.drop 1))) H3 ∧ ∃ x1 x2, σ = [some (.ref c), some (.ref f), x1, x2]) ⟨Sm.refl, _, _, rfl⟩ (fun i σ H3 _ ⟨s3, _⟩ => ⟨(u1.trans s3).seq hc, SqL.of (s3.k upd_same)⟩) ?_ ?_⟩
      · rintro i x σ H2 H3 hi ⟨s2, x1, x2, rfl⟩ ⟨tp, y1, y2, rfl, ntp, rfl, f1, f2⟩
        obtain ⟨b1, g1, q1⟩ := hw.at (i := i) (by omega)
        obtain ⟨b2, g2, q2⟩ := hw.at (i := i + 1) (by omega)
        simp only [g1] at f1
        simp only [List.getElem?_drop, Nat.add_comm 1 i, g2] at f2
        cases f1
        cases f2
        have ut := same_upd (T := T) (o := .tup [V.ref b1, V.ref b2]) ntp
        have s3 := u1.trans (s2.trans ut)
        refine ⟨tp, _, rfl, SqT.of upd_same, rfl, _, _, rfl, _, _, rfl, rfl, ?_⟩
        refine ⟨_, rfl, _, rfl, b2, b1, _, _, rfl, same_tup s3 q2, same_tup s3 q1, ⟨bd _ (getD_mem (by omega)), bd _ (getD_mem (by omega))⟩, _, rfl, ?_⟩
        have hle : ps.getD i 0 ≤ ps.getD (i + 1) 0 := by
          rw [getD_lt (show i < ps.length by omega), getD_lt (show i + 1 < ps.length by omega)]
          exact List.pairwise_iff_getElem.mp hris i (i + 1) (by omega) (by omega) (by omega)
        rw [below_am, decide_eq_false (Rat.not_lt.mpr hle)]
        exact iteF ⟨s2.trans ut, _, _, rfl⟩
      · rintro σ H2 ⟨s2, x1, x2, rfl⟩
        exact kq H2 (u1.trans s2)
def shW (qs : List Am) (ns : List Int) (ps : List Rat) : Option Str :=
  if wayB qs = true then (if ps.length = ns.length then (match pW ns with
    | some wd => some wd
    | none => if ps.getD 0 0 = 0 then none else some "bad place") else some "bad count") else some "bad way"
/-- the share of hand j: the way to the next one, or to the fire, by its pace -/
def shr (L : Int) (ns : List Int) (ps : List Rat) (j : Nat) : Rat := ((ps.drop 1 ++ [(L : Rat)]).getD j 0 - ps.getD j 0) / ((ns.getD j 0 : Int) : Rat)
def sp_p_shares (K : PySem.W.Frag) (T : Tb) (CP : Addr) : Sp := fun vs H Q E => ∃ (D : Int) (a b c : Addr) (us ws : List V) (qs : List Am) (ns : List Int) (ps : List Rat), vs = [.ref a, .ref b, .ref c] ∧ (SqL K H a us ∧ DpAll K H us (qs.map amD) ∧ qs.length ≤ 1000) ∧ (SqL K H b (ns.map V.int) ∧ ns.length ≤ 1000) ∧ (SqL K H c ws ∧ AmL K H ws ps ∧ ps.length ≤ 1000) ∧ Ok T H ∧ (0 < D ∧ D.natAbs < 2 ^ 3900) ∧ (∀ p ∈ ps, Fr D p ∧ 0 ≤ p ∧ p ≤ 50000) ∧
  (shW qs ns ps = none → (∀ p ∈ ps, p < ((labourM qs : Int) : Rat)) ∧ ps.Pairwise (· ≤ ·)) ∧
  (shW qs ns ps = none → ∀ p H' us', Sm T H H' → H p = none → H' p = some (.lst us') → AmL K H' us' ((List.range ns.length).map (shr (labourM qs) ns ps)) → Q (.ref p) H') ∧ (∀ wd, shW qs ns ps = some wd → ∀ cls d H', Sm T H H' → Rf K CP wd cls d H' → E cls d H')
theorem amL_snoc {K : PySem.W.Frag} {H : Hp} {us : List V} {xs : List Rat} {b : Addr} {r : Rat} (h : AmL K H us xs) (hb : SqT K H b (tv (am r))) : AmL K H (us ++ [.ref b]) (xs ++ [r]) := by
  unfold AmL
  rw [List.map_append, List.map_append]
  exact dpa_app h (.cons (amD_dp hb) .nil)
theorem AmL.take {K : PySem.W.Frag} {H : Hp} {us : List V} {xs : List Rat} (h : AmL K H us xs) (n : Nat) : AmL K H (us.take n) (xs.take n) := by
  have := dpa_take n h
  rw [← List.map_take, ← List.map_take] at this
  exact this
theorem AmL.drop {K : PySem.W.Frag} {H : Hp} {us : List V} {xs : List Rat} (h : AmL K H us xs) (n : Nat) : AmL K H (us.drop n) (xs.drop n) := by
  have := dpa_drop n h
  rw [← List.map_drop, ← List.map_drop] at this
  exact this
theorem ok_p_shares {f : Addr} {fd : FuncData} (F : Fun K "shares" "shares" s_p_shares f fd) (B : Bn mg) {CP : Addr} (R_BadCount : Err P w K mg base CP "BadCount" "bad count") (F_p_minus : Fn P w K mg base 3 "minus" ["one", "other"] (sp_p_minus K T)) (F_p_over : Fn P w K mg base 3 "over" ["one", "other"] (sp_p_over K T)) (F_p_check_rising : Fx P w K mg base 6 "check_rising" ["paces"] (sp_p_check_rising K T CP)) (F_p_labour : Fx P w K mg base 5 "labour" ["way"] (sp_p_labour K T CP)) (F_p_check_places : Fx P w K mg base 4 "check_places" ["places", "fire"] (sp_p_check_places K T CP)) : FnOk P w K mg base (L2.CX P w) 7 f fd ["way", "paces", "places"] (sp_p_shares K T CP) := by
  refine F.okX sc_p_shares (fun vs H Q E h => ?_) (fun cdv A outer s H vs Q E hr h => ?_)
  · obtain ⟨D, a, b, c, us, ws, qs, ns, ps, rfl, _⟩ := h
    rfl
  · obtain ⟨D, a, b, c, us, ws, qs, ns, ps, rfl, ⟨ha, hd, hq⟩, ⟨hb, hn⟩, ⟨hc, hw, hp⟩, hok, hD, hps, hg, k1, k2⟩ := h
    refine ⟨_, (pss_cons (ps_set (i := 3) sc_p_shares.nd rfl (.inl rfl) (pe_tup (pa_cons (pe_fx F_p_labour (hr.mono (by decide)) (takes_of rfl rfl rfl rfl) (pa_cons (pv 0) pa_nil)) (pa_cons pe_int pa_nil))))
      (pss_cons (ps_if (pt_cmpR op_ne (pe_callB call_len_seq (by rfl) B.len_ (by decide +kernel) (pa_cons (pv 2) pa_nil)) (pe_callB call_len_seq (by rfl) B.len_ (by decide +kernel) (pa_cons (pv 1) pa_nil)) (nomark _)) (pss_one (ps_raise rfl (takes_of rfl rfl rfl rfl) (pmk_err R_BadCount (hr.mono (by decide)) (by rfl)))) pss_nil)
      (pss_cons (ps_expr (pe_fx F_p_check_rising (hr.mono (by decide)) (takes_of rfl rfl rfl rfl) (pa_cons (pv 1) pa_nil)))
      (pss_cons (ps_expr (pe_fx F_p_check_places (hr.mono (by decide)) (takes_of rfl rfl rfl rfl) (pa_cons (pv 2) (pa_cons (pv 3) pa_nil))))
      (pss_cons (ps_set (i := 4) sc_p_shares.nd rfl (.inl rfl) (pe_op op_cat (pe_slice sl_list (pv 2) (po_some pe_int) po_none) (pe_lst (pa_cons (pv 3) pa_nil))))
      (pss_one (ps_ret (pe_lc (own := [("pace", 5), ("place", 6), ("end", 7)]) (g := (gTup K 3 (gCons (gName 5) (gCons (gName 6) (gCons (gName 7) gNil))))) (tt := tYes) (by rfl) sc_p_shares.nd (pi_zip3 (by rfl) B.zip_ (pa_cons (pv 1) (pa_cons (pv 2) (pa_cons (pv 4) pa_nil)))) (blkOk_by (own := [("pace", 5), ("place", 6), ("end", 7)]) (N := ["way", "paces", "places", "fire", "ends", "pace", "place", "end"]) (sc := (defScope s_p_shares)) (by decide +kernel)) (fun _ _ _ _ _ => (pg_tup rfl (pgs_cons (pg_name (i := 5) sc_p_shares.nd rfl (.inl rfl)) (pgs_cons (pg_name (i := 6) sc_p_shares.nd rfl (.inl rfl)) (pgs_cons (pg_name (i := 7) sc_p_shares.nd rfl (.inl rfl)) pgs_nil))))) (fun _ _ _ _ _ => pts_nil) (fun _ _ _ _ _ => (pe_fn F_p_over (hr.mono (by decide)) (pa_cons (pe_fn F_p_minus (hr.mono (by decide)) (pa_cons (pv 7) (pa_cons (pv 6) pa_nil))) (pa_cons (pe_tup (pa_cons (pv 5) (pa_cons pe_int pa_nil))) pa_nil)))))))))))), ?_⟩
    have lw := hw.len
    refine ⟨_, rfl, a, us, qs, rfl, ha, hd, hq, hok, fun hwb H1 s1 => ?_, fun hwb cls d H' s' rf => k2 "bad way" (by unfold shW; rw [hwb]; rfl) cls d H' s' rf⟩
    have lr := labour_rng (wayB_b hwb)
    refine ⟨by show 2 ≤ sizeLine; decide, fun t nt => ?_⟩
    have ut := same_upd (T := T) (o := HO.tup [V.int (labourM qs), V.int 1]) nt
    have s1t := s1.trans ut
    refine ⟨_, rfl, c, _, rfl, .inl (s1t.seq hc), _, rfl, b, _, rfl, .inl (s1t.seq hb), rfl, _, rfl, ?_⟩
    rw [lw, List.length_map]
    by_cases hl : ps.length = ns.length
    · rw [decide_eq_true (by rw [hl])]
      refine iteF ?_
      refine ⟨_, rfl, b, ns, rfl, s1t.seq hb, hn, fun hpw H2 s2 => ?_, fun wd hpw cls d H' s' rf => k2 wd (by unfold shW; rw [if_pos hwb, if_pos hl, hpw]) cls d H' (s1t.trans s') rf⟩
      have w := pW_ris.mp hpw
      have n1 := w.n1
      have n8 := w.n8
      have s2t := s1t.trans s2
      have ht2 : SqT K H2 t (tv (am ((labourM qs : Int) : Rat))) := by
        rw [am_int]
        exact SqT.of (s2.k upd_same)
      by_cases h0 : ps.getD 0 0 = 0
      · have hsh : shW qs ns ps = none := by
          unfold shW
          rw [if_pos hwb, if_pos hl, hpw]
          exact if_pos h0
        have k1 := k1 hsh
        obtain ⟨hlt, hris⟩ := hg hsh
        refine ⟨_, rfl, _, rfl, D, c, t, ws, ps, labourM qs, rfl, s2t.seq hc, hw.keep s2t, ⟨by omega, by omega⟩, ht2, by omega, hD, hps, .inr ⟨h0, hlt, hris, fun H3 s3 => ?_⟩⟩
        have s3t := s2t.trans s3
        refine ⟨_, rfl, 1, rfl, c, ws, rfl, s3t.seq hc, fun l1 n1 => ?_⟩
        have ec : cutV ws (some 1) none = ws.drop 1 := cut_drop _ 1 rfl
        rw [ec]
        have u1 := same_upd (T := T) (o := HO.lst (ws.drop 1)) n1
        refine ⟨_, rfl, by show 1 ≤ sizeLine; decide, fun l2 n2 => ?_⟩
        have u2 := same_upd (T := T) (o := HO.lst [V.ref t]) n2
        refine ⟨l1, l2, _, _, rfl, rfl, u2.k upd_same, upd_same, sz (by rw [List.length_drop]; show _ + 1 ≤ _; omega), fun l3 n3 => ?_⟩
        have u3 := same_upd (T := T) (o := HO.lst (ws.drop 1 ++ [V.ref t])) n3
        have s4t := s3t.trans (u1.trans (u2.trans u3))
        have e3 : upd (upd (upd H3 l1 (.lst (ws.drop 1))) l2 (.lst [.ref t])) l3 (.lst (ws.drop 1 ++ [.ref t])) l3 = some (.lst (ws.drop 1 ++ [.ref t])) := upd_same
        have hw4 := hw.keep s4t
        have ht4 := same_tup (s3.trans (u1.trans (u2.trans u3))) ht2
        have hE := amL_snoc (hw4.drop 1) ht4
        generalize upd (upd (upd H3 l1 (.lst (ws.drop 1))) l2 (.lst [.ref t])) l3 (.lst (ws.drop 1 ++ [.ref t])) = H4 at *
        have lE : (ps.drop 1 ++ [((labourM qs : Int) : Rat)]).length = ns.length := by rw [List.length_append, List.length_drop]; show _ + 1 = _; omega
        have gE : ∀ j, j < ns.length → ps.getD j 0 ≤ (ps.drop 1 ++ [((labourM qs : Int) : Rat)]).getD j 0 ∧ Fr D ((ps.drop 1 ++ [((labourM qs : Int) : Rat)]).getD j 0) ∧ (ps.drop 1 ++ [((labourM qs : Int) : Rat)]).getD j 0 ≤ 50000 := fun j hj => by
          by_cases hj2 : j + 1 < ns.length
          · have e : (ps.drop 1 ++ [((labourM qs : Int) : Rat)]).getD j 0 = ps.getD (j + 1) 0 := by
              rw [List.getD_eq_getElem?_getD, List.getElem?_append_left (by rw [List.length_drop]; omega), List.getElem?_drop, Nat.add_comm 1 j, ← List.getD_eq_getElem?_getD]
            rw [e]
            have m := hps _ (getD_mem (d := (0 : Rat)) (show j + 1 < ps.length by omega))
            refine ⟨?_, m.1, m.2.2⟩
            rw [getD_lt (show j < ps.length by omega), getD_lt (show j + 1 < ps.length by omega)]
            exact List.pairwise_iff_getElem.mp hris j (j + 1) (by omega) (by omega) (by omega)
          · have e : (ps.drop 1 ++ [((labourM qs : Int) : Rat)]).getD j 0 = ((labourM qs : Int) : Rat) := by
              rw [List.getD_eq_getElem?_getD, List.getElem?_append_right (by rw [List.length_drop]; omega), List.length_drop, show j - (ps.length - 1) = 0 by omega]
              rfl
            rw [e]
            refine ⟨Rat.le_of_lt (hlt _ (getD_mem (by omega))), Fr.int (by omega) _, ?_⟩
            exact Rat.le_trans (Rat.intCast_le_intCast.mpr lr.2) (by decide +kernel)
        refine ⟨_, rfl, _, rfl, _, rfl, b, c, l3, _, _, _, rfl, s4t.seq hb, s4t.seq hc, SqL.of e3, fun D0 hD0 => lc_it (walk_zip3 (n := ns.length) (by rw [List.length_map, lw, hE.len, lE]; omega)) (Qd := _) (fun i H' => Sm T H4 H' ∧ ∃ vs, H' D0 = some (.lst vs) ∧ AmL K H' vs ((List.range i).map (shr (labourM qs) ns ps))) ⟨same_upd hD0, [], upd_same, .nil⟩ (fun i H' _ ⟨sm, _⟩ => ⟨(s4t.trans sm).seq hb, (s4t.trans sm).seq hc, SqL.of (sm.k e3)⟩) ?_ ?_⟩
        · rintro i x H5 H6 hi ⟨sm, vs, eD, hv⟩ ⟨tp, x1, y1, z1, rfl, ntp, rfl, f1, f2, f3⟩
          have g1 := getI (l := ns) (j := i) hi
          obtain ⟨b2, g2, q2⟩ := hw4.at (i := i) (by omega)
          obtain ⟨b3, g3, q3⟩ := hE.at (i := i) (by omega)
          simp only [List.getElem?_map, g1, Option.map_some] at f1
          simp only [g2] at f2
          simp only [g3] at f3
          cases f1
          cases f2
          cases f3
          have ut' := same_upd (T := T) (o := .tup [V.int (ns.getD i 0), V.ref b2, V.ref b3]) ntp
          have pc := w.pace _ (getD_mem (d := (0 : Int)) hi)
          have hp1 := hps _ (getD_mem (d := (0 : Rat)) (show i < ps.length by omega))
          obtain ⟨ge1, ge2, ge3⟩ := gE i hi
          have s5 := sm.trans ut'
          refine ⟨tp, _, rfl, SqT.of upd_same, rfl, _, _, rfl, _, _, rfl, _, _, rfl, rfl, rfl, tyes_i ?_⟩
          refine ⟨_, rfl, _, rfl, b3, b2, _, _, rfl, same_tup s5 q3, same_tup s5 q2, ⟨bdL hD.1 hD.2 ge2 (Rat.le_trans hp1.2.1 ge1) (Rat.le_trans ge3 (by decide)), bdL hD.1 hD.2 hp1.1 hp1.2.1 (Rat.le_trans hp1.2.2 (by decide))⟩, ⟨am_pos _, am_pos _⟩, fun p4 H7 s7 n4 e4 => ?_⟩
          rw [minus_am] at e4
          refine ⟨_, rfl, by show 2 ≤ sizeLine; decide, fun t2 nt2 => ?_⟩
          have u4 := same_upd (T := T) (o := .tup [V.int (ns.getD i 0), V.int 1]) nt2
          refine ⟨p4, t2, _, (ns.getD i 0, 1), rfl, SqT.of (u4.k e4), SqT.of upd_same, ⟨bdL hD.1 hD.2 (ge2.sub hp1.1) (sub_nn' ge1) (Rat.le_trans (sub_le' ge3 hp1.2.1) (by decide)), bd_int (small (by omega))⟩, ⟨am_pos _, by show (0 : Int) < 1; decide, by show ns.getD i 0 ≠ 0; omega⟩, fun p5 H8 s8 n5 e5 => ?_⟩
          rw [← am_int, over_am _ _ (cn (by omega))] at e5
          have sA := ut'.trans (s7.trans (u4.trans s8))
          have eD5 := sA.k eD
          have lv : vs.length = i := by rw [hv.len, List.length_map, List.length_range]
          refine ⟨_, eD5, szl (by omega), same_mut (sm.trans sA) hD0 eD5, _, upd_same, ?_⟩
          rw [take_range]
          exact (hv.keep sA).push eD5 (SqT.of e5)
        · rintro H5 ⟨sm, vs, eD, hv⟩
          exact k1 D0 H5 vs (s4t.trans sm) (s4t.free _ hD0) eD hv
      · refine ⟨_, rfl, _, rfl, D, c, t, ws, ps, labourM qs, rfl, s2t.seq hc, hw.keep s2t, ⟨by omega, by omega⟩, ht2, by omega, hD, hps, .inl ⟨h0, fun cls d H' s' rf => k2 "bad place" ?_ cls d H' (s2t.trans s') rf⟩⟩
        unfold shW
        rw [if_pos hwb, if_pos hl, hpw]
        exact if_neg h0
    · rw [decide_eq_false (fun z => hl (by have := V.int.inj z; omega))]
      exact iteT fun cls dd hn rf => k2 "bad count" (by unfold shW; rw [if_pos hwb, if_neg hl]) cls (some dd) _ (s1t.trans (same_upd hn)) rf

theorem sm_sx1 {T : Tb} {H H1 H2 : Hp} {c : Addr} (s : Sm T H H1) (x : Sx T [c] H1 H2) (hc : H c = none) : Sm T H H2 :=
  Sx.sm ((s.sx (S := [])).trans x fun y hy => .inr (by rw [List.mem_singleton.mp hy]; exact hc))
theorem sm_own {T : Tb} {H H1 H2 : Hp} {S : List Addr} (s : Sm T H H1) (x : Sx T S H1 H2) (hc : ∀ y ∈ S, H y = none) : Sm T H H2 :=
  Sx.sm ((s.sx (S := [])).trans x fun y hy => .inr (hc y hy))
theorem ne_i {a b : Int} (h : a = b) : (!decide (V.int a = V.int b)) = false := by rw [h, decide_eq_true rfl]; rfl
/-! ### names, from the well to the fire -/
def nmU (salt : Int) (m : Nat) : List Str := (List.range m).map fun k => nameF k salt
theorem nmU_len (salt : Int) (m : Nat) : (nmU salt m).length = m := by unfold nmU; rw [List.length_map, List.length_range]
theorem nmU_get {salt : Int} {m i : Nat} (h : i < m) : (nmU salt m)[i]'(by rw [nmU_len]; exact h) = nameF i salt := by unfold nmU; rw [List.getElem_map, List.getElem_range]
theorem nmU_nd {salt : Int} {m : Nat} (h : m ≤ 26) : (nmU salt m).Nodup := by
  unfold List.Nodup
  rw [List.pairwise_iff_getElem]
  intro i j hi hj hij z
  rw [nmU_len] at hi hj
  rw [nmU_get hi, nmU_get hj] at z
  have := name_inj (by omega) (by omega) z
  omega
theorem nmU_drop {salt : Int} {m i : Nat} (h : i < m) : (nmU salt m).drop i = nameF i salt :: (nmU salt m).drop (i + 1) := by
  rw [List.drop_eq_getElem_cons (by rw [nmU_len]; exact h), nmU_get h]
theorem nmU_new {salt : Int} {m i : Nat} (h : i < m) (hm : m ≤ 26) : nameF i salt ∉ (nmU salt m).drop (i + 1) := by
  have := (nmU_nd (salt := salt) hm).sublist (List.drop_sublist i _)
  rw [nmU_drop h] at this
  exact (List.nodup_cons.mp this).1

/-! ### what a law holds while a chain goes its way -/
structure LS (K : PySem.W.Frag) (T : Tb) (CC : Addr) (H : Hp) (c : Addr) (ls : List (Addr × List V)) (us : List V) (ds : List PyData) (H' : Hp) (A : Ad) (s : Ch) : Prop where
  sm : Sm T H H'
  ch : ChAt K CC H' c A s
  own : ∀ y ∈ ownC c A, H y = none
  keep : ∀ p ∈ ls, H' p.1 = some (.lst p.2)
  out : ∀ p ∈ ls, p.1 ∉ ownC c A
  dp : DpAll K H' us ds
  nl : ds.all (noL 3) = true
theorem noL_amD (qs : List Am) : (qs.map amD).all (noL 3) = true := by
  rw [List.all_map]
  exact List.all_eq_true.mpr fun _ _ => rfl
section
variable {K : PySem.W.Frag} {T : Tb} {CC : Addr} {H : Hp} {c : Addr} {ls : List (Addr × List V)} {us : List V} {ds : List PyData} {H' H2 : Hp} {A A2 : Ad} {s s2 : Ch}
theorem LS.go (h : LS K T CC H c ls us ds H' A s) (e : Sm T H' H2) : LS K T CC H c ls us ds H2 A s :=
  ⟨h.sm.trans e, h.ch.sm e, h.own, fun p hp => e.k (h.keep p hp), h.out, dpa_same e _ _ h.dp, h.nl⟩
theorem LS.on (h : LS K T CC H c ls us ds H' A s) (e : Sx T (ownC c A) H' H2) (h2 : ChAt K CC H2 c A2 s2) (fr : ∀ x ∈ ownC c A2, x ∈ ownC c A ∨ H' x = none) : LS K T CC H c ls us ds H2 A2 s2 :=
  ⟨sm_own h.sm e h.own, h2, fun y hy => (fr y hy).elim (h.own y) fun z => h.sm.free _ z, fun p hp => e.lst (h.keep p hp) (h.out p hp), fun p hp hy => (fr _ hy).elim (h.out p hp) fun z => (by rw [h.keep p hp] at z; cases z), e.dps 3 _ _ h.nl h.dp, h.nl⟩
theorem LS.on1 (h : LS K T CC H c ls us ds H' A s) (e : Sx T [c] H' H2) (h2 : ChAt K CC H2 c A2 s2) (fr : ∀ x ∈ ownC c A2, x = c ∨ H' x = none) : LS K T CC H c ls us ds H2 A2 s2 :=
  h.on (e.mono fun x hx => .inl (by rw [List.mem_singleton.mp hx]; simp [ownC])) h2 fun x hx => (fr x hx).imp (fun z => by rw [z]; simp [ownC]) id
end

/-! ### shares of a chain whose paces rise -/
def shL (L : Int) (ps : List Int) (xs : List Rat) : List Rat := (List.range ps.length).map (shr L ps xs)
theorem shL_len (L : Int) (ps : List Int) (xs : List Rat) : (shL L ps xs).length = ps.length := by unfold shL; rw [List.length_map, List.length_range]
theorem shL_get {L : Int} {ps : List Int} {xs : List Rat} {j : Nat} (h : j < ps.length) : (shL L ps xs).getD j 0 = shr L ps xs j := by
  unfold shL
  rw [List.getD_eq_getElem?_getD, List.getElem?_map, List.getElem?_range h]
  rfl
theorem shr_in {L : Int} {ps : List Int} {xs : List Rat} {j : Nat} (h : j + 1 < xs.length) : shr L ps xs j = (xs.getD (j + 1) 0 - xs.getD j 0) / ((ps.getD j 0 : Int) : Rat) := by
  unfold shr
  congr 2
  rw [List.getD_eq_getElem?_getD, List.getElem?_append_left (by rw [List.length_drop]; omega), List.getElem?_drop, Nat.add_comm, ← List.getD_eq_getElem?_getD]
theorem shr_last {L : Int} {ps : List Int} {xs : List Rat} {j : Nat} (h : j + 1 = xs.length) : shr L ps xs j = ((L : Rat) - xs.getD j 0) / ((ps.getD j 0 : Int) : Rat) := by
  unfold shr
  congr 2
  rw [List.getD_eq_getElem?_getD, List.getElem?_append_right (by rw [List.length_drop]; omega), List.length_drop, show j - (xs.length - 1) = 0 from by omega]
  rfl
theorem zw_get {ps : List Int} {xs : List Rat} {t : Rat} (hl : ps.length = xs.length) {j : Nat} (h : j < ps.length) : (List.zipWith (fun (x : Rat) (p : Int) => x + t * (p : Rat)) xs ps).getD j 0 = xs.getD j 0 + t * ((ps.getD j 0 : Int) : Rat) := by
  rw [getD_lt (by rw [List.length_zipWith]; omega), List.getElem_zipWith, getD_lt (show j < xs.length by omega), getD_lt h]
theorem sh_turn {L : Int} {ps : List Int} {xs : List Rat} {t : Rat} (hl : ps.length = xs.length) (h1 : 1 ≤ ps.length) (hp : ∀ p ∈ ps, 1 ≤ p) (z : xs.getD 0 0 = 0) (ht : xs.getD (ps.length - 1) 0 + t * ((ps.getD (ps.length - 1) 0 : Int) : Rat) = (L : Rat)) :
    shL L ps (0 :: (List.zipWith (fun (x : Rat) (p : Int) => x + t * (p : Rat)) xs ps).dropLast) = bo ps (shL L ps xs) := by
  have ly : (List.zipWith (fun (x : Rat) (p : Int) => x + t * (p : Rat)) xs ps).length = ps.length := by rw [List.length_zipWith]; omega
  have gy := fun j (h : j < ps.length) => zw_get (t := t) hl h
  generalize List.zipWith (fun (x : Rat) (p : Int) => x + t * (p : Rat)) xs ps = ys at ly gy
  have ld : ys.dropLast.length = ps.length - 1 := by rw [List.length_dropLast, ly]
  have gd : ∀ j, j + 1 < ps.length → (0 :: ys.dropLast).getD (j + 1) 0 = xs.getD j 0 + t * ((ps.getD j 0 : Int) : Rat) := fun j hj => by
    rw [List.getD_cons_succ, ← gy j (by omega), getD_lt (by omega), getD_lt (by omega), List.getElem_dropLast]
  have lz : (0 :: ys.dropLast).length = ps.length := by rw [List.length_cons, ld]; omega
  generalize hzs : (0 :: ys.dropLast : List Rat) = zs at gd lz
  have z0 : zs.getD 0 0 = 0 := by rw [← hzs]; rfl
  have pc : ∀ j, j < ps.length → ((ps.getD j 0 : Int) : Rat) ≠ 0 := fun j hj => cn (by have := hp _ (getD_mem (l := ps) (i := j) (d := 0) hj); omega)
  have et : shr L ps xs (ps.length - 1) = t := by
    rw [shr_last (by omega), ← ht]
    have := pc (ps.length - 1) (by omega)
    grind
  have en : ∀ j, j < ps.length → shr L ps zs j = (xs.getD j 0 + t * ((ps.getD j 0 : Int) : Rat) - zs.getD j 0) / ((ps.getD j 0 : Int) : Rat) := fun j hj => by
    rcases Nat.lt_or_ge (j + 1) ps.length with c | c
    · rw [shr_in (by omega), gd j c]
    · have : j = ps.length - 1 := by omega
      subst this
      rw [shr_last (by omega), ht]
  refine List.ext_getElem (by rw [shL_len, bo_len]) fun j h1' h2' => ?_
  rw [shL_len] at h1'
  rw [← getD_lt (d := (0 : Rat)) (by rw [shL_len]; exact h1'), ← getD_lt (d := (0 : Rat)) (by rw [bo_len]; exact h1'), shL_get h1', bo_get h1', en j h1']
  unfold boR
  rw [shL_get (show ps.length - 1 < ps.length by omega), et]
  have pj := pc j h1'
  split
  · rename_i e
    subst e
    rw [z, z0]
    grind
  · rename_i e
    obtain ⟨i, rfl⟩ : ∃ i, j = i + 1 := ⟨j - 1, by omega⟩
    have pi := pc i (by omega)
    rw [gd i h1', Nat.add_sub_cancel, shL_get (show i < ps.length by omega), shr_in (show i + 1 < xs.length by omega)]
    unfold prt
    rw [Nat.add_sub_cancel]
    generalize ((ps.getD (i + 1) 0 : Int) : Rat) = a at *
    generalize ((ps.getD i 0 : Int) : Rat) = b at *
    generalize xs.getD (i + 1) 0 = u at *
    generalize xs.getD i 0 = v at *
    grind
section
variable {ns : List Str} {ps : List Int} {L : Int} {W : List Am} {D : Int} {s : Ch}
theorem tn_sh {s1 s' : Ch} {rows : List Rw} {xs : List Rat} {t : Rat} (hf : s1.fire = L) (hsd : Side s1) (hr : s1.row.length = ps.length) (h1 : 1 ≤ ps.length) (hp : ∀ p ∈ ps, 1 ≤ p) (hl : ps.length = xs.length) (z : xs.getD 0 0 = 0) (hsp : s1.spots = List.zipWith (fun (x : Rat) (p : Int) => x + t * (p : Rat)) xs ps) (tn : Tn s1 s' rows) :
    (s'.row = s1.row ∧ s'.fire = s1.fire ∧ Side s') ∧ ((rows = [] ∧ s' = s1) ∨ (s'.spots.getD 0 0 = 0 ∧ shL L ps s'.spots = rnd ps (shL L ps xs) rows.length)) := by
  induction tn with
  | refl => exact ⟨⟨rfl, rfl, hsd⟩, .inl ⟨rfl, rfl⟩⟩
  | step tn hne he ih =>
    rename_i s2 rows2
    obtain ⟨⟨r1, r6, i4⟩, io⟩ := ih
    obtain ⟨e1, e2, e3, e4, e5, e6, e7⟩ := turnS_row s2
    obtain ⟨f1, f2, f3, f4⟩ := turnS_pour s2
    have hls : s2.spots.length = ps.length := by rw [i4.ls, r1, hr]
    have hsn : s2.spots ≠ [] := fun z => by rw [z] at hls; simp at hls; omega
    rw [dl_cons hsn] at f3
    rw [r1, hr, r6, hf] at he
    refine ⟨⟨by rw [e1, r1], by rw [e6, r6], turnS_side i4⟩, .inr ⟨by rw [f3]; rfl, ?_⟩⟩
    rw [List.length_append, f3]
    show _ = bo ps (rnd ps (shL L ps xs) rows2.length)
    rcases io with ⟨rfl, rfl⟩ | ⟨z2, es⟩
    · rw [hsp] at he ⊢
      rw [zw_get hl (by omega)] at he
      exact sh_turn hl h1 hp z he
    · rw [← es]
      have ez : List.zipWith (fun (x : Rat) (p : Int) => x + (0 : Rat) * (p : Rat)) s2.spots ps = s2.spots := by
        refine List.ext_getElem (by rw [List.length_zipWith]; omega) fun i _ _ => ?_
        rw [List.getElem_zipWith, Rat.zero_mul, Rat.add_zero]
      have := sh_turn (L := L) (t := 0) (xs := s2.spots) (ps := ps) hls.symm h1 hp z2 (by rw [Rat.zero_mul, Rat.add_zero]; exact he)
      rw [ez] at this
      exact this
theorem Ri.sh (h : Ri ns ps L W D s) (hs : Hr ns ps L) (hD : 0 < D) (z : s.spots.getD 0 0 = 0) {s' : Ch} {rows : List Rw} (it : ItR s (meetS s) s' rows) : s'.spots.getD 0 0 = 0 ∧ shL L ps s'.spots = rnd ps (shL L ps s.spots) rows.length := by
  have hlp := hs.lp
  have hls := h.ls
  have mf := h.meet_fr hs hD
  have k := hs.pp _ (getD_mem (l := ps) (i := ns.length - 1) (d := 0) (by have := hs.n1; omega))
  have st := (h.scale hD k.1).step hs (Int.mul_pos hD (by omega)) mf.1 (Rat.le_of_lt mf.2) Rat.le_refl it
  have r1 := st.2.2.1 rfl
  have hw : (walkS s (meetS s)).spots = List.zipWith (fun (x : Rat) (p : Int) => x + meetS s * (p : Rat)) s.spots ps := by
    show walkM (My.pcs s) s.spots (meetS s) = _
    rw [h.pc, walk_rise (by omega) hs.rs]
  have a := tn_sh (s1 := walkS s (meetS s)) (L := L) (ps := ps) (xs := s.spots) (t := meetS s) (by show s.fire = L; exact h.fire) ⟨h.sd.ll, by rw [hw, List.length_zipWith]; show _ = s.row.length; rw [h.row]; omega, h.sd.n8, h.sd.ld⟩ (by show s.row.length = _; rw [h.row]; omega) (by have := hs.n1; omega) (fun p hp => (hs.pp p hp).1) (by omega) z hw it.1
  rcases a.2 with ⟨e, _⟩ | b
  · rw [e] at r1
    exact absurd r1 (by decide)
  · exact b
end
theorem outs_sh {K : PySem.W.Frag} {T : Tb} {CC : Addr} {H : Hp} {c : Addr} {A : Ad} {Q : VK} {ns : List Str} {ps : List Int} {L : Int} {W : List Am} {D : Int} {s0 : Ch} {e : Nat} (h : Ri ns ps L W D s0) (hs : Hr ns ps L) (z : s0.spots.getD 0 0 = 0) (hD : 0 < D ∧ D.natAbs < 2 ^ (8 * s0.poured.length + e)) (he : e ≤ 200) (hpo : s0.poured.length ≤ 200) {cnt : Int} (c1 : 1 ≤ cnt) (c60 : cnt ≤ 60)
    (kT : ∀ D' s H' A' q us (rows : List Rw), Ri ns ps L W D' s → s.spots.getD 0 0 = 0 → shL L ps s.spots = rnd ps (shL L ps s0.spots) rows.length → (0 < D' ∧ D'.natAbs < 2 ^ (8 * s.poured.length + e)) → s.poured.length = s0.poured.length + rows.length → cnt ≤ rows.length → (rows.length : Int) < cnt + 8 → Sx T (ownC c A) H H' → ChAt K CC H' c A' s → (∀ x ∈ ownC c A', x ∈ ownC c A ∨ H x = none) → q ∉ ownC c A' → H q = none → H' q = some (.lst us) → DpAll K H' us (rows.map rowD) → Q (.ref q) H') :
  OutP K T CC H c A s0 cnt Q := by
  unfold OutP
  refine ⟨fun s rows n => ∃ D', Ri ns ps L W D' s ∧ s.spots.getD 0 0 = 0 ∧ shL L ps s.spots = rnd ps (shL L ps s0.spots) rows.length ∧ (0 < D' ∧ D'.natAbs < 2 ^ (8 * s.poured.length + e)) ∧ s.poured.length = s0.poured.length + rows.length ∧ (rows.length : Int) < cnt + 8 ∧ n = 68 - rows.length, _, ⟨D, h, z, rfl, hD, rfl, by show (0 : Int) < _; omega, rfl⟩, ?_, ?_, ?_, ?_⟩
  · rintro s rows n ⟨D', ri, z, es, bd, epl, r60, rfl⟩
    exact ⟨by omega, by omega⟩
  · rintro s rows n ⟨D', ri, z, es, bd, epl, r60, rfl⟩ _ _
    exact ⟨D', ri.rdy hs ⟨bd.1, pw_le bd.2 (by omega)⟩ (by omega) ⟨Fr.zero (by omega), Rat.le_refl, by decide⟩⟩
  · rintro s rows n ⟨D', ri, z, es, bd, epl, r60, rfl⟩ _ hlt s' rows' it
    have r8 := it.2.1
    have sh := ri.sh hs bd.1 z it
    have mf := ri.meet_fr hs bd.1
    have k := hs.pp _ (getD_mem (l := ps) (i := ns.length - 1) (d := 0) (by have := hs.lp; have := hs.n1; omega))
    generalize ps.getD (ns.length - 1) 0 = kk at mf k
    have ri2 := ri.scale bd.1 k.1
    have pos2 : 0 < D' * kk := Int.mul_pos bd.1 (by omega)
    obtain ⟨r3, e3, e4, e5⟩ := ri2.step hs pos2 mf.1 (Rat.le_of_lt mf.2) Rat.le_refl it
    have r1 := e4 rfl
    refine ⟨_, ?_, D' * kk, r3, sh.1, by rw [sh.2, es, List.length_append, rnd_add], ⟨pos2, pw_le (pw_mul bd.2 k.1 k.2) (by omega)⟩, by rw [List.length_append]; omega, by rw [List.length_append]; omega, rfl⟩
    rw [List.length_append]
    omega
  · rintro s rows n ⟨D', ri, z, es, bd, epl, r60, rfl⟩ hz H' A' q us x h' fr nq np ep du
    have hz := hz.resolve_left (ri.ne hs)
    exact kT D' s H' A' q us rows ri z es bd epl (by omega) r60 x h' fr nq np ep du

theorem way_b {qs : List Am} (h : wayB qs = true) : 1 ≤ qs.length ∧ qs.length ≤ 6 ∧ ∀ q ∈ qs, 1 ≤ q.1 ∧ q.1 ≤ 9 ∧ 1 ≤ q.2 ∧ q.2 ≤ 9 := by
  unfold wayB at h
  simp only [Bool.and_eq_true, decide_eq_true_eq, List.all_eq_true] at h
  refine ⟨h.1.1, h.1.2, fun q hq => ?_⟩
  have := h.2 q hq
  unfold wOk at this
  simp only [Bool.and_eq_true, decide_eq_true_eq] at this
  omega
theorem way_ok {qs : List Am} (h : wayB qs = true) : ∀ q ∈ qs, wOk q = true := by
  unfold wayB at h
  simp only [Bool.and_eq_true, List.all_eq_true] at h
  exact h.2
theorem lab_pos {qs : List Am} (h : 1 ≤ qs.length ∧ qs.length ≤ 6 ∧ ∀ q ∈ qs, 1 ≤ q.1 ∧ q.1 ≤ 9 ∧ 1 ≤ q.2 ∧ q.2 ≤ 9) : 1 ≤ labourM qs := by
  cases qs with
  | nil => exact absurd h.1 (by decide)
  | cons q qs =>
    have a := mem_le_sum (ps := (q :: qs).map fun (q : Int × Int) => q.1 * q.2) fun z hz => by
      obtain ⟨e, he, rfl⟩ := List.mem_map.mp hz
      have k := h.2.2 e he
      exact Int.mul_pos (by omega) (by omega)
    have b := a.2 (q.1 * q.2) (List.mem_map.mpr ⟨q, List.mem_cons_self, rfl⟩)
    have k := h.2.2 q List.mem_cons_self
    have c : 0 < q.1 * q.2 := Int.mul_pos (by omega) (by omega)
    unfold labourM
    omega
theorem take_succ_r {xs : List Rat} {j : Nat} (h : j < xs.length) : xs.take (j + 1) = xs.take j ++ [xs.getD j 0] := by
  rw [List.take_add_one, List.getElem?_eq_getElem h, getD_lt h]
  rfl
theorem sum_zero : ∀ {xs : List Rat}, (∀ x ∈ xs, 0 ≤ x) → xs.sum = 0 → ∀ x ∈ xs, x = 0
  | [], _, _, x, hx => (nomatch hx)
  | y :: ys, h, hs, x, hx => by
    rw [List.sum_cons] at hs
    have h1 := h y List.mem_cons_self
    have h2 : 0 ≤ ys.sum := by
      clear hs hx
      induction ys with
      | nil => decide
      | cons z zs ih =>
        rw [List.sum_cons]
        have := ih (fun x hx => h x ((List.mem_cons.mp hx).elim (fun e => by rw [e]; exact List.mem_cons_self) fun e => List.mem_cons_of_mem _ (List.mem_cons_of_mem _ e)))
        have := h z (List.mem_cons_of_mem _ List.mem_cons_self)
        grind
    have ih := sum_zero (xs := ys) (fun x hx => h x (List.mem_cons_of_mem _ hx)) (by grind)
    rcases List.mem_cons.mp hx with e | e
    · rw [e]; grind
    · exact ih x e
theorem En.zero {ns : List Str} {ps : List Int} {L : Int} {W : List Am} {s : Ch} (h : En ns ps L W s) : ∀ x ∈ s.spots, x = 0 := by
  refine sum_zero (fun x hx => (h.ri.sp x hx).1) ?_
  have := h.ri.sum
  rw [h.now, h.pl] at this
  have e : (((0 : Nat) : Int) : Rat) = 0 := rfl
  rw [e] at this
  grind
theorem sh_zero {L : Int} {ps : List Int} {xs : List Rat} (hl : ps.length = xs.length) (h1 : 1 ≤ ps.length) (h : ∀ x ∈ xs, x = 0) : shL L ps xs = List.replicate (ps.length - 1) 0 ++ [(L : Rat) / ((ps.getD (ps.length - 1) 0 : Int) : Rat)] := by
  have g : ∀ j, j < ps.length → xs.getD j 0 = 0 := fun j hj => h _ (getD_mem (by omega))
  refine List.ext_getElem (by rw [shL_len, List.length_append, List.length_replicate]; show _ = _ + 1; omega) fun j h1' h2' => ?_
  rw [shL_len] at h1'
  rw [← getD_lt (d := (0 : Rat)) (by rw [shL_len]; exact h1'), shL_get h1']
  rcases Nat.lt_or_ge (j + 1) ps.length with c | c
  · rw [shr_in (by omega), g j h1', g (j + 1) c, List.getElem_append_left (by rw [List.length_replicate]; omega), List.getElem_replicate]
    grind
  · have : j = ps.length - 1 := by omega
    subst this
    rw [shr_last (by omega), g _ h1', List.getElem_append_right (by rw [List.length_replicate]; omega)]
    simp only [List.length_replicate, Nat.sub_self, List.getElem_cons_zero]
    grind
theorem dep_ams : ∀ l : List Am, PyData.depthAll (l.map amD) ≤ 2
  | [] => by simp [PyData.depthAll]
  | x :: l => by
    have := dep_ams l
    simp only [List.map_cons, PyData.depthAll, PyData.depth, amD]
    omega
theorem lay_ams : ∀ l : List Am, PyData.canLayAll0 (l.map amD) = true
  | [] => by simp [PyData.canLayAll0]
  | x :: l => by
    have := lay_ams l
    simp [PyData.canLayAll0, PyData.canLay0, amD, this]
theorem shaped_ams (l : List Am) : SeqAt.shaped (.list (l.map amD)) = true := by
  have a := dep_ams l
  have b := lay_ams l
  unfold SeqAt.shaped
  rw [show PyData.canLay0 (.list (l.map amD)) = true by simp only [PyData.canLay0]; exact b, Bool.true_and]
  exact decide_eq_true (by simp only [PyData.depth]; omega)
theorem eqv_ams : ∀ l : List Am, PyData.eqvAll (l.map amD) (l.map amD) = true
  | [] => by simp [PyData.eqvAll]
  | x :: l => by simp [PyData.eqvAll, PyData.eqv, amD, eqv_ams l]
theorem ne_ams {l k : List Am} (h : l = k) : (!PyData.eqv (.list (l.map amD)) (.list (k.map amD))) = false := by
  subst h
  simp [PyData.eqv, eqv_ams l]
theorem amL_rep {K : PySem.W.Frag} {H : Hp} {t : Addr} {r : Rat} (h : SqT K H t (tv (am r))) : ∀ n, AmL K H (List.replicate n (V.ref t)) (List.replicate n r)
  | 0 => .nil
  | n + 1 => .cons (amD_dp h) (amL_rep h n)
theorem bh_none {ns : List Int} (w : Ris ns) {k : Nat} (hk : k = ns.length) {r : Int} (h0 : 0 ≤ r) (h1 : r ≤ 24) : bhW ns k r = none := by
  unfold bhW
  rw [pW_ris.mpr w]
  refine if_pos ⟨hk, ?_⟩
  unfold rdB
  rw [decide_eq_true h0, decide_eq_true h1]
  rfl
theorem pw_27 {D : Int} {a : Nat} (h : D.natAbs < 2 ^ a) (ha : a ≤ 980) : (D * 27720).natAbs < 2 ^ 1000 := by
  have e : (D * 27720).natAbs < 2 ^ (a + 15) := by
    rw [Int.natAbs_mul, Nat.pow_add]
    exact Nat.mul_lt_mul'' h (by decide)
  exact Nat.lt_of_lt_of_le e (Nat.pow_le_pow_right (by decide) (by omega))
theorem sh_bd {ns : List Str} {ps : List Int} {L : Int} {W : List Am} {D : Int} {s : Ch} (h : Ri ns ps L W D s) (hs : Hr ns ps L) (hD : 0 < D) : ∀ x ∈ shL L ps s.spots, Fr (D * 27720) x ∧ 0 ≤ x ∧ x ≤ 50000 := fun x hx => by
  have hlp := hs.lp
  have hls := h.ls
  have hL : (L : Rat) ≤ 50000 := Rat.intCast_le_intCast (b := 50000) |>.mpr (by have := hs.l5; omega)
  obtain ⟨j, hj, e⟩ := List.mem_map.mp hx
  rw [List.mem_range] at hj
  have pj := hs.pp _ (getD_mem (l := ps) (i := j) (d := 0) hj)
  have a := h.sp _ (getD_mem (l := s.spots) (i := j) (d := (0 : Rat)) (by omega))
  have key : ∀ y : Rat, Fr D y → s.spots.getD j 0 ≤ y → y ≤ (L : Rat) → Fr (D * 27720) ((y - s.spots.getD j 0) / ((ps.getD j 0 : Int) : Rat)) ∧ 0 ≤ (y - s.spots.getD j 0) / ((ps.getD j 0 : Int) : Rat) ∧ (y - s.spots.getD j 0) / ((ps.getD j 0 : Int) : Rat) ≤ 50000 := fun y fy y1 y2 => by
    have n0 : 0 ≤ y - s.spots.getD j 0 := by grind
    refine ⟨Fr.div12 (by omega) (fy.sub a.2.2) pj.1 pj.2, div_nn (by omega) n0, ?_⟩
    have e1 : (y - s.spots.getD j 0) / ((ps.getD j 0 : Int) : Rat) * ((ps.getD j 0 : Int) : Rat) = y - s.spots.getD j 0 := by have := cn (show ps.getD j 0 ≠ 0 by omega); grind
    have e2 : (1 : Rat) ≤ ((ps.getD j 0 : Int) : Rat) := Rat.intCast_le_intCast.mpr pj.1
    have e3 := Rat.mul_le_mul_of_nonneg_left e2 (div_nn (show (0 : Int) < ps.getD j 0 by omega) n0)
    rw [Rat.mul_one, e1] at e3
    grind
  rw [← e]
  rcases Nat.lt_or_ge (j + 1) ps.length with c | c
  · rw [shr_in (by omega)]
    have b := h.sp _ (getD_mem (l := s.spots) (i := j + 1) (d := (0 : Rat)) (by omega))
    refine key _ b.2.2 ?_ (Rat.le_of_lt b.2.1)
    rw [getD_lt (show j < s.spots.length by omega), getD_lt (show j + 1 < s.spots.length by omega)]
    exact List.pairwise_iff_getElem.mp h.srt j (j + 1) (by omega) (by omega) (by omega)
  · rw [shr_last (by omega)]
    exact key _ (Fr.int (by omega) L) (Rat.le_of_lt a.2.1) Rat.le_refl
theorem lc_places {K : PySem.W.Frag} {T : Tb} {CP CC : Addr} {H0 H : Hp} {c D : Addr} {ls : List (Addr × List V)} {us2 : List V} {ds : List PyData} {A : Ad} {s : Ch} {z1 : Int} {m : Nat} {ps : List Int} {L : Int} {W : List Am} {Dn : Int} {Q : VK} {x0 x1 x2 x3 x4 x5 x6 x9 x10 x11 x12 x13 : Option V} (hm : m ≤ 8) (ri : Ri (nmU z1 m) ps L W Dn s) (l : LS K T CC H0 c ls us2 ds H A s) (gD : H D = some (.lst ((nmU z1 m).map V.str)))
    (k : ∀ D2 H6 us, Sm T H H6 → H D2 = none → H6 D2 = some (.lst us) → AmL K H6 us s.spots → Q (.ref D2) H6) :
    tLc (iList K (tVar 7)) (gName 14) tYes (tMeth CC "place" (sp_p_Chain_place K T CP CC) [] E0 (tVar 8) (tCons (tVar 14) tNil)) [14] [x0, x1, x2, x3, x4, x5, x6, some (.ref D), some (.ref c), x9, x10, x11, x12, x13, none] H Q := by
  refine ⟨_, rfl, D, rfl, ⟨_, SqL.of gD⟩, fun D2 hD2 => lc_list (K := K) (a := D) (xs := (nmU z1 m).map V.str) (Qd := _) (fun j H' => Sm T H H' ∧ ∃ us, H' D2 = some (.lst us) ∧ AmL K H' us (s.spots.take j)) ⟨same_upd hD2, [], upd_same, .nil⟩ (fun j H' _ ⟨sm, _⟩ => SqL.of (sm.k gD)) ?_ ?_⟩
  · rintro j v H' hjv ⟨sm, us, eD, hu⟩
    have hj : j < m := by
      have := (List.getElem?_eq_some_iff.mp hjv).1
      rw [List.length_map, nmU_len] at this
      exact this
    rw [List.getElem?_map, List.getElem?_eq_getElem (by rw [nmU_len]; exact hj), nmU_get hj] at hjv
    cases hjv
    have ls6 := l.go sm
    have hls := ri.ls
    rw [nmU_len] at hls
    refine ⟨rfl, tyes_i ?_⟩
    have ein : nameF j z1 ∈ s.row := by rw [ri.row, ← nmU_get hj]; exact List.getElem_mem _
    have eix : s.row.idxOf (nameF j z1) = j := by
      rw [ri.row, ← nmU_get hj]
      exact (nmU_nd (by omega)).idxOf_getElem j (by rw [nmU_len]; exact hj)
    refine ⟨_, rfl, c, _, _, rfl, ls6.ch.ins, fl_no (by decide +kernel), _, rfl, c, A, s, nameF j z1, rfl, ls6.ch, ri.sd.ls, fun _ q7 hq7 => ?_, fun z => absurd ein z⟩
    rw [eix] at hq7
    have lu := hu.len
    rw [List.length_take] at lu
    refine ⟨us, eD, szl (by omega), same_mut sm hD2 eD, us ++ [.ref q7], upd_same, ?_⟩
    rw [take_succ_r (by omega)]
    exact hu.push eD hq7
  · rintro H6 ⟨s6, us, eD, hu⟩
    rw [List.length_map, nmU_len, List.take_of_length_le (by have := ri.ls; rw [nmU_len] at this; omega)] at hu
    exact k D2 H6 us s6 hD2 eD hu
theorem LS.add {K : PySem.W.Frag} {T : Tb} {CC : Addr} {H : Hp} {c : Addr} {ls : List (Addr × List V)} {us : List V} {ds : List PyData} {H' : Hp} {A : Ad} {s : Ch} (h : LS K T CC H c ls us ds H' A s) {p : Addr} {v : List V} (e : H' p = some (.lst v)) (n : p ∉ ownC c A) : LS K T CC H c ((p, v) :: ls) us ds H' A s :=
  ⟨h.sm, h.ch, h.own, fun x hx => (List.mem_cons.mp hx).elim (fun z => by rw [z]; exact e) (h.keep x), fun x hx => (List.mem_cons.mp hx).elim (fun z => by rw [z]; exact n) (h.out x), h.dp, h.nl⟩
theorem LS.tail {K : PySem.W.Frag} {T : Tb} {CC : Addr} {H : Hp} {c : Addr} {x : Addr × List V} {ls : List (Addr × List V)} {us : List V} {ds : List PyData} {H' : Hp} {A : Ad} {s : Ch} (h : LS K T CC H c (x :: ls) us ds H' A s) : LS K T CC H c ls us ds H' A s :=
  ⟨h.sm, h.ch, h.own, fun y hy => h.keep y (List.mem_cons_of_mem _ hy), fun y hy => h.out y (List.mem_cons_of_mem _ hy), h.dp, h.nl⟩
def sp_LAW (K : PySem.W.Frag) (T : Tb) (CP CC : Addr) : Sp := fun vs H Q _ => ∃ (a : Addr) (ns : List Int), vs = [.ref a] ∧ SqL K H a (ns.map V.int) ∧ ns.length ≤ 63 ∧ (∀ z ∈ ns, Builtin.Int.intBits z ≤ 1048576) ∧ Ok T H ∧ ∀ H', Q (.bl true) H'
theorem ok_LAW {f : Addr} {fd : FuncData} (F : Fun K "law" "law" s_LAW f fd) (B : Bn mg) {CP : Addr} {CC : Addr} (TC : Kl K CC) (F_l_cell : Fn P w K mg base 1 "_law_cell" ["_law_script", "_law_k"] (sp_l_cell K T)) (F_l_draws : Fn P w K mg base 1 "_law_draws" ["_law_cell_here", "_law_parts"] (sp_l_draws K T)) (F_l_many : Fn P w K mg base 1 "_law_many" ["_law_script", "_law_few"] (sp_l_many K T)) (M_enter : Mx P w K mg base CC 5 "enter" ["self", "name", "pace"] (sp_p_Chain_enter K T CP CC)) (M_emptied : Mt P w K mg base CC 1 "emptied" ["self"] (sp_p_Chain_emptied K T CC)) (M_place : Mx P w K mg base CC 5 "place" ["self", "name"] (sp_p_Chain_place K T CP CC)) (M_init : Mnx P w K mg base CC 6 "Chain" ["self", "way"] (sp_p_Chain___init__ K T CP CC)) (M_outs : Mx P w K mg base CC 7 "outs" ["self", "count"] (sp_p_Chain_outs K T CP CC)) (F_l_split : Fn P w K mg base 1 "_law_split" ["_law_cell_here", "_law_many_here"] (sp_l_split K T)) (F_l_amt : Fn P w K mg base 2 "_law_amt" ["_law_num", "_law_den"] (sp_l_amt K T)) (F_l_same : Fn P w K mg base 6 "_law_same" ["_law_found", "_law_due"] (sp_l_same K T)) (F_l_way : Fn P w K mg base 2 "_law_way" ["_law_cell_here"] (sp_l_way K T)) (F_l_labour : Fn P w K mg base 1 "_law_labour" ["_law_way_here"] (sp_l_labour K T)) (F_l_name : Fn P w K mg base 2 "_law_name" ["_law_k", "_law_salt"] (sp_l_name K T)) (F_l_rising_of : Fn P w K mg base 2 "_law_rising_of" ["_law_cell_here"] (sp_l_rising_of K T)) (F_p_behind : Fx P w K mg base 7 "behind" ["paces", "found", "rounds"] (sp_p_behind K T CP)) (F_p_shares : Fx P w K mg base 7 "shares" ["way", "paces", "places"] (sp_p_shares K T CP)) : FnOk P w K mg base (L2.CX P w) 14 f fd ["_law_script"] (sp_LAW K T CP CC) := by
  refine F.okX sc_LAW (fun vs H Q E h => ?_) (fun cdv A outer s H vs Q E hr h => ?_)
  · obtain ⟨a, ns, rfl, _⟩ := h
    rfl
  · obtain ⟨a, script, rfl, hS, hlen, hbits, hok, q⟩ := h
    refine ⟨_, (pss_cons (ps_asg (pe_fn F_l_split (hr.mono (by decide)) (pa_cons (pe_fn F_l_cell (hr.mono (by decide)) (pa_cons (pv 0) (pa_cons pe_int pa_nil))) (pa_cons pe_int pa_nil))) (pg_unl rfl (pgs_cons (pg_name (i := 1) sc_LAW.nd rfl (.inr rfl)) (pgs_cons (pg_name (i := 2) sc_LAW.nd rfl (.inl rfl)) pgs_nil))))
      (pss_cons (ps_set (i := 3) sc_LAW.nd rfl (.inl rfl) (pe_fn F_l_way (hr.mono (by decide)) (pa_cons (pv 1) pa_nil)))
      (pss_cons (ps_set (i := 4) sc_LAW.nd rfl (.inl rfl) (pe_slice sl_list (pe_fn F_l_rising_of (hr.mono (by decide)) (pa_cons (pv 2) pa_nil)) po_none (po_some pe_int)))
      (pss_cons (ps_set (i := 5) sc_LAW.nd rfl (.inl rfl) (pe_callB call_len_seq (by rfl) B.len_ (by decide +kernel) (pa_cons (pv 4) pa_nil)))
      (pss_cons (ps_setLc (i := 7) (own := [("_law_k", 6)]) (g := (gName 6)) (tt := tYes) (by rfl) sc_LAW.nd rfl rfl (sw_true rfl rfl rfl (by decide +kernel)) (pi_range1 (by rfl) B.range_ (pa_cons (pv 5) pa_nil)) (blkOk_by (own := [("_law_k", 6)]) (N := ["_law_script", "_law_first", "_law_second", "_law_way_here", "_law_paces", "_law_many_here", "_law_k", "_law_names", "_law_line", "_law_begun", "_law_last", "_law_count", "_law_found", "_law_total", "_law_name_here"]) (sc := (defScope s_LAW)) (by decide +kernel)) (fun _ _ _ _ _ => (pg_name (i := 6) sc_LAW.nd rfl (.inl rfl))) (fun _ _ _ _ _ => pts_nil) (fun _ _ _ _ _ => (pe_fn F_l_name (hr.mono (by decide)) (pa_cons (pv 6) (pa_cons (pv 1) pa_nil)))))
      (pss_cons (ps_set (i := 8) sc_LAW.nd rfl (.inr rfl) (pe_mnx M_init (hr.mono (by decide)) (takes_of rfl rfl rfl rfl) (pa_cons (pv 3) pa_nil)))
      (pss_cons (ps_for (passes_of rfl) rfl (pi_range3 (by rfl) B.range_ (pa_cons (pe_op op_sub (pv 5) pe_int) (pa_cons (pe_un un_neg pe_int) (pa_cons (pe_un un_neg pe_int) pa_nil)))) (pg_name (i := 6) sc_LAW.nd rfl (.inl rfl))
      (pss_one (ps_expr (pe_mx M_enter TC.cl (hr.mono (by decide)) (takes_of rfl rfl rfl rfl) (pv 8) (pa_cons (pe_ix ix_list (pv 7) (pv 6) (fun _ _ => rfl)) (pa_cons (pe_ix ix_list (pv 4) (pv 6) (fun _ _ => rfl)) pa_nil))))))
      (pss_cons (ps_set (i := 9) sc_LAW.nd rfl (.inl rfl) (pe_fx F_p_shares (hr.mono (by decide)) (takes_of rfl rfl rfl rfl) (pa_cons (pv 3) (pa_cons (pv 4) (pa_cons (pe_lc (own := [("_law_name_here", 14)]) (g := (gName 14)) (tt := tYes) (by rfl) sc_LAW.nd (pi_list (pv 7)) (blkOk_by (own := [("_law_name_here", 14)]) (N := ["_law_script", "_law_first", "_law_second", "_law_way_here", "_law_paces", "_law_many_here", "_law_k", "_law_names", "_law_line", "_law_begun", "_law_last", "_law_count", "_law_found", "_law_total", "_law_name_here"]) (sc := (defScope s_LAW)) (by decide +kernel)) (fun _ _ _ _ _ => (pg_name (i := 14) sc_LAW.nd rfl (.inl rfl))) (fun _ _ _ _ _ => pts_nil) (fun _ _ _ _ _ => (pe_mx_ M_place TC.cl (hr.mono (by decide)) (pv 8) (pa_cons (pv 14) pa_nil)))) pa_nil)))))
      (pss_cons (ps_if (pt_cmpR (op_neD hr.units) (pv 9) (pe_op op_cat (pe_op op_rep (pe_lst (pa_cons (pe_tup (pa_cons pe_int (pa_cons pe_int pa_nil))) pa_nil)) (pe_op op_sub (pv 5) pe_int)) (pe_lst (pa_cons (pe_fn F_l_amt (hr.mono (by decide)) (pa_cons (pe_fn F_l_labour (hr.mono (by decide)) (pa_cons (pv 3) pa_nil)) (pa_cons (pe_ix ix_list (pv 4) (pe_un un_neg pe_int) (fun _ _ => rfl)) pa_nil))) pa_nil))) (nomark _)) (pss_one (ps_ret pe_bl)) pss_nil)
      (pss_cons (ps_set (i := 10) sc_LAW.nd rfl (.inl rfl) (pe_callTy call_list_of (by rfl) B.list_ (by decide +kernel) (pa_cons (pv 9) pa_nil)))
      (pss_cons (ps_for (passes_of rfl) rfl (pi_range2 (by rfl) B.range_ (pa_cons pe_int (pa_cons (pe_callB (call_min2 rfl) (by rfl) B.min_ (by decide +kernel) (pa_cons pe_int (pa_cons (pe_fn F_l_many (hr.mono (by decide)) (pa_cons (pv 0) (pa_cons pe_int pa_nil))) pa_nil))) pa_nil))) (pg_name (i := 6) sc_LAW.nd rfl (.inl rfl))
      (pss_cons (ps_set (i := 11) sc_LAW.nd rfl (.inl rfl) (pe_callB call_len_seq (by rfl) B.len_ (by decide +kernel) (pa_cons (pe_mx M_outs TC.cl (hr.mono (by decide)) (takes_of rfl rfl rfl rfl) (pv 8) (pa_cons (pe_op op_add pe_int (pe_ix ix_list (pe_fn F_l_draws (hr.mono (by decide)) (pa_cons (pe_fn F_l_cell (hr.mono (by decide)) (pa_cons (pv 0) (pa_cons (pv 6) pa_nil))) (pa_cons (pe_lst (pa_cons pe_int pa_nil)) pa_nil))) pe_int (fun _ _ => rfl))) pa_nil)) pa_nil)))
      (pss_cons (ps_set (i := 12) sc_LAW.nd rfl (.inl rfl) (pe_fx F_p_shares (hr.mono (by decide)) (takes_of rfl rfl rfl rfl) (pa_cons (pv 3) (pa_cons (pv 4) (pa_cons (pe_lc (own := [("_law_name_here", 14)]) (g := (gName 14)) (tt := tYes) (by rfl) sc_LAW.nd (pi_list (pv 7)) (blkOk_by (own := [("_law_name_here", 14)]) (N := ["_law_script", "_law_first", "_law_second", "_law_way_here", "_law_paces", "_law_many_here", "_law_k", "_law_names", "_law_line", "_law_begun", "_law_last", "_law_count", "_law_found", "_law_total", "_law_name_here"]) (sc := (defScope s_LAW)) (by decide +kernel)) (fun _ _ _ _ _ => (pg_name (i := 14) sc_LAW.nd rfl (.inl rfl))) (fun _ _ _ _ _ => pts_nil) (fun _ _ _ _ _ => (pe_mx_ M_place TC.cl (hr.mono (by decide)) (pv 8) (pa_cons (pv 14) pa_nil)))) pa_nil)))))
      (pss_cons (ps_if (pt_not (pt_val (pe_fn F_l_same (hr.mono (by decide)) (pa_cons (pe_fx F_p_behind (hr.mono (by decide)) (takes_of rfl rfl rfl rfl) (pa_cons (pv 4) (pa_cons (pv 10) (pa_cons (pv 11) pa_nil)))) (pa_cons (pv 12) pa_nil))))) (pss_one (ps_ret pe_bl)) pss_nil)
      (pss_cons (ps_set (i := 13) sc_LAW.nd rfl (.inl rfl) (pe_callB call_len_seq (by rfl) B.len_ (by decide +kernel) (pa_cons (pe_mt0 M_emptied TC.cl (hr.mono (by decide)) (pv 8) ) pa_nil)))
      (pss_cons (ps_if (PW.pt (pw_and (pt_cmpR op_lt (pv 13) pe_int (nomark _)) (pw_and1 (pt_not (pt_val (pe_fn F_l_same (hr.mono (by decide)) (pa_cons (pe_fx F_p_behind (hr.mono (by decide)) (takes_of rfl rfl rfl rfl) (pa_cons (pv 4) (pa_cons (pv 9) (pa_cons (pv 13) pa_nil)))) (pa_cons (pv 12) pa_nil)))))))) (pss_one (ps_ret pe_bl)) pss_nil)
      (pss_one (ps_set (i := 10) sc_LAW.nd rfl (.inl rfl) (pv 12)))))))))
      (pss_one (ps_ret pe_bl))))))))))))), ?_⟩
    refine ⟨_, rfl, a, script, 0, rfl, hS, by decide, fun c0 => ⟨c0, 2, rfl, by decide, fun p1 H1 zs s1 np1 e1 hl1 => ?_⟩⟩
    match zs, hl1 with
    | [z1, z2], _ =>
    refine ⟨p1, _, rfl, SqL.of e1, rfl, _, _, rfl, _, _, rfl, rfl, ?_⟩
    refine ⟨_, rfl, z1, rfl, fun o2 H2 us2 qs s2 no2 e2 du2 hwB => ?_⟩
    refine ⟨_, rfl, z2, rfl, fun p3 H3 ns s3 np3 e3 ris => ?_⟩
    refine ⟨6, rfl, p3, _, rfl, SqL.of e3, fun p7 np7 => ?_⟩
    obtain ⟨ps, eps⟩ : ∃ ps, ps = ns.take 6 := ⟨_, rfl⟩
    have ec : cutV (ns.map V.int) none (some 6) = ps.map V.int := by
      rw [eps, List.map_take]
      exact cut_take _ 6 rfl
    rw [ec]
    have u7 := same_upd (T := T) (o := HO.lst (ps.map V.int)) np7
    obtain ⟨m, em⟩ : ∃ m : Nat, ps.length = m := ⟨_, rfl⟩
    have m1 : 1 ≤ m := by rw [← em, eps, List.length_take]; have := ris.n1; omega
    have m6 : m ≤ 6 := by rw [← em, eps, List.length_take]; omega
    have pp : ∀ n ∈ ps, 1 ≤ n ∧ n ≤ 12 := fun n hn => ris.pace n (by rw [eps] at hn; exact List.mem_of_mem_take hn)
    have hsrt : ps.Pairwise (· ≤ ·) := by rw [eps]; exact ris.rise.sublist (List.take_sublist _ _)
    have s07 := s1.trans (s2.trans (s3.trans u7))
    have e27 : upd H3 p7 (.lst (ps.map V.int)) o2 = some (.lst us2) := (s3.trans u7).k e2
    have e77 : upd H3 p7 (.lst (ps.map V.int)) p7 = some (.lst (ps.map V.int)) := upd_same
    have d37 := dpa_same (s3.trans u7) _ _ du2
    have lw := way_b hwB
    have hL1 := lab_pos lw
    have hL5 := (labour_rng lw).2
    have qw : ∀ x ∈ qs, wOk x = true := way_ok hwB
    obtain ⟨L, eL⟩ : ∃ L, L = labourM qs := ⟨_, rfl⟩
    rw [← eL] at hL1 hL5
    clear np7 u7 e3 s3 np3 ris eps ec s2 no2 e2 du2 e1 np1 s1
    generalize upd H3 p7 (.lst (ps.map V.int)) = H7 at *
    refine ⟨_, rfl, p7, _, rfl, .inl (SqL.of e77), ?_⟩
    rw [List.length_map, em]
    refine ⟨_, rfl, m, rfl, by omega, by omega, fun D hD => lc_range (lo := 0) (n := m) (Qd := _) (fun i H' => Sm T H7 H' ∧ H' D = some (.lst (((nmU z1 m).take i).map V.str))) ⟨same_upd hD, upd_same⟩ ?_ ?_⟩
    · rintro i H' hi ⟨sm, eD⟩
      refine ⟨rfl, tyes_i ?_⟩
      refine ⟨_, rfl, _, rfl, i, z1, congrArg (fun z => [V.int z, V.int z1]) (Int.zero_add _), by omega, fun H2 s2 => ?_⟩
      have eD2 := s2.k eD
      refine ⟨_, eD2, ?_, same_mut (sm.trans s2) hD eD2, ?_⟩
      · rw [List.length_map, List.length_take, nmU_len]
        exact szl (by omega)
      · rw [upd_same, List.take_add_one, List.getElem?_eq_getElem (by rw [nmU_len]; exact hi), nmU_get hi, List.map_append]
        rfl
    · rintro H8 ⟨s8, eD⟩
      rw [List.take_of_length_le (by rw [nmU_len]; omega)] at eD
      have s08 := s07.trans s8
      have e28 := s8.k e27
      have e78 := s8.k e77
      have d8 := dpa_same s8 _ _ d37
      refine ⟨_, rfl, fun c dx nc ndx nex => ?_⟩
      refine ⟨_, c, dx, o2, us2, qs, rfl, rfl, nc, ndx, nex, SqL.of e28, d8, by omega, s08.ok hok, fun _ H9 A3 s9 h9 fr9 => ⟨rfl, ?_⟩, fun z => absurd z (by rw [hwB]; decide)⟩
      have en3 := En.new (labourM qs) qs
      rw [← eL] at en3 h9
      have ls9 : LS K T CC H c [(o2, us2), (p7, ps.map V.int), (D, (nmU z1 m).map V.str)] us2 (qs.map amD) H9 A3 (newS L qs) := by
        have no : ∀ (x : Addr) (o : HO), H8 x = some o → x ∉ ownC c A3 := fun x o e hy => by have := fr9 x hy; rw [e] at this; cases this
        refine ⟨s08.trans s9, h9, fun y hy => s08.free _ (fr9 y hy), fun p hp => ?_, fun p hp => ?_, dpa_same s9 _ _ d8, noL_amD qs⟩
        · simp only [List.mem_cons, List.not_mem_nil, or_false] at hp
          rcases hp with rfl | rfl | rfl
          · exact s9.k e28
          · exact s9.k e78
          · exact s9.k eD
        · simp only [List.mem_cons, List.not_mem_nil, or_false] at hp
          rcases hp with rfl | rfl | rfl
          · exact no _ _ e28
          · exact no _ _ e78
          · exact no _ _ eD
      generalize newS L qs = st3 at en3 ls9
      clear d8 e78 e28 s08 eD s8 d37 e77 e27 s07 h9 s9 fr9 nc ndx nex hD
      refine ⟨_, rfl, _, _, rfl, rfl, 1, rfl, 1, rfl, _, _, _, m, rfl, ?_, for_rangeC (lo := (m : Int) - 1) (c := -1) (n := m) (fun j σ H' => ∃ s' y6, En ((nmU z1 m).drop (m - j)) (ps.drop (m - j)) L qs s' ∧ LS K T CC H c [(o2, us2), (p7, ps.map V.int), (D, (nmU z1 m).map V.str)] us2 (qs.map amD) H' A3 s' ∧ σ = [some (.ref a), some (.int z1), some (.int z2), some (.ref o2), some (.ref p7), some (.int m), y6, some (.ref D), some (.ref c), none, none, none, none, none, none]) ⟨st3, _, ?_, ls9, rfl⟩ ?_ ?_⟩
      · have := RgC.neg (i := (m : Int) - 1) (j := -1) (by omega) (by omega) (by omega) (by omega)
        rw [show ((m : Int) - 1 - -1).toNat = m from by omega] at this
        exact this
      · rw [List.drop_of_length_le (by rw [nmU_len]; omega), List.drop_of_length_le (by omega)]
        exact en3
      · rintro j σ H' hj ⟨s', y7, en, ls, rfl⟩
        have hk : m - 1 - j < m := by omega
        have ek : (m : Int) - 1 + (j : Int) * -1 = ((m - 1 - j : Nat) : Int) := by omega
        have gD := ls.keep (D, (nmU z1 m).map V.str) (by simp)
        have g7 := ls.keep (p7, ps.map V.int) (by simp)
        refine ⟨_, rfl, c, _, _, rfl, ls.ch.ins, fl_no (by decide +kernel), _, rfl, _, rfl, D, _, ((m - 1 - j : Nat) : Int), .str (nameF (m - 1 - j) z1), rfl, congrArg V.int ek, SqL.of gD, atI_nat (by rw [List.getElem?_map, List.getElem?_eq_getElem (by rw [nmU_len]; exact hk), nmU_get hk]; rfl), ?_⟩
        refine ⟨_, rfl, _, rfl, p7, _, ((m - 1 - j : Nat) : Int), .int (ps[m - 1 - j]'(by omega)), rfl, congrArg V.int ek, SqL.of g7, atI_nat (by rw [List.getElem?_map, List.getElem?_eq_getElem (by omega)]; rfl), ?_⟩
        have nok := name_ok (m - 1 - j) z1
        have hpp := pp _ (List.getElem_mem (show m - 1 - j < ps.length by omega))
        have nn := nmU_new (salt := z1) hk (by omega)
        rw [show m - 1 - j + 1 = m - j from by omega] at nn
        have ln : ((nmU z1 m).drop (m - j)).length = j := by rw [List.length_drop, nmU_len]; omega
        have ent := en.enter nn nok.1 (by omega) hpp.1 hpp.2 hL1
        have e1 := en.ri.ml
        have e2 := en.ri.sd.ll
        have e3 := en.ri.sd.ls
        have e4 := en.ri.row
        have e5 := en.tl
        have e6 := en.ri.lgl
        have e7 := en.pl
        have e8 : s'.row.length = j := by rw [e4, ln]
        refine ⟨c, A3, s', nameF (m - 1 - j) z1, ps[m - 1 - j]'(by omega), rfl, ls.ch, sz (by omega), ls.sm.ok hok, ⟨by omega, by omega, by omega, by omega, by omega, by omega⟩, fun _ H3 x3 h3 => ?_, fun wd hw => ?_⟩
        · refine ⟨_, _, ?_, ls.on x3 h3 fun x hx => .inl hx, rfl⟩
          have d1 := nmU_drop (salt := z1) hk
          have d2 := List.drop_eq_getElem_cons (show m - 1 - j < ps.length by omega)
          rw [show m - 1 - j + 1 = m - j from by omega] at d1 d2
          rw [show m - (j + 1) = m - 1 - j from by omega, d1, d2]
          exact ent.2
        · rw [ent.1] at hw
          cases hw
      · rintro σ H9 ⟨s9, y7, en9, ls9, rfl⟩
        rw [Nat.sub_self, List.drop_zero, List.drop_zero] at en9
        have hr : Hr (nmU z1 m) ps L := ⟨by rw [nmU_len]; omega, by rw [nmU_len]; omega, nmU_nd (by omega), by rw [em, nmU_len], pp, hsrt, hL1, hL5⟩
        have z9 : s9.spots.getD 0 0 = 0 := en9.zero _ (getD_mem (by rw [en9.ri.ls, nmU_len]; omega))
        have ris : Ris ps := ⟨by omega, by omega, pp, hsrt⟩
        have shN : ∀ {xs : List Rat}, xs.length = ps.length → xs.getD 0 0 = 0 → shW qs ps xs = none := fun {xs} hl hz => by
          unfold shW
          rw [if_pos hwB, if_pos hl, pW_ris.mpr ris]
          exact if_pos hz
        have l9 : s9.spots.length = ps.length := by rw [en9.ri.ls, nmU_len, em]
        have spb : ∀ {Dn : Int} {s : Ch}, Ri (nmU z1 m) ps L qs Dn s → ∀ p ∈ s.spots, Fr Dn p ∧ 0 ≤ p ∧ p ≤ 50000 := fun {Dn s} ri p hp => ⟨(ri.sp p hp).2.2, (ri.sp p hp).1, Rat.le_trans (Rat.le_of_lt (ri.sp p hp).2.1) (Rat.intCast_le_intCast (b := 50000) |>.mpr (by omega))⟩
        refine ⟨_, rfl, _, rfl, lc_places (by omega) en9.ri ls9 (ls9.keep (D, (nmU z1 m).map V.str) (by simp)) fun D2 H10 us s10 nD2 eD2 hu => ?_⟩
        have ls10 := ls9.go s10
        refine ⟨1, o2, p7, D2, us2, us, qs, ps, s9.spots, rfl, ⟨SqL.of (ls10.keep (o2, us2) (by simp)), ls10.dp, by omega⟩, ⟨SqL.of (ls10.keep (p7, ps.map V.int) (by simp)), by omega⟩, ⟨SqL.of eD2, hu, by omega⟩, ls10.sm.ok hok, ⟨by decide, by decide⟩, spb en9.ri, fun _ => ⟨fun p hp => by rw [← eL]; exact (en9.ri.sp p hp).2.1, en9.ri.srt⟩, fun _ pb H11 ub s11 npb eb hb => ?_, fun wd hw => by rw [shN l9 z9] at hw; cases hw⟩
        have ls11 := ls10.go s11
        have hb : AmL K H11 ub (shL L ps s9.spots) := by rw [eL]; exact hb
        have nbo : pb ∉ ownC c A3 := ls10.ch.new npb
        refine ⟨_, rfl, by show 2 ≤ sizeLine; decide, fun t12 nt12 => ⟨by show 1 ≤ sizeLine; decide, fun l12 nl12 => ?_⟩⟩
        have u12 := same_upd (T := T) (o := .tup [.int 0, .int 1]) nt12
        have v12 := same_upd (T := T) (o := .lst [.ref t12]) nl12
        refine ⟨_, rfl, _, _, rfl, rfl, l12, (m : Int) - 1, [.ref t12], rfl, rfl, upd_same, by omega, by omega, sz (by show 1 * ((m : Int) - 1).toNat ≤ _; omega), fun l13 nl13 => ?_⟩
        have v13 := same_upd (T := T) (o := .lst (List.replicate ((m : Int) - 1).toNat [V.ref t12]).flatten) nl13
        have s1113 := u12.trans (v12.trans v13)
        have ls13 := ls11.go s1113
        have pl := pp _ (getD_mem (l := ps) (i := m - 1) (d := 0) (by omega))
        refine ⟨_, rfl, o2, us2, qs, rfl, SqL.of (ls13.keep (o2, us2) (by simp)), ls13.dp, qw, ?_⟩
        refine ⟨_, rfl, 1, rfl, p7, _, _, .int (ps.getD (m - 1) 0), rfl, rfl, SqL.of (ls13.keep (p7, ps.map V.int) (by simp)), at_neg1 (by rw [List.length_map]; omega) (by rw [List.length_map, List.getElem?_map, em, getI (by omega)]; rfl), ?_⟩
        refine ⟨labourM qs, ps.getD (m - 1) 0, rfl, by omega, Nat.lt_of_le_of_lt (m := 12) (by omega) (Nat.lt_of_lt_of_le (show 12 < 2 ^ 4 by decide) (Nat.pow_le_pow_right (by decide) (by decide))), fun q14 H14 s14 nq14 e14 => ⟨by show 1 ≤ sizeLine; decide, fun l15 nl15 => ?_⟩⟩
        rw [← eL, amt_am (by omega)] at e14
        have v15 := same_upd (T := T) (o := .lst [V.ref q14]) nl15
        refine ⟨l13, l15, _, _, rfl, rfl, (s14.trans v15).k upd_same, upd_same, ?_, fun l16 nl16 => ?_⟩
        · rw [rep_flat, List.length_replicate]
          exact sz (by show _ + 1 ≤ _; omega)
        have v16 := same_upd (T := T) (o := .lst ((List.replicate ((m : Int) - 1).toNat [V.ref t12]).flatten ++ [V.ref q14])) nl16
        have s1416 := v15.trans v16
        have s1116 := s1113.trans (s14.trans s1416)
        have ezb := sh_zero (L := L) (ps := ps) l9.symm (by omega) en9.zero
        have hrr : AmL K (upd (upd H14 l15 (.lst [V.ref q14])) l16 (.lst ((List.replicate ((m : Int) - 1).toNat [V.ref t12]).flatten ++ [V.ref q14]))) ((List.replicate ((m : Int) - 1).toNat [V.ref t12]).flatten ++ [V.ref q14]) (shL L ps s9.spots) := by
          have e1 : (List.replicate ((m : Int) - 1).toNat [V.ref t12]).flatten = List.replicate (m - 1) (V.ref t12) := by rw [rep_flat, show ((m : Int) - 1).toNat = m - 1 from by omega]
          have q0 : SqT K (upd (upd H14 l15 (.lst [V.ref q14])) l16 (.lst ((List.replicate ((m : Int) - 1).toNat [V.ref t12]).flatten ++ [V.ref q14]))) t12 (tv (am 0)) := by
            rw [am_zero]
            exact same_tup ((v12.trans v13).trans (s14.trans s1416)) (SqT.of upd_same)
          have h1 := amL_snoc (amL_rep q0 (m - 1)) (same_tup s1416 (SqT.of e14))
          rw [ezb, em]
          exact Eq.subst (motive := fun l => AmL K (upd (upd H14 l15 (.lst [V.ref q14])) l16 (.lst ((List.replicate ((m : Int) - 1).toNat [V.ref t12]).flatten ++ [V.ref q14]))) (l ++ [V.ref q14]) _) e1.symm h1
        refine ⟨.list (((shL L ps s9.spots).map am).map amD), .list (((shL L ps s9.spots).map am).map amD), (hb.keep s1116).dp (SqL.of (s1116.k eb)), hrr.dp (SqL.of upd_same), shaped_ams _, shaped_ams _, _, rfl, ?_⟩
        rw [ne_ams rfl]
        refine iteF ?_
        have ls16 := ls11.go s1116
        have hb16 := hb.keep s1116
        have eb16 := s1116.k eb
        clear hrr s1416 v16 v15 s14 e14 nq14 s1113 v13 nl13 v12 u12 nl12 nt12 nl15 nl16 hb eb ls13 ls11 s11 ls10 s10 nD2 eD2 hu npb
        generalize upd (upd H14 l15 (.lst [V.ref q14])) l16 (.lst ((List.replicate ((m : Int) - 1).toNat [V.ref t12]).flatten ++ [V.ref q14])) = H16 at *
        refine ⟨_, rfl, pb, _, rfl, .inl (SqL.of eb16), fun pl0 npl0 => ?_⟩
        have u17 := same_upd (T := T) (o := .lst ub) npl0
        have ls17 := ((ls16.add eb16 nbo).go u17).add (p := pl0) (v := ub) upd_same (ls16.ch.new npl0)
        have hb17 := hb16.keep u17
        generalize upd H16 pl0 (.lst ub) = H17 at *
        refine ⟨_, rfl, a, script, 6, rfl, ls17.sm.seq hS, by decide, by decide, fun mm hmm => ⟨13, mm, rfl, 1, _, rfl, ?_, ?_⟩⟩
        · split <;> omega
        obtain ⟨N, hN⟩ : ∃ N : Nat, ((if (mm : Int) < 13 then (mm : Int) else 13) - 1).toNat = N := ⟨_, rfl⟩
        rw [hN]
        have hN10 : N ≤ 12 := by split at hN <;> omega
        refine for_range (lo := 1) (n := N) (fun i σ H' => ∃ Dn s' A' pl ul, Ri (nmU z1 m) ps L qs Dn s' ∧ s'.spots.getD 0 0 = 0 ∧ shL L ps s'.spots = rnd ps (shL L ps s9.spots) s'.poured.length ∧ (0 < Dn ∧ Dn.natAbs < 2 ^ (8 * s'.poured.length + 1)) ∧ s'.poured.length ≤ 10 * i ∧ LS K T CC H c [(pl, ul), (pb, ub), (o2, us2), (p7, ps.map V.int), (D, (nmU z1 m).map V.str)] us2 (qs.map amD) H' A' s' ∧ AmL K H' ub (shL L ps s9.spots) ∧ AmL K H' ul (shL L ps s'.spots) ∧ ∃ y6 y11 y12 y13, σ = [some (.ref a), some (.int z1), some (.int z2), some (.ref o2), some (.ref p7), some (.int m), y6, some (.ref D), some (.ref c), some (.ref pb), some (.ref pl), y11, y12, y13, none]) ⟨1, s9, A3, pl0, ub, en9.ri, z9, by rw [en9.pl]; rfl, ⟨by decide, by rw [en9.pl]; decide⟩, by rw [en9.pl]; decide, ls17, hb17, hb17, _, _, _, _, rfl⟩ ?_ ?_
        · rintro i σ H1 hi ⟨Dn, s1, A1, pl1, ul1, ri1, zz1, es1, bd1, hp1, ls1, hb1, hu1, y6, y11, y12, y13, rfl⟩
          refine ⟨_, rfl, c, _, _, rfl, ls1.ch.ins, fl_no (by decide +kernel), _, rfl, _, rfl, a, script, _, rfl, ls1.sm.seq hS, by omega, fun c1 => ⟨by show 1 ≤ sizeLine; decide, fun l2 nl2 => ?_⟩⟩
          have u2 := same_upd (T := T) (o := HO.lst [.int 3]) nl2
          refine ⟨c1, l2, [3], rfl, SqL.of upd_same, by decide, by decide, fun p2 H2 ds s2 np2 e2 hd => ?_⟩
          have ls2 := ls1.go (u2.trans s2)
          have hb2 := hb1.keep (u2.trans s2)
          have hu2 := hu1.keep (u2.trans s2)
          obtain ⟨d0, g0, h00, h01⟩ := hd.get (i := 0) rfl
          refine ⟨p2, _, 0, .int d0, rfl, rfl, SqL.of e2, at_map (i := 0) rfl g0, _, _, rfl, rfl, c, A1, s1, 1 + d0, rfl, ls2.ch, fun z => absurd z (by unfold outsB; rw [decide_eq_true (by omega), decide_eq_true (by omega)]; decide), fun _ z => absurd z (ri1.ne hr), fun _ _ => ?_⟩
          refine outs_sh ri1 hr zz1 bd1 (by omega) (by omega) (by omega) (by omega) fun D4 s4 H4 A4 q4 us4 rows ri4 zz4 es4 bd4 hpl hc1 hc2 x4 h4 fr4 nq4 np4 eq4 du4 => ?_
          have ls4 := ls2.on x4 h4 fr4
          have hb4 := x4.ams hb2
          have hu4 := x4.ams hu2
          refine ⟨q4, us4, rfl, .inl (SqL.of eq4), ?_⟩
          rw [dpa_len du4, List.length_map]
          have l4 : s4.spots.length = ps.length := by rw [ri4.ls, nmU_len, em]
          refine ⟨_, rfl, _, rfl, lc_places (by omega) ri4 ls4 (ls4.keep (D, (nmU z1 m).map V.str) (by simp)) fun D2 H5 us s5 nD2 eD2 hu => ?_⟩
          have ls5 := ls4.go s5
          refine ⟨D4, o2, p7, D2, us2, us, qs, ps, s4.spots, rfl, ⟨SqL.of (ls5.keep (o2, us2) (by simp)), ls5.dp, by omega⟩, ⟨SqL.of (ls5.keep (p7, ps.map V.int) (by simp)), by omega⟩, ⟨SqL.of eD2, hu, by omega⟩, ls5.sm.ok hok, ⟨bd4.1, pw_le bd4.2 (by omega)⟩, spb ri4, fun _ => ⟨fun p hp => by rw [← eL]; exact (ri4.sp p hp).2.1, ri4.srt⟩, fun _ pf H6 uf s6 npf ef hf => ?_, fun wd hw => by rw [shN l4 zz4] at hw; cases hw⟩
          have ls6 := ls5.go s6
          have hf : AmL K H6 uf (shL L ps s4.spots) := by rw [eL]; exact hf
          have nfo : pf ∉ ownC c A4 := ls5.ch.new npf
          have s46 := s5.trans s6
          have hb6 := hb4.keep s46
          have hu6 := hu4.keep s46
          have shb1 := sh_bd ri1 hr bd1.1
          have shb9 := sh_bd en9.ri hr (show (0 : Int) < 1 by decide)
          refine ⟨_, rfl, _, rfl, _, rfl, Dn * 27720, p7, pl1, ul1, ps, shL L ps s1.spots, (rows.length : Int), rfl, SqL.of (ls6.keep (p7, ps.map V.int) (by simp)), SqL.of (ls6.keep (pl1, ul1) (by simp)), hu6, ⟨by omega, by rw [shL_len]; omega⟩, ⟨by have := bd1.1; omega, pw_27 bd1.2 (by omega)⟩, shb1, fun _ p7' H7 us7 s7 np7 e7 hu7 => ?_, fun wd hw => by rw [bh_none ris (shL_len _ _ _) (by omega) (by omega)] at hw; cases hw⟩
          rw [Int.toNat_natCast, ← es4] at hu7
          refine ⟨_, rfl, .ref p7', .ref pf, .list (((shL L ps s4.spots).map am).map amD), rfl, hu7.dp (SqL.of e7), (hf.keep s7).dp (SqL.of (s7.k ef)), depOk_amsN (n := 3) (by rw [List.length_map, shL_len]; omega), fun H8 s8 => ⟨_, rfl, iteF ?_⟩⟩
          have s68 := s7.trans s8
          have ls8 := ls6.go s68
          have hb8 := hb6.keep s68
          have hf8 := hf.keep s68
          have ef8 := s68.k ef
          refine ⟨_, rfl, c, _, _, rfl, ls8.ch.ins, fl_no (by decide +kernel), c, A4, s4, rfl, ls8.ch, fun p9 H9' s9' np9 e9 => ⟨p9, _, rfl, .inl (SqL.of e9), ?_⟩⟩
          rw [List.length_map]
          have ls9' := ls8.go s9'
          have hb9' := hb8.keep s9'
          have fin : ∀ H10, Sm T H9' H10 → LS K T CC H c [(pf, uf), (pb, ub), (o2, us2), (p7, ps.map V.int), (D, (nmU z1 m).map V.str)] us2 (qs.map amD) H10 A4 s4 ∧ AmL K H10 ub (shL L ps s9.spots) ∧ AmL K H10 uf (shL L ps s4.spots) := fun H10 sm =>
            ⟨(ls9'.go sm).tail.add ((s9'.trans sm).k ef8) nfo, hb9'.keep sm, hf8.keep (s9'.trans sm)⟩
          have es : shL L ps s4.spots = rnd ps (shL L ps s9.spots) s4.poured.length := by rw [es4, es1, hpl, rnd_add]
          refine ⟨_, rfl, _, _, rfl, rfl, _, rfl, ?_⟩
          by_cases hlt : (s4.poured.length : Int) < 25
          · rw [decide_eq_true hlt]
            refine iteT ?_
            refine ⟨_, rfl, _, rfl, _, rfl, 1 * 27720, p7, pb, ub, ps, shL L ps s9.spots, (s4.poured.length : Int), rfl, SqL.of (ls9'.keep (p7, ps.map V.int) (by simp)), SqL.of (ls9'.keep (pb, ub) (by simp)), hb9', ⟨by omega, by rw [shL_len]; omega⟩, ⟨by decide, pw_27 (a := 1) (by decide) (by decide)⟩, shb9, fun _ p10 H10 us10 s10 np10 e10 hu10 => ?_, fun wd hw => by rw [bh_none ris (shL_len _ _ _) (by omega) (by omega)] at hw; cases hw⟩
            rw [Int.toNat_natCast, ← es] at hu10
            refine ⟨_, rfl, .ref p10, .ref pf, .list (((shL L ps s4.spots).map am).map amD), rfl, hu10.dp (SqL.of e10), (hf8.keep (s9'.trans s10)).dp (SqL.of ((s9'.trans s10).k ef8)), depOk_amsN (n := 3) (by rw [List.length_map, shL_len]; omega), fun H11 s11 => ⟨_, rfl, iteF ?_⟩⟩
            obtain ⟨f1, f2, f3⟩ := fin H11 (s10.trans s11)
            exact ⟨_, rfl, D4, s4, A4, pf, uf, ri4, zz4, es, bd4, by omega, f1, f2, f3, _, _, _, _, rfl⟩
          · rw [decide_eq_false hlt]
            refine iteF ?_
            obtain ⟨f1, f2, f3⟩ := fin H9' Sm.refl
            exact ⟨_, rfl, D4, s4, A4, pf, uf, ri4, zz4, es, bd4, by omega, f1, f2, f3, _, _, _, _, rfl⟩
        · rintro σ H1 ⟨Dn, s1, A1, pl1, ul1, ri1, zz1, es1, bd1, hp1, ls1, hb1, hu1, y6, y11, y12, y13, rfl⟩
          exact q _

end
theorem all_mk {l : PySem.W.OpenLaw} {w : World} {K : PySem.W.Frag} {h : Heap} {mg : Str → Option Value} {fa : Addr} {q : Program} (X : K.In h) (G : h.Ns mainGlobals mg) (hfa : mg "law" = some (.ref fa))
    (tabs : ∀ (y : Str) (c P : Addr), ((recsOf q).any fun e => e.name == y) = true → PySem.W.tabIn K y = some (c, P) → PySem.W.CodeHd h c P ∧ h.get? P = some { cls := .none, data := .fields #[] })
    {CC : Addr} (aCC : PySem.W.nsIn K mainGlobals "Chain" = some (some (.ref CC))) (pgC : PySem.W.plainGet K CC Str.empty = true) (hdC : PySem.W.hasDictIn K CC = true) (poC : PySem.W.plainOver K CC = true) (saC : PySem.W.findIn K (.ref CC) "__setattr__" = some (some (.builtin "object.__setattr__"))) (mkC : PySem.W.makesIn K CC = true) (kcC : PySem.W.keepIn K (.ref CC) = true)
    (nF_fire : PySem.W.findIn K (.ref CC) "fire" = some none)
    (nF_stretches : PySem.W.findIn K (.ref CC) "stretches" = some none)
    (nF_now : PySem.W.findIn K (.ref CC) "now" = some none)
    (nF_row : PySem.W.findIn K (.ref CC) "row" = some none)
    (nF_loads : PySem.W.findIn K (.ref CC) "loads" = some none)
    (nF_spots : PySem.W.findIn K (.ref CC) "spots" = some none)
    (nF_tempos : PySem.W.findIn K (.ref CC) "tempos" = some none)
    (nF_leaving : PySem.W.findIn K (.ref CC) "leaving" = some none)
    (nF_ledgers : PySem.W.findIn K (.ref CC) "ledgers" = some none)
    (nF_marks : PySem.W.findIn K (.ref CC) "marks" = some none)
    (nF_poured : PySem.W.findIn K (.ref CC) "poured" = some none)
    {f1 : Addr} {od1 an1 : Option Addr} {sl1 : Array (Option Value)} {oc1 kV1 dc1 pm1 ct1 : Value} {cd1 : Value} (a1 : PySem.W.nsIn K mainGlobals "is_number" = some (some (.ref f1))) (l1 : K.lookup f1 = some ⟨oc1, od1, .func (PySem.W.fnOf "is_number" "is_number" (defArgs s_p_is_number) (defBody s_p_is_number) (defScope s_p_is_number) .none kV1 dc1 pm1 an1 cd1 ct1), sl1⟩) (c1_ : PySem.W.codeIn K cd1 "is_number" = true) (k1 : PySem.W.keepIn K (.ref f1) = true)
    {f2 : Addr} {od2 an2 : Option Addr} {sl2 : Array (Option Value)} {oc2 kV2 dc2 pm2 ct2 : Value} {cd2 : Value} (a2 : PySem.W.nsIn K mainGlobals "is_within" = some (some (.ref f2))) (l2 : K.lookup f2 = some ⟨oc2, od2, .func (PySem.W.fnOf "is_within" "is_within" (defArgs s_p_is_within) (defBody s_p_is_within) (defScope s_p_is_within) .none kV2 dc2 pm2 an2 cd2 ct2), sl2⟩) (c2_ : PySem.W.codeIn K cd2 "is_within" = true) (k2 : PySem.W.keepIn K (.ref f2) = true)
    {f3 : Addr} {od3 an3 : Option Addr} {sl3 : Array (Option Value)} {oc3 kV3 dc3 pm3 ct3 : Value} {cd3 : Value} (a3 : PySem.W.nsIn K mainGlobals "common_divisor" = some (some (.ref f3))) (l3 : K.lookup f3 = some ⟨oc3, od3, .func (PySem.W.fnOf "common_divisor" "common_divisor" (defArgs s_p_common_divisor) (defBody s_p_common_divisor) (defScope s_p_common_divisor) .none kV3 dc3 pm3 an3 cd3 ct3), sl3⟩) (c3_ : PySem.W.codeIn K cd3 "common_divisor" = true) (k3 : PySem.W.keepIn K (.ref f3) = true)
    {f4 : Addr} {od4 an4 : Option Addr} {sl4 : Array (Option Value)} {oc4 kV4 dc4 pm4 ct4 : Value} {cd4 : Value} (a4 : PySem.W.nsIn K mainGlobals "amount" = some (some (.ref f4))) (l4 : K.lookup f4 = some ⟨oc4, od4, .func (PySem.W.fnOf "amount" "amount" (defArgs s_p_amount) (defBody s_p_amount) (defScope s_p_amount) .none kV4 dc4 pm4 an4 cd4 ct4), sl4⟩) (c4_ : PySem.W.codeIn K cd4 "amount" = true) (k4 : PySem.W.keepIn K (.ref f4) = true)
    {f5 : Addr} {od5 an5 : Option Addr} {sl5 : Array (Option Value)} {oc5 kV5 dc5 pm5 ct5 : Value} {cd5 : Value} (a5 : PySem.W.nsIn K mainGlobals "plus" = some (some (.ref f5))) (l5 : K.lookup f5 = some ⟨oc5, od5, .func (PySem.W.fnOf "plus" "plus" (defArgs s_p_plus) (defBody s_p_plus) (defScope s_p_plus) .none kV5 dc5 pm5 an5 cd5 ct5), sl5⟩) (c5_ : PySem.W.codeIn K cd5 "plus" = true) (k5 : PySem.W.keepIn K (.ref f5) = true)
    {f6 : Addr} {od6 an6 : Option Addr} {sl6 : Array (Option Value)} {oc6 kV6 dc6 pm6 ct6 : Value} {cd6 : Value} (a6 : PySem.W.nsIn K mainGlobals "minus" = some (some (.ref f6))) (l6 : K.lookup f6 = some ⟨oc6, od6, .func (PySem.W.fnOf "minus" "minus" (defArgs s_p_minus) (defBody s_p_minus) (defScope s_p_minus) .none kV6 dc6 pm6 an6 cd6 ct6), sl6⟩) (c6_ : PySem.W.codeIn K cd6 "minus" = true) (k6 : PySem.W.keepIn K (.ref f6) = true)
    {f7 : Addr} {od7 an7 : Option Addr} {sl7 : Array (Option Value)} {oc7 kV7 dc7 pm7 ct7 : Value} {cd7 : Value} (a7 : PySem.W.nsIn K mainGlobals "times" = some (some (.ref f7))) (l7 : K.lookup f7 = some ⟨oc7, od7, .func (PySem.W.fnOf "times" "times" (defArgs s_p_times) (defBody s_p_times) (defScope s_p_times) .none kV7 dc7 pm7 an7 cd7 ct7), sl7⟩) (c7_ : PySem.W.codeIn K cd7 "times" = true) (k7 : PySem.W.keepIn K (.ref f7) = true)
    {f8 : Addr} {od8 an8 : Option Addr} {sl8 : Array (Option Value)} {oc8 kV8 dc8 pm8 ct8 : Value} {cd8 : Value} (a8 : PySem.W.nsIn K mainGlobals "over" = some (some (.ref f8))) (l8 : K.lookup f8 = some ⟨oc8, od8, .func (PySem.W.fnOf "over" "over" (defArgs s_p_over) (defBody s_p_over) (defScope s_p_over) .none kV8 dc8 pm8 an8 cd8 ct8), sl8⟩) (c8_ : PySem.W.codeIn K cd8 "over" = true) (k8 : PySem.W.keepIn K (.ref f8) = true)
    {f9 : Addr} {od9 an9 : Option Addr} {sl9 : Array (Option Value)} {oc9 kV9 dc9 pm9 ct9 : Value} {cd9 : Value} (a9 : PySem.W.nsIn K mainGlobals "below" = some (some (.ref f9))) (l9 : K.lookup f9 = some ⟨oc9, od9, .func (PySem.W.fnOf "below" "below" (defArgs s_p_below) (defBody s_p_below) (defScope s_p_below) .none kV9 dc9 pm9 an9 cd9 ct9), sl9⟩) (c9_ : PySem.W.codeIn K cd9 "below" = true) (k9 : PySem.W.keepIn K (.ref f9) = true)
    {f10 : Addr} {od10 an10 : Option Addr} {sl10 : Array (Option Value)} {oc10 kV10 dc10 pm10 ct10 : Value} {cd10 : Value} (a10 : PySem.W.nsIn K mainGlobals "lesser" = some (some (.ref f10))) (l10 : K.lookup f10 = some ⟨oc10, od10, .func (PySem.W.fnOf "lesser" "lesser" (defArgs s_p_lesser) (defBody s_p_lesser) (defScope s_p_lesser) .none kV10 dc10 pm10 an10 cd10 ct10), sl10⟩) (c10_ : PySem.W.codeIn K cd10 "lesser" = true) (k10 : PySem.W.keepIn K (.ref f10) = true)
    {f11 : Addr} {od11 an11 : Option Addr} {sl11 : Array (Option Value)} {oc11 kV11 dc11 pm11 ct11 : Value} {cd11 : Value} (a11 : PySem.W.nsIn K mainGlobals "_law_cell" = some (some (.ref f11))) (l11 : K.lookup f11 = some ⟨oc11, od11, .func (PySem.W.fnOf "_law_cell" "_law_cell" (defArgs s_l_cell) (defBody s_l_cell) (defScope s_l_cell) .none kV11 dc11 pm11 an11 cd11 ct11), sl11⟩) (c11_ : PySem.W.codeIn K cd11 "_law_cell" = true) (k11 : PySem.W.keepIn K (.ref f11) = true)
    {f12 : Addr} {od12 an12 : Option Addr} {sl12 : Array (Option Value)} {oc12 kV12 dc12 pm12 ct12 : Value} {cd12 : Value} (a12 : PySem.W.nsIn K mainGlobals "_law_draws" = some (some (.ref f12))) (l12 : K.lookup f12 = some ⟨oc12, od12, .func (PySem.W.fnOf "_law_draws" "_law_draws" (defArgs s_l_draws) (defBody s_l_draws) (defScope s_l_draws) .none kV12 dc12 pm12 an12 cd12 ct12), sl12⟩) (c12_ : PySem.W.codeIn K cd12 "_law_draws" = true) (k12 : PySem.W.keepIn K (.ref f12) = true)
    {f13 : Addr} {od13 an13 : Option Addr} {sl13 : Array (Option Value)} {oc13 kV13 dc13 pm13 ct13 : Value} {cd13 : Value} (a13 : PySem.W.nsIn K mainGlobals "_law_many" = some (some (.ref f13))) (l13 : K.lookup f13 = some ⟨oc13, od13, .func (PySem.W.fnOf "_law_many" "_law_many" (defArgs s_l_many) (defBody s_l_many) (defScope s_l_many) .none kV13 dc13 pm13 an13 cd13 ct13), sl13⟩) (c13_ : PySem.W.codeIn K cd13 "_law_many" = true) (k13 : PySem.W.keepIn K (.ref f13) = true)
    {f14 : Addr} {od14 an14 : Option Addr} {sl14 : Array (Option Value)} {oc14 kV14 dc14 pm14 ct14 : Value} {cd14 : Value} (a14 : PySem.W.nsIn K mainGlobals "check_pace" = some (some (.ref f14))) (l14 : K.lookup f14 = some ⟨oc14, od14, .func (PySem.W.fnOf "check_pace" "check_pace" (defArgs s_p_check_pace) (defBody s_p_check_pace) (defScope s_p_check_pace) .none kV14 dc14 pm14 an14 cd14 ct14), sl14⟩) (c14_ : PySem.W.codeIn K cd14 "check_pace" = true) (k14 : PySem.W.keepIn K (.ref f14) = true)
    {f15 : Addr} {od15 an15 : Option Addr} {sl15 : Array (Option Value)} {oc15 kV15 dc15 pm15 ct15 : Value} {cd15 : Value} (a15 : PySem.W.nsIn K mainGlobals "check_paces" = some (some (.ref f15))) (l15 : K.lookup f15 = some ⟨oc15, od15, .func (PySem.W.fnOf "check_paces" "check_paces" (defArgs s_p_check_paces) (defBody s_p_check_paces) (defScope s_p_check_paces) .none kV15 dc15 pm15 an15 cd15 ct15), sl15⟩) (c15_ : PySem.W.codeIn K cd15 "check_paces" = true) (k15 : PySem.W.keepIn K (.ref f15) = true)
    {f16 : Addr} {od16 an16 : Option Addr} {sl16 : Array (Option Value)} {oc16 kV16 dc16 pm16 ct16 : Value} {cd16 : Value} (a16 : PySem.W.nsIn K mainGlobals "check_rising" = some (some (.ref f16))) (l16 : K.lookup f16 = some ⟨oc16, od16, .func (PySem.W.fnOf "check_rising" "check_rising" (defArgs s_p_check_rising) (defBody s_p_check_rising) (defScope s_p_check_rising) .none kV16 dc16 pm16 an16 cd16 ct16), sl16⟩) (c16_ : PySem.W.codeIn K cd16 "check_rising" = true) (k16 : PySem.W.keepIn K (.ref f16) = true)
    {f17 : Addr} {od17 an17 : Option Addr} {sl17 : Array (Option Value)} {oc17 kV17 dc17 pm17 ct17 : Value} {c17 P17 : Addr} (a17 : PySem.W.nsIn K mainGlobals "is_name" = some (some (.ref f17))) (l17 : K.lookup f17 = some ⟨oc17, od17, .func (PySem.W.fnOf "is_name" "is_name" (defArgs s_p_is_name) (defBody s_p_is_name) (defScope s_p_is_name) .none kV17 dc17 pm17 an17 (.ref c17) ct17), sl17⟩) (c17_ : PySem.W.codeIn K (.ref c17) "is_name" = true) (k17 : PySem.W.keepIn K (.ref f17) = true)
    (r17 : ((recsOf q).any fun e => e.name == ("is_name" : Str)) = true) {ev17 : Value} {dv17 : Option Addr} {vv17 : Array Value} {sv17 : Array (Option Value)} (v17 : K.lookup c17 = some ⟨ev17, dv17, .fields vv17, sv17⟩) (p17 : vv17[11]? = some (.ref P17)) (n17 : K.lookup P17 = none)
    {f18 : Addr} {od18 an18 : Option Addr} {sl18 : Array (Option Value)} {oc18 kV18 dc18 pm18 ct18 : Value} {cd18 : Value} (a18 : PySem.W.nsIn K mainGlobals "check_name" = some (some (.ref f18))) (l18 : K.lookup f18 = some ⟨oc18, od18, .func (PySem.W.fnOf "check_name" "check_name" (defArgs s_p_check_name) (defBody s_p_check_name) (defScope s_p_check_name) .none kV18 dc18 pm18 an18 cd18 ct18), sl18⟩) (c18_ : PySem.W.codeIn K cd18 "check_name" = true) (k18 : PySem.W.keepIn K (.ref f18) = true)
    {f19 : Addr} {od19 an19 : Option Addr} {sl19 : Array (Option Value)} {oc19 kV19 dc19 pm19 ct19 : Value} {cd19 : Value} (a19 : PySem.W.findIn K (.ref CC) "take_pail" = some (some (.ref f19))) (l19 : K.lookup f19 = some ⟨oc19, od19, .func (PySem.W.fnOf "take_pail" "Chain.take_pail" (defArgs s_p_Chain_take_pail) (defBody s_p_Chain_take_pail) (defScope s_p_Chain_take_pail) .none kV19 dc19 pm19 an19 cd19 ct19), sl19⟩) (c19_ : PySem.W.codeIn K cd19 "Chain.take_pail" = true) (k19 : PySem.W.keepIn K (.ref f19) = true)
    (i19 : PySem.W.isFn K (.ref f19) = true)
    {f20 : Addr} {od20 an20 : Option Addr} {sl20 : Array (Option Value)} {oc20 kV20 dc20 pm20 ct20 : Value} {cd20 : Value} (a20 : PySem.W.findIn K (.ref CC) "enter" = some (some (.ref f20))) (l20 : K.lookup f20 = some ⟨oc20, od20, .func (PySem.W.fnOf "enter" "Chain.enter" (defArgs s_p_Chain_enter) (defBody s_p_Chain_enter) (defScope s_p_Chain_enter) .none kV20 dc20 pm20 an20 cd20 ct20), sl20⟩) (c20_ : PySem.W.codeIn K cd20 "Chain.enter" = true) (k20 : PySem.W.keepIn K (.ref f20) = true)
    (i20 : PySem.W.isFn K (.ref f20) = true)
    {f21 : Addr} {od21 an21 : Option Addr} {sl21 : Array (Option Value)} {oc21 kV21 dc21 pm21 ct21 : Value} {cd21 : Value} (a21 : PySem.W.findIn K (.ref CC) "hands" = some (some (.ref f21))) (l21 : K.lookup f21 = some ⟨oc21, od21, .func (PySem.W.fnOf "hands" "Chain.hands" (defArgs s_p_Chain_hands) (defBody s_p_Chain_hands) (defScope s_p_Chain_hands) .none kV21 dc21 pm21 an21 cd21 ct21), sl21⟩) (c21_ : PySem.W.codeIn K cd21 "Chain.hands" = true) (k21 : PySem.W.keepIn K (.ref f21) = true)
    (i21 : PySem.W.isFn K (.ref f21) = true)
    {f22 : Addr} {od22 an22 : Option Addr} {sl22 : Array (Option Value)} {oc22 kV22 dc22 pm22 ct22 : Value} {cd22 : Value} (a22 : PySem.W.findIn K (.ref CC) "emptied" = some (some (.ref f22))) (l22 : K.lookup f22 = some ⟨oc22, od22, .func (PySem.W.fnOf "emptied" "Chain.emptied" (defArgs s_p_Chain_emptied) (defBody s_p_Chain_emptied) (defScope s_p_Chain_emptied) .none kV22 dc22 pm22 an22 cd22 ct22), sl22⟩) (c22_ : PySem.W.codeIn K cd22 "Chain.emptied" = true) (k22 : PySem.W.keepIn K (.ref f22) = true)
    (i22 : PySem.W.isFn K (.ref f22) = true)
    {f23 : Addr} {od23 an23 : Option Addr} {sl23 : Array (Option Value)} {oc23 kV23 dc23 pm23 ct23 : Value} {cd23 : Value} (a23 : PySem.W.findIn K (.ref CC) "pails" = some (some (.ref f23))) (l23 : K.lookup f23 = some ⟨oc23, od23, .func (PySem.W.fnOf "pails" "Chain.pails" (defArgs s_p_Chain_pails) (defBody s_p_Chain_pails) (defScope s_p_Chain_pails) .none kV23 dc23 pm23 an23 cd23 ct23), sl23⟩) (c23_ : PySem.W.codeIn K cd23 "Chain.pails" = true) (k23 : PySem.W.keepIn K (.ref f23) = true)
    (i23 : PySem.W.isFn K (.ref f23) = true)
    {f24 : Addr} {od24 an24 : Option Addr} {sl24 : Array (Option Value)} {oc24 kV24 dc24 pm24 ct24 : Value} {cd24 : Value} (a24 : PySem.W.findIn K (.ref CC) "number_of" = some (some (.ref f24))) (l24 : K.lookup f24 = some ⟨oc24, od24, .func (PySem.W.fnOf "number_of" "Chain.number_of" (defArgs s_p_Chain_number_of) (defBody s_p_Chain_number_of) (defScope s_p_Chain_number_of) .none kV24 dc24 pm24 an24 cd24 ct24), sl24⟩) (c24_ : PySem.W.codeIn K cd24 "Chain.number_of" = true) (k24 : PySem.W.keepIn K (.ref f24) = true)
    (i24 : PySem.W.isFn K (.ref f24) = true)
    {f25 : Addr} {od25 an25 : Option Addr} {sl25 : Array (Option Value)} {oc25 kV25 dc25 pm25 ct25 : Value} {cd25 : Value} (a25 : PySem.W.findIn K (.ref CC) "place" = some (some (.ref f25))) (l25 : K.lookup f25 = some ⟨oc25, od25, .func (PySem.W.fnOf "place" "Chain.place" (defArgs s_p_Chain_place) (defBody s_p_Chain_place) (defScope s_p_Chain_place) .none kV25 dc25 pm25 an25 cd25 ct25), sl25⟩) (c25_ : PySem.W.codeIn K cd25 "Chain.place" = true) (k25 : PySem.W.keepIn K (.ref f25) = true)
    (i25 : PySem.W.isFn K (.ref f25) = true)
    {f26 : Addr} {od26 an26 : Option Addr} {sl26 : Array (Option Value)} {oc26 kV26 dc26 pm26 ct26 : Value} {cd26 : Value} (a26 : PySem.W.findIn K (.ref CC) "ledger" = some (some (.ref f26))) (l26 : K.lookup f26 = some ⟨oc26, od26, .func (PySem.W.fnOf "ledger" "Chain.ledger" (defArgs s_p_Chain_ledger) (defBody s_p_Chain_ledger) (defScope s_p_Chain_ledger) .none kV26 dc26 pm26 an26 cd26 ct26), sl26⟩) (c26_ : PySem.W.codeIn K cd26 "Chain.ledger" = true) (k26 : PySem.W.keepIn K (.ref f26) = true)
    (i26 : PySem.W.isFn K (.ref f26) = true)
    {f27 : Addr} {od27 an27 : Option Addr} {sl27 : Array (Option Value)} {oc27 kV27 dc27 pm27 ct27 : Value} {cd27 : Value} (a27 : PySem.W.findIn K (.ref CC) "paces" = some (some (.ref f27))) (l27 : K.lookup f27 = some ⟨oc27, od27, .func (PySem.W.fnOf "paces" "Chain.paces" (defArgs s_p_Chain_paces) (defBody s_p_Chain_paces) (defScope s_p_Chain_paces) .none kV27 dc27 pm27 an27 cd27 ct27), sl27⟩) (c27_ : PySem.W.codeIn K cd27 "Chain.paces" = true) (k27 : PySem.W.keepIn K (.ref f27) = true)
    (i27 : PySem.W.isFn K (.ref f27) = true)
    {f28 : Addr} {od28 an28 : Option Addr} {sl28 : Array (Option Value)} {oc28 kV28 dc28 pm28 ct28 : Value} {cd28 : Value} (a28 : PySem.W.nsIn K mainGlobals "speeds" = some (some (.ref f28))) (l28 : K.lookup f28 = some ⟨oc28, od28, .func (PySem.W.fnOf "speeds" "speeds" (defArgs s_p_speeds) (defBody s_p_speeds) (defScope s_p_speeds) .none kV28 dc28 pm28 an28 cd28 ct28), sl28⟩) (c28_ : PySem.W.codeIn K cd28 "speeds" = true) (k28 : PySem.W.keepIn K (.ref f28) = true)
    {f29 : Addr} {od29 an29 : Option Addr} {sl29 : Array (Option Value)} {oc29 kV29 dc29 pm29 ct29 : Value} {cd29 : Value} (a29 : PySem.W.nsIn K mainGlobals "hours_at" = some (some (.ref f29))) (l29 : K.lookup f29 = some ⟨oc29, od29, .func (PySem.W.fnOf "hours_at" "hours_at" (defArgs s_p_hours_at) (defBody s_p_hours_at) (defScope s_p_hours_at) .none kV29 dc29 pm29 an29 cd29 ct29), sl29⟩) (c29_ : PySem.W.codeIn K cd29 "hours_at" = true) (k29 : PySem.W.keepIn K (.ref f29) = true)
    {f30 : Addr} {od30 an30 : Option Addr} {sl30 : Array (Option Value)} {oc30 kV30 dc30 pm30 ct30 : Value} {cd30 : Value} (a30 : PySem.W.nsIn K mainGlobals "meeting" = some (some (.ref f30))) (l30 : K.lookup f30 = some ⟨oc30, od30, .func (PySem.W.fnOf "meeting" "meeting" (defArgs s_p_meeting) (defBody s_p_meeting) (defScope s_p_meeting) .none kV30 dc30 pm30 an30 cd30 ct30), sl30⟩) (c30_ : PySem.W.codeIn K cd30 "meeting" = true) (k30 : PySem.W.keepIn K (.ref f30) = true)
    {f31 : Addr} {od31 an31 : Option Addr} {sl31 : Array (Option Value)} {oc31 kV31 dc31 pm31 ct31 : Value} {cd31 : Value} (a31 : PySem.W.nsIn K mainGlobals "walked" = some (some (.ref f31))) (l31 : K.lookup f31 = some ⟨oc31, od31, .func (PySem.W.fnOf "walked" "walked" (defArgs s_p_walked) (defBody s_p_walked) (defScope s_p_walked) .none kV31 dc31 pm31 an31 cd31 ct31), sl31⟩) (c31_ : PySem.W.codeIn K cd31 "walked" = true) (k31 : PySem.W.keepIn K (.ref f31) = true)
    {f32 : Addr} {od32 an32 : Option Addr} {sl32 : Array (Option Value)} {oc32 kV32 dc32 pm32 ct32 : Value} {cd32 : Value} (a32 : PySem.W.nsIn K mainGlobals "ledger_on" = some (some (.ref f32))) (l32 : K.lookup f32 = some ⟨oc32, od32, .func (PySem.W.fnOf "ledger_on" "ledger_on" (defArgs s_p_ledger_on) (defBody s_p_ledger_on) (defScope s_p_ledger_on) .none kV32 dc32 pm32 an32 cd32 ct32), sl32⟩) (c32_ : PySem.W.codeIn K cd32 "ledger_on" = true) (k32 : PySem.W.keepIn K (.ref f32) = true)
    {f33 : Addr} {od33 an33 : Option Addr} {sl33 : Array (Option Value)} {oc33 kV33 dc33 pm33 ct33 : Value} {cd33 : Value} (a33 : PySem.W.findIn K (.ref CC) "till_meeting" = some (some (.ref f33))) (l33 : K.lookup f33 = some ⟨oc33, od33, .func (PySem.W.fnOf "till_meeting" "Chain.till_meeting" (defArgs s_p_Chain_till_meeting) (defBody s_p_Chain_till_meeting) (defScope s_p_Chain_till_meeting) .none kV33 dc33 pm33 an33 cd33 ct33), sl33⟩) (c33_ : PySem.W.codeIn K cd33 "Chain.till_meeting" = true) (k33 : PySem.W.keepIn K (.ref f33) = true)
    (i33 : PySem.W.isFn K (.ref f33) = true)
    {f34 : Addr} {od34 an34 : Option Addr} {sl34 : Array (Option Value)} {oc34 kV34 dc34 pm34 ct34 : Value} {cd34 : Value} (a34 : PySem.W.findIn K (.ref CC) "walk" = some (some (.ref f34))) (l34 : K.lookup f34 = some ⟨oc34, od34, .func (PySem.W.fnOf "walk" "Chain.walk" (defArgs s_p_Chain_walk) (defBody s_p_Chain_walk) (defScope s_p_Chain_walk) .none kV34 dc34 pm34 an34 cd34 ct34), sl34⟩) (c34_ : PySem.W.codeIn K cd34 "Chain.walk" = true) (k34 : PySem.W.keepIn K (.ref f34) = true)
    (i34 : PySem.W.isFn K (.ref f34) = true)
    {f35 : Addr} {od35 an35 : Option Addr} {sl35 : Array (Option Value)} {oc35 kV35 dc35 pm35 ct35 : Value} {cd35 : Value} (a35 : PySem.W.findIn K (.ref CC) "mark" = some (some (.ref f35))) (l35 : K.lookup f35 = some ⟨oc35, od35, .func (PySem.W.fnOf "mark" "Chain.mark" (defArgs s_p_Chain_mark) (defBody s_p_Chain_mark) (defScope s_p_Chain_mark) .none kV35 dc35 pm35 an35 cd35 ct35), sl35⟩) (c35_ : PySem.W.codeIn K cd35 "Chain.mark" = true) (k35 : PySem.W.keepIn K (.ref f35) = true)
    (i35 : PySem.W.isFn K (.ref f35) = true)
    {f36 : Addr} {od36 an36 : Option Addr} {sl36 : Array (Option Value)} {oc36 kV36 dc36 pm36 ct36 : Value} {cd36 : Value} (a36 : PySem.W.findIn K (.ref CC) "mark_from" = some (some (.ref f36))) (l36 : K.lookup f36 = some ⟨oc36, od36, .func (PySem.W.fnOf "mark_from" "Chain.mark_from" (defArgs s_p_Chain_mark_from) (defBody s_p_Chain_mark_from) (defScope s_p_Chain_mark_from) .none kV36 dc36 pm36 an36 cd36 ct36), sl36⟩) (c36_ : PySem.W.codeIn K cd36 "Chain.mark_from" = true) (k36 : PySem.W.keepIn K (.ref f36) = true)
    (i36 : PySem.W.isFn K (.ref f36) = true)
    {f37 : Addr} {od37 an37 : Option Addr} {sl37 : Array (Option Value)} {oc37 kV37 dc37 pm37 ct37 : Value} {cd37 : Value} (a37 : PySem.W.findIn K (.ref CC) "next_leaver" = some (some (.ref f37))) (l37 : K.lookup f37 = some ⟨oc37, od37, .func (PySem.W.fnOf "next_leaver" "Chain.next_leaver" (defArgs s_p_Chain_next_leaver) (defBody s_p_Chain_next_leaver) (defScope s_p_Chain_next_leaver) .none kV37 dc37 pm37 an37 cd37 ct37), sl37⟩) (c37_ : PySem.W.codeIn K cd37 "Chain.next_leaver" = true) (k37 : PySem.W.keepIn K (.ref f37) = true)
    (i37 : PySem.W.isFn K (.ref f37) = true)
    {f38 : Addr} {od38 an38 : Option Addr} {sl38 : Array (Option Value)} {oc38 kV38 dc38 pm38 ct38 : Value} {cd38 : Value} (a38 : PySem.W.findIn K (.ref CC) "turn" = some (some (.ref f38))) (l38 : K.lookup f38 = some ⟨oc38, od38, .func (PySem.W.fnOf "turn" "Chain.turn" (defArgs s_p_Chain_turn) (defBody s_p_Chain_turn) (defScope s_p_Chain_turn) .none kV38 dc38 pm38 an38 cd38 ct38), sl38⟩) (c38_ : PySem.W.codeIn K cd38 "Chain.turn" = true) (k38 : PySem.W.keepIn K (.ref f38) = true)
    (i38 : PySem.W.isFn K (.ref f38) = true)
    {f39 : Addr} {od39 an39 : Option Addr} {sl39 : Array (Option Value)} {oc39 kV39 dc39 pm39 ct39 : Value} {cd39 : Value} (a39 : PySem.W.findIn K (.ref CC) "turns" = some (some (.ref f39))) (l39 : K.lookup f39 = some ⟨oc39, od39, .func (PySem.W.fnOf "turns" "Chain.turns" (defArgs s_p_Chain_turns) (defBody s_p_Chain_turns) (defScope s_p_Chain_turns) .none kV39 dc39 pm39 an39 cd39 ct39), sl39⟩) (c39_ : PySem.W.codeIn K cd39 "Chain.turns" = true) (k39 : PySem.W.keepIn K (.ref f39) = true)
    (i39 : PySem.W.isFn K (.ref f39) = true)
    {f40 : Addr} {od40 an40 : Option Addr} {sl40 : Array (Option Value)} {oc40 kV40 dc40 pm40 ct40 : Value} {c40 P40 : Addr} (a40 : PySem.W.nsIn K mainGlobals "is_stretch" = some (some (.ref f40))) (l40 : K.lookup f40 = some ⟨oc40, od40, .func (PySem.W.fnOf "is_stretch" "is_stretch" (defArgs s_p_is_stretch) (defBody s_p_is_stretch) (defScope s_p_is_stretch) .none kV40 dc40 pm40 an40 (.ref c40) ct40), sl40⟩) (c40_ : PySem.W.codeIn K (.ref c40) "is_stretch" = true) (k40 : PySem.W.keepIn K (.ref f40) = true)
    (r40 : ((recsOf q).any fun e => e.name == ("is_stretch" : Str)) = true) {ev40 : Value} {dv40 : Option Addr} {vv40 : Array Value} {sv40 : Array (Option Value)} (v40 : K.lookup c40 = some ⟨ev40, dv40, .fields vv40, sv40⟩) (p40 : vv40[11]? = some (.ref P40)) (n40 : K.lookup P40 = none)
    {f41 : Addr} {od41 an41 : Option Addr} {sl41 : Array (Option Value)} {oc41 kV41 dc41 pm41 ct41 : Value} {cd41 : Value} (a41 : PySem.W.nsIn K mainGlobals "check_way" = some (some (.ref f41))) (l41 : K.lookup f41 = some ⟨oc41, od41, .func (PySem.W.fnOf "check_way" "check_way" (defArgs s_p_check_way) (defBody s_p_check_way) (defScope s_p_check_way) .none kV41 dc41 pm41 an41 cd41 ct41), sl41⟩) (c41_ : PySem.W.codeIn K cd41 "check_way" = true) (k41 : PySem.W.keepIn K (.ref f41) = true)
    {f42 : Addr} {od42 an42 : Option Addr} {sl42 : Array (Option Value)} {oc42 kV42 dc42 pm42 ct42 : Value} {c42 P42 : Addr} (a42 : PySem.W.nsIn K mainGlobals "labour" = some (some (.ref f42))) (l42 : K.lookup f42 = some ⟨oc42, od42, .func (PySem.W.fnOf "labour" "labour" (defArgs s_p_labour) (defBody s_p_labour) (defScope s_p_labour) .none kV42 dc42 pm42 an42 (.ref c42) ct42), sl42⟩) (c42_ : PySem.W.codeIn K (.ref c42) "labour" = true) (k42 : PySem.W.keepIn K (.ref f42) = true)
    (r42 : ((recsOf q).any fun e => e.name == ("labour" : Str)) = true) {ev42 : Value} {dv42 : Option Addr} {vv42 : Array Value} {sv42 : Array (Option Value)} (v42 : K.lookup c42 = some ⟨ev42, dv42, .fields vv42, sv42⟩) (p42 : vv42[11]? = some (.ref P42)) (n42 : K.lookup P42 = none)
    {f43 : Addr} {od43 an43 : Option Addr} {sl43 : Array (Option Value)} {oc43 kV43 dc43 pm43 ct43 : Value} {cd43 : Value} (a43 : PySem.W.findIn K (.ref CC) "__init__" = some (some (.ref f43))) (l43 : K.lookup f43 = some ⟨oc43, od43, .func (PySem.W.fnOf "__init__" "Chain.__init__" (defArgs s_p_Chain___init__) (defBody s_p_Chain___init__) (defScope s_p_Chain___init__) .none kV43 dc43 pm43 an43 cd43 ct43), sl43⟩) (c43_ : PySem.W.codeIn K cd43 "Chain.__init__" = true) (k43 : PySem.W.keepIn K (.ref f43) = true)
    (i43 : PySem.W.isFn K (.ref f43) = true)
    {f44 : Addr} {od44 an44 : Option Addr} {sl44 : Array (Option Value)} {oc44 kV44 dc44 pm44 ct44 : Value} {cd44 : Value} (a44 : PySem.W.findIn K (.ref CC) "outs" = some (some (.ref f44))) (l44 : K.lookup f44 = some ⟨oc44, od44, .func (PySem.W.fnOf "outs" "Chain.outs" (defArgs s_p_Chain_outs) (defBody s_p_Chain_outs) (defScope s_p_Chain_outs) .none kV44 dc44 pm44 an44 cd44 ct44), sl44⟩) (c44_ : PySem.W.codeIn K cd44 "Chain.outs" = true) (k44 : PySem.W.keepIn K (.ref f44) = true)
    (i44 : PySem.W.isFn K (.ref f44) = true)
    {f45 : Addr} {od45 an45 : Option Addr} {sl45 : Array (Option Value)} {oc45 kV45 dc45 pm45 ct45 : Value} {cd45 : Value} (a45 : PySem.W.nsIn K mainGlobals "_law_split" = some (some (.ref f45))) (l45 : K.lookup f45 = some ⟨oc45, od45, .func (PySem.W.fnOf "_law_split" "_law_split" (defArgs s_l_split) (defBody s_l_split) (defScope s_l_split) .none kV45 dc45 pm45 an45 cd45 ct45), sl45⟩) (c45_ : PySem.W.codeIn K cd45 "_law_split" = true) (k45 : PySem.W.keepIn K (.ref f45) = true)
    {f46 : Addr} {od46 an46 : Option Addr} {sl46 : Array (Option Value)} {oc46 kV46 dc46 pm46 ct46 : Value} {cd46 : Value} (a46 : PySem.W.nsIn K mainGlobals "_law_gcd" = some (some (.ref f46))) (l46 : K.lookup f46 = some ⟨oc46, od46, .func (PySem.W.fnOf "_law_gcd" "_law_gcd" (defArgs s_l_gcd) (defBody s_l_gcd) (defScope s_l_gcd) .none kV46 dc46 pm46 an46 cd46 ct46), sl46⟩) (c46_ : PySem.W.codeIn K cd46 "_law_gcd" = true) (k46 : PySem.W.keepIn K (.ref f46) = true)
    {f47 : Addr} {od47 an47 : Option Addr} {sl47 : Array (Option Value)} {oc47 kV47 dc47 pm47 ct47 : Value} {cd47 : Value} (a47 : PySem.W.nsIn K mainGlobals "_law_amt" = some (some (.ref f47))) (l47 : K.lookup f47 = some ⟨oc47, od47, .func (PySem.W.fnOf "_law_amt" "_law_amt" (defArgs s_l_amt) (defBody s_l_amt) (defScope s_l_amt) .none kV47 dc47 pm47 an47 cd47 ct47), sl47⟩) (c47_ : PySem.W.codeIn K cd47 "_law_amt" = true) (k47 : PySem.W.keepIn K (.ref f47) = true)
    {f48 : Addr} {od48 an48 : Option Addr} {sl48 : Array (Option Value)} {oc48 kV48 dc48 pm48 ct48 : Value} {cd48 : Value} (a48 : PySem.W.nsIn K mainGlobals "_law_same" = some (some (.ref f48))) (l48 : K.lookup f48 = some ⟨oc48, od48, .func (PySem.W.fnOf "_law_same" "_law_same" (defArgs s_l_same) (defBody s_l_same) (defScope s_l_same) .none kV48 dc48 pm48 an48 cd48 ct48), sl48⟩) (c48_ : PySem.W.codeIn K cd48 "_law_same" = true) (k48 : PySem.W.keepIn K (.ref f48) = true)
    {f49 : Addr} {od49 an49 : Option Addr} {sl49 : Array (Option Value)} {oc49 kV49 dc49 pm49 ct49 : Value} {cd49 : Value} (a49 : PySem.W.nsIn K mainGlobals "_law_way" = some (some (.ref f49))) (l49 : K.lookup f49 = some ⟨oc49, od49, .func (PySem.W.fnOf "_law_way" "_law_way" (defArgs s_l_way) (defBody s_l_way) (defScope s_l_way) .none kV49 dc49 pm49 an49 cd49 ct49), sl49⟩) (c49_ : PySem.W.codeIn K cd49 "_law_way" = true) (k49 : PySem.W.keepIn K (.ref f49) = true)
    {f50 : Addr} {od50 an50 : Option Addr} {sl50 : Array (Option Value)} {oc50 kV50 dc50 pm50 ct50 : Value} {cd50 : Value} (a50 : PySem.W.nsIn K mainGlobals "_law_labour" = some (some (.ref f50))) (l50 : K.lookup f50 = some ⟨oc50, od50, .func (PySem.W.fnOf "_law_labour" "_law_labour" (defArgs s_l_labour) (defBody s_l_labour) (defScope s_l_labour) .none kV50 dc50 pm50 an50 cd50 ct50), sl50⟩) (c50_ : PySem.W.codeIn K cd50 "_law_labour" = true) (k50 : PySem.W.keepIn K (.ref f50) = true)
    {f51 : Addr} {od51 an51 : Option Addr} {sl51 : Array (Option Value)} {oc51 kV51 dc51 pm51 ct51 : Value} {cd51 : Value} (a51 : PySem.W.nsIn K mainGlobals "_law_name" = some (some (.ref f51))) (l51 : K.lookup f51 = some ⟨oc51, od51, .func (PySem.W.fnOf "_law_name" "_law_name" (defArgs s_l_name) (defBody s_l_name) (defScope s_l_name) .none kV51 dc51 pm51 an51 cd51 ct51), sl51⟩) (c51_ : PySem.W.codeIn K cd51 "_law_name" = true) (k51 : PySem.W.keepIn K (.ref f51) = true)
    {f52 : Addr} {od52 an52 : Option Addr} {sl52 : Array (Option Value)} {oc52 kV52 dc52 pm52 ct52 : Value} {cd52 : Value} (a52 : PySem.W.nsIn K mainGlobals "_law_rising_of" = some (some (.ref f52))) (l52 : K.lookup f52 = some ⟨oc52, od52, .func (PySem.W.fnOf "_law_rising_of" "_law_rising_of" (defArgs s_l_rising_of) (defBody s_l_rising_of) (defScope s_l_rising_of) .none kV52 dc52 pm52 an52 cd52 ct52), sl52⟩) (c52_ : PySem.W.codeIn K cd52 "_law_rising_of" = true) (k52 : PySem.W.keepIn K (.ref f52) = true)
    {f53 : Addr} {od53 an53 : Option Addr} {sl53 : Array (Option Value)} {oc53 kV53 dc53 pm53 ct53 : Value} {cd53 : Value} (a53 : PySem.W.nsIn K mainGlobals "check_rounds" = some (some (.ref f53))) (l53 : K.lookup f53 = some ⟨oc53, od53, .func (PySem.W.fnOf "check_rounds" "check_rounds" (defArgs s_p_check_rounds) (defBody s_p_check_rounds) (defScope s_p_check_rounds) .none kV53 dc53 pm53 an53 cd53 ct53), sl53⟩) (c53_ : PySem.W.codeIn K cd53 "check_rounds" = true) (k53 : PySem.W.keepIn K (.ref f53) = true)
    {f54 : Addr} {od54 an54 : Option Addr} {sl54 : Array (Option Value)} {oc54 kV54 dc54 pm54 ct54 : Value} {cd54 : Value} (a54 : PySem.W.nsIn K mainGlobals "mixed" = some (some (.ref f54))) (l54 : K.lookup f54 = some ⟨oc54, od54, .func (PySem.W.fnOf "mixed" "mixed" (defArgs s_p_mixed) (defBody s_p_mixed) (defScope s_p_mixed) .none kV54 dc54 pm54 an54 cd54 ct54), sl54⟩) (c54_ : PySem.W.codeIn K cd54 "mixed" = true) (k54 : PySem.W.keepIn K (.ref f54) = true)
    {f55 : Addr} {od55 an55 : Option Addr} {sl55 : Array (Option Value)} {oc55 kV55 dc55 pm55 ct55 : Value} {cd55 : Value} (a55 : PySem.W.nsIn K mainGlobals "behind_one" = some (some (.ref f55))) (l55 : K.lookup f55 = some ⟨oc55, od55, .func (PySem.W.fnOf "behind_one" "behind_one" (defArgs s_p_behind_one) (defBody s_p_behind_one) (defScope s_p_behind_one) .none kV55 dc55 pm55 an55 cd55 ct55), sl55⟩) (c55_ : PySem.W.codeIn K cd55 "behind_one" = true) (k55 : PySem.W.keepIn K (.ref f55) = true)
    {f56 : Addr} {od56 an56 : Option Addr} {sl56 : Array (Option Value)} {oc56 kV56 dc56 pm56 ct56 : Value} {cd56 : Value} (a56 : PySem.W.nsIn K mainGlobals "behind" = some (some (.ref f56))) (l56 : K.lookup f56 = some ⟨oc56, od56, .func (PySem.W.fnOf "behind" "behind" (defArgs s_p_behind) (defBody s_p_behind) (defScope s_p_behind) .none kV56 dc56 pm56 an56 cd56 ct56), sl56⟩) (c56_ : PySem.W.codeIn K cd56 "behind" = true) (k56 : PySem.W.keepIn K (.ref f56) = true)
    {f57 : Addr} {od57 an57 : Option Addr} {sl57 : Array (Option Value)} {oc57 kV57 dc57 pm57 ct57 : Value} {cd57 : Value} (a57 : PySem.W.nsIn K mainGlobals "check_places" = some (some (.ref f57))) (l57 : K.lookup f57 = some ⟨oc57, od57, .func (PySem.W.fnOf "check_places" "check_places" (defArgs s_p_check_places) (defBody s_p_check_places) (defScope s_p_check_places) .none kV57 dc57 pm57 an57 cd57 ct57), sl57⟩) (c57_ : PySem.W.codeIn K cd57 "check_places" = true) (k57 : PySem.W.keepIn K (.ref f57) = true)
    {f58 : Addr} {od58 an58 : Option Addr} {sl58 : Array (Option Value)} {oc58 kV58 dc58 pm58 ct58 : Value} {cd58 : Value} (a58 : PySem.W.nsIn K mainGlobals "shares" = some (some (.ref f58))) (l58 : K.lookup f58 = some ⟨oc58, od58, .func (PySem.W.fnOf "shares" "shares" (defArgs s_p_shares) (defBody s_p_shares) (defScope s_p_shares) .none kV58 dc58 pm58 an58 cd58 ct58), sl58⟩) (c58_ : PySem.W.codeIn K cd58 "shares" = true) (k58 : PySem.W.keepIn K (.ref f58) = true)
    {f59 : Addr} {od59 an59 : Option Addr} {sl59 : Array (Option Value)} {oc59 kV59 dc59 pm59 ct59 : Value} {cd59 : Value} (a59 : PySem.W.nsIn K mainGlobals "law" = some (some (.ref f59))) (l59 : K.lookup f59 = some ⟨oc59, od59, .func (PySem.W.fnOf "law" "law" (defArgs s_LAW) (defBody s_LAW) (defScope s_LAW) .none kV59 dc59 pm59 an59 cd59 ct59), sl59⟩) (c59_ : PySem.W.codeIn K cd59 "law" = true) (k59 : PySem.W.keepIn K (.ref f59) = true)
    {CP : Addr} (aCP : PySem.W.nsIn K mainGlobals "PailError" = some (some (.ref CP))) (rdP : PySem.W.readsIn K CP (.type "type") = true) (gaP : PySem.W.specialIn K (.ref CP) "__getattribute__" = some (some (.builtin "type.__getattribute__")))
    {f100 : Addr} {od100 an100 : Option Addr} {sl100 : Array (Option Value)} {oc100 kV100 dc100 pm100 ct100 : Value} {cd100 : Value} (a100 : PySem.W.findCls K (.ref CP) (.type "type") "__init__" = some (.val (.ref f100))) (l100 : K.lookup f100 = some ⟨oc100, od100, .func (PySem.W.fnOf "__init__" "PailError.__init__" (defArgs s_p_PailError___init__) (defBody s_p_PailError___init__) (defScope s_p_PailError___init__) .none kV100 dc100 pm100 an100 cd100 ct100), sl100⟩) (c100_ : PySem.W.codeIn K cd100 "PailError.__init__" = true) (k100 : PySem.W.keepIn K (.ref f100) = true)
    (e1P : PySem.W.subIn K (.ref CP) (.type "BaseException") = some true) (e2P : PySem.W.isClsIn K CP = true) (e3P : PySem.W.typeIn K (.ref CP) = some (.type "type")) (vV : PySem.W.findCls K (.type "ValueError") (.type "type") "__init__" = some (.val (.builtin "ValueError.__init__")))
    {C101 N101 : Addr} {nm101 q101 : Str} {bs101 bm101 sub101 : List Value} {sn101 : List Str} {ab101 : Bool} {col101 : Option Bool} {dd101 : Option Addr} {m0101 m1101 m2101 m3101 m5101 : Option Value}
    (aC101 : PySem.W.nsIn K mainGlobals "BadWay" = some (some (.ref C101))) (xL101 : K.lookup C101 = some (excClassObj nm101 q101 C101 N101 bs101 bm101 true sn101 sub101 ab101 col101 dd101 m0101 m1101 m2101 m3101 m5101 "ValueError.__new__")) (rv101 : PySem.HandSPX.refsVE bm101 = true)
    (sa101 : PySem.W.findIn K (.ref C101) "__setattr__" = some (some (.builtin "object.__setattr__"))) (ga101 : PySem.W.findIn K (.ref C101) "__getattribute__" = some (some (.builtin "BaseException.__getattribute__"))) (gg101 : PySem.W.findIn K (.ref C101) "__getattr__" = some none) (nw101 : PySem.W.findIn K (.ref C101) "word" = some none)
    {f101 : Addr} {od101 an101 : Option Addr} {sl101 : Array (Option Value)} {oc101 kV101 dc101 pm101 ct101 : Value} {cd101 : Value} (a101 : PySem.W.findIn K (.ref C101) "__init__" = some (some (.ref f101))) (l101 : K.lookup f101 = some ⟨oc101, od101, .func (PySem.W.fnOf "__init__" "BadWay.__init__" (defArgs s_p_BadWay___init__) (defBody s_p_BadWay___init__) (defScope s_p_BadWay___init__) .none kV101 dc101 pm101 an101 cd101 ct101), sl101⟩) (c101_ : PySem.W.codeIn K cd101 "BadWay.__init__" = true) (k101 : PySem.W.keepIn K (.ref f101) = true)
    (tI101 : PySem.W.typeIn K (.ref f101) = some (.type "function")) (kC101 : PySem.W.keepIn K (.ref C101) = true) (eC101 : PySem.W.subIn K (.ref C101) (.type "BaseException") = some true) (tC101 : PySem.W.typeIn K (.ref C101) = some (.type "type")) (hC101 : PySem.W.hasDictIn K C101 = true) (sC101 : PySem.W.subIn K (.ref C101) (.ref CP) = some true)
    {C102 N102 : Addr} {nm102 q102 : Str} {bs102 bm102 sub102 : List Value} {sn102 : List Str} {ab102 : Bool} {col102 : Option Bool} {dd102 : Option Addr} {m0102 m1102 m2102 m3102 m5102 : Option Value}
    (aC102 : PySem.W.nsIn K mainGlobals "BadName" = some (some (.ref C102))) (xL102 : K.lookup C102 = some (excClassObj nm102 q102 C102 N102 bs102 bm102 true sn102 sub102 ab102 col102 dd102 m0102 m1102 m2102 m3102 m5102 "ValueError.__new__")) (rv102 : PySem.HandSPX.refsVE bm102 = true)
    (sa102 : PySem.W.findIn K (.ref C102) "__setattr__" = some (some (.builtin "object.__setattr__"))) (ga102 : PySem.W.findIn K (.ref C102) "__getattribute__" = some (some (.builtin "BaseException.__getattribute__"))) (gg102 : PySem.W.findIn K (.ref C102) "__getattr__" = some none) (nw102 : PySem.W.findIn K (.ref C102) "word" = some none)
    {f102 : Addr} {od102 an102 : Option Addr} {sl102 : Array (Option Value)} {oc102 kV102 dc102 pm102 ct102 : Value} {cd102 : Value} (a102 : PySem.W.findIn K (.ref C102) "__init__" = some (some (.ref f102))) (l102 : K.lookup f102 = some ⟨oc102, od102, .func (PySem.W.fnOf "__init__" "BadName.__init__" (defArgs s_p_BadName___init__) (defBody s_p_BadName___init__) (defScope s_p_BadName___init__) .none kV102 dc102 pm102 an102 cd102 ct102), sl102⟩) (c102_ : PySem.W.codeIn K cd102 "BadName.__init__" = true) (k102 : PySem.W.keepIn K (.ref f102) = true)
    (tI102 : PySem.W.typeIn K (.ref f102) = some (.type "function")) (kC102 : PySem.W.keepIn K (.ref C102) = true) (eC102 : PySem.W.subIn K (.ref C102) (.type "BaseException") = some true) (tC102 : PySem.W.typeIn K (.ref C102) = some (.type "type")) (hC102 : PySem.W.hasDictIn K C102 = true) (sC102 : PySem.W.subIn K (.ref C102) (.ref CP) = some true)
    {C103 N103 : Addr} {nm103 q103 : Str} {bs103 bm103 sub103 : List Value} {sn103 : List Str} {ab103 : Bool} {col103 : Option Bool} {dd103 : Option Addr} {m0103 m1103 m2103 m3103 m5103 : Option Value}
    (aC103 : PySem.W.nsIn K mainGlobals "Taken" = some (some (.ref C103))) (xL103 : K.lookup C103 = some (excClassObj nm103 q103 C103 N103 bs103 bm103 true sn103 sub103 ab103 col103 dd103 m0103 m1103 m2103 m3103 m5103 "ValueError.__new__")) (rv103 : PySem.HandSPX.refsVE bm103 = true)
    (sa103 : PySem.W.findIn K (.ref C103) "__setattr__" = some (some (.builtin "object.__setattr__"))) (ga103 : PySem.W.findIn K (.ref C103) "__getattribute__" = some (some (.builtin "BaseException.__getattribute__"))) (gg103 : PySem.W.findIn K (.ref C103) "__getattr__" = some none) (nw103 : PySem.W.findIn K (.ref C103) "word" = some none)
    {f103 : Addr} {od103 an103 : Option Addr} {sl103 : Array (Option Value)} {oc103 kV103 dc103 pm103 ct103 : Value} {cd103 : Value} (a103 : PySem.W.findIn K (.ref C103) "__init__" = some (some (.ref f103))) (l103 : K.lookup f103 = some ⟨oc103, od103, .func (PySem.W.fnOf "__init__" "Taken.__init__" (defArgs s_p_Taken___init__) (defBody s_p_Taken___init__) (defScope s_p_Taken___init__) .none kV103 dc103 pm103 an103 cd103 ct103), sl103⟩) (c103_ : PySem.W.codeIn K cd103 "Taken.__init__" = true) (k103 : PySem.W.keepIn K (.ref f103) = true)
    (tI103 : PySem.W.typeIn K (.ref f103) = some (.type "function")) (kC103 : PySem.W.keepIn K (.ref C103) = true) (eC103 : PySem.W.subIn K (.ref C103) (.type "BaseException") = some true) (tC103 : PySem.W.typeIn K (.ref C103) = some (.type "type")) (hC103 : PySem.W.hasDictIn K C103 = true) (sC103 : PySem.W.subIn K (.ref C103) (.ref CP) = some true)
    {C104 N104 : Addr} {nm104 q104 : Str} {bs104 bm104 sub104 : List Value} {sn104 : List Str} {ab104 : Bool} {col104 : Option Bool} {dd104 : Option Addr} {m0104 m1104 m2104 m3104 m5104 : Option Value}
    (aC104 : PySem.W.nsIn K mainGlobals "BadPace" = some (some (.ref C104))) (xL104 : K.lookup C104 = some (excClassObj nm104 q104 C104 N104 bs104 bm104 true sn104 sub104 ab104 col104 dd104 m0104 m1104 m2104 m3104 m5104 "ValueError.__new__")) (rv104 : PySem.HandSPX.refsVE bm104 = true)
    (sa104 : PySem.W.findIn K (.ref C104) "__setattr__" = some (some (.builtin "object.__setattr__"))) (ga104 : PySem.W.findIn K (.ref C104) "__getattribute__" = some (some (.builtin "BaseException.__getattribute__"))) (gg104 : PySem.W.findIn K (.ref C104) "__getattr__" = some none) (nw104 : PySem.W.findIn K (.ref C104) "word" = some none)
    {f104 : Addr} {od104 an104 : Option Addr} {sl104 : Array (Option Value)} {oc104 kV104 dc104 pm104 ct104 : Value} {cd104 : Value} (a104 : PySem.W.findIn K (.ref C104) "__init__" = some (some (.ref f104))) (l104 : K.lookup f104 = some ⟨oc104, od104, .func (PySem.W.fnOf "__init__" "BadPace.__init__" (defArgs s_p_BadPace___init__) (defBody s_p_BadPace___init__) (defScope s_p_BadPace___init__) .none kV104 dc104 pm104 an104 cd104 ct104), sl104⟩) (c104_ : PySem.W.codeIn K cd104 "BadPace.__init__" = true) (k104 : PySem.W.keepIn K (.ref f104) = true)
    (tI104 : PySem.W.typeIn K (.ref f104) = some (.type "function")) (kC104 : PySem.W.keepIn K (.ref C104) = true) (eC104 : PySem.W.subIn K (.ref C104) (.type "BaseException") = some true) (tC104 : PySem.W.typeIn K (.ref C104) = some (.type "type")) (hC104 : PySem.W.hasDictIn K C104 = true) (sC104 : PySem.W.subIn K (.ref C104) (.ref CP) = some true)
    {C105 N105 : Addr} {nm105 q105 : Str} {bs105 bm105 sub105 : List Value} {sn105 : List Str} {ab105 : Bool} {col105 : Option Bool} {dd105 : Option Addr} {m0105 m1105 m2105 m3105 m5105 : Option Value}
    (aC105 : PySem.W.nsIn K mainGlobals "Full" = some (some (.ref C105))) (xL105 : K.lookup C105 = some (excClassObj nm105 q105 C105 N105 bs105 bm105 true sn105 sub105 ab105 col105 dd105 m0105 m1105 m2105 m3105 m5105 "ValueError.__new__")) (rv105 : PySem.HandSPX.refsVE bm105 = true)
    (sa105 : PySem.W.findIn K (.ref C105) "__setattr__" = some (some (.builtin "object.__setattr__"))) (ga105 : PySem.W.findIn K (.ref C105) "__getattribute__" = some (some (.builtin "BaseException.__getattribute__"))) (gg105 : PySem.W.findIn K (.ref C105) "__getattr__" = some none) (nw105 : PySem.W.findIn K (.ref C105) "word" = some none)
    {f105 : Addr} {od105 an105 : Option Addr} {sl105 : Array (Option Value)} {oc105 kV105 dc105 pm105 ct105 : Value} {cd105 : Value} (a105 : PySem.W.findIn K (.ref C105) "__init__" = some (some (.ref f105))) (l105 : K.lookup f105 = some ⟨oc105, od105, .func (PySem.W.fnOf "__init__" "Full.__init__" (defArgs s_p_Full___init__) (defBody s_p_Full___init__) (defScope s_p_Full___init__) .none kV105 dc105 pm105 an105 cd105 ct105), sl105⟩) (c105_ : PySem.W.codeIn K cd105 "Full.__init__" = true) (k105 : PySem.W.keepIn K (.ref f105) = true)
    (tI105 : PySem.W.typeIn K (.ref f105) = some (.type "function")) (kC105 : PySem.W.keepIn K (.ref C105) = true) (eC105 : PySem.W.subIn K (.ref C105) (.type "BaseException") = some true) (tC105 : PySem.W.typeIn K (.ref C105) = some (.type "type")) (hC105 : PySem.W.hasDictIn K C105 = true) (sC105 : PySem.W.subIn K (.ref C105) (.ref CP) = some true)
    {C106 N106 : Addr} {nm106 q106 : Str} {bs106 bm106 sub106 : List Value} {sn106 : List Str} {ab106 : Bool} {col106 : Option Bool} {dd106 : Option Addr} {m0106 m1106 m2106 m3106 m5106 : Option Value}
    (aC106 : PySem.W.nsIn K mainGlobals "NoHand" = some (some (.ref C106))) (xL106 : K.lookup C106 = some (excClassObj nm106 q106 C106 N106 bs106 bm106 true sn106 sub106 ab106 col106 dd106 m0106 m1106 m2106 m3106 m5106 "ValueError.__new__")) (rv106 : PySem.HandSPX.refsVE bm106 = true)
    (sa106 : PySem.W.findIn K (.ref C106) "__setattr__" = some (some (.builtin "object.__setattr__"))) (ga106 : PySem.W.findIn K (.ref C106) "__getattribute__" = some (some (.builtin "BaseException.__getattribute__"))) (gg106 : PySem.W.findIn K (.ref C106) "__getattr__" = some none) (nw106 : PySem.W.findIn K (.ref C106) "word" = some none)
    {f106 : Addr} {od106 an106 : Option Addr} {sl106 : Array (Option Value)} {oc106 kV106 dc106 pm106 ct106 : Value} {cd106 : Value} (a106 : PySem.W.findIn K (.ref C106) "__init__" = some (some (.ref f106))) (l106 : K.lookup f106 = some ⟨oc106, od106, .func (PySem.W.fnOf "__init__" "NoHand.__init__" (defArgs s_p_NoHand___init__) (defBody s_p_NoHand___init__) (defScope s_p_NoHand___init__) .none kV106 dc106 pm106 an106 cd106 ct106), sl106⟩) (c106_ : PySem.W.codeIn K cd106 "NoHand.__init__" = true) (k106 : PySem.W.keepIn K (.ref f106) = true)
    (tI106 : PySem.W.typeIn K (.ref f106) = some (.type "function")) (kC106 : PySem.W.keepIn K (.ref C106) = true) (eC106 : PySem.W.subIn K (.ref C106) (.type "BaseException") = some true) (tC106 : PySem.W.typeIn K (.ref C106) = some (.type "type")) (hC106 : PySem.W.hasDictIn K C106 = true) (sC106 : PySem.W.subIn K (.ref C106) (.ref CP) = some true)
    {C107 N107 : Addr} {nm107 q107 : Str} {bs107 bm107 sub107 : List Value} {sn107 : List Str} {ab107 : Bool} {col107 : Option Bool} {dd107 : Option Addr} {m0107 m1107 m2107 m3107 m5107 : Option Value}
    (aC107 : PySem.W.nsIn K mainGlobals "BadCount" = some (some (.ref C107))) (xL107 : K.lookup C107 = some (excClassObj nm107 q107 C107 N107 bs107 bm107 true sn107 sub107 ab107 col107 dd107 m0107 m1107 m2107 m3107 m5107 "ValueError.__new__")) (rv107 : PySem.HandSPX.refsVE bm107 = true)
    (sa107 : PySem.W.findIn K (.ref C107) "__setattr__" = some (some (.builtin "object.__setattr__"))) (ga107 : PySem.W.findIn K (.ref C107) "__getattribute__" = some (some (.builtin "BaseException.__getattribute__"))) (gg107 : PySem.W.findIn K (.ref C107) "__getattr__" = some none) (nw107 : PySem.W.findIn K (.ref C107) "word" = some none)
    {f107 : Addr} {od107 an107 : Option Addr} {sl107 : Array (Option Value)} {oc107 kV107 dc107 pm107 ct107 : Value} {cd107 : Value} (a107 : PySem.W.findIn K (.ref C107) "__init__" = some (some (.ref f107))) (l107 : K.lookup f107 = some ⟨oc107, od107, .func (PySem.W.fnOf "__init__" "BadCount.__init__" (defArgs s_p_BadCount___init__) (defBody s_p_BadCount___init__) (defScope s_p_BadCount___init__) .none kV107 dc107 pm107 an107 cd107 ct107), sl107⟩) (c107_ : PySem.W.codeIn K cd107 "BadCount.__init__" = true) (k107 : PySem.W.keepIn K (.ref f107) = true)
    (tI107 : PySem.W.typeIn K (.ref f107) = some (.type "function")) (kC107 : PySem.W.keepIn K (.ref C107) = true) (eC107 : PySem.W.subIn K (.ref C107) (.type "BaseException") = some true) (tC107 : PySem.W.typeIn K (.ref C107) = some (.type "type")) (hC107 : PySem.W.hasDictIn K C107 = true) (sC107 : PySem.W.subIn K (.ref C107) (.ref CP) = some true)
    {C108 N108 : Addr} {nm108 q108 : Str} {bs108 bm108 sub108 : List Value} {sn108 : List Str} {ab108 : Bool} {col108 : Option Bool} {dd108 : Option Addr} {m0108 m1108 m2108 m3108 m5108 : Option Value}
    (aC108 : PySem.W.nsIn K mainGlobals "Nobody" = some (some (.ref C108))) (xL108 : K.lookup C108 = some (excClassObj nm108 q108 C108 N108 bs108 bm108 true sn108 sub108 ab108 col108 dd108 m0108 m1108 m2108 m3108 m5108 "ValueError.__new__")) (rv108 : PySem.HandSPX.refsVE bm108 = true)
    (sa108 : PySem.W.findIn K (.ref C108) "__setattr__" = some (some (.builtin "object.__setattr__"))) (ga108 : PySem.W.findIn K (.ref C108) "__getattribute__" = some (some (.builtin "BaseException.__getattribute__"))) (gg108 : PySem.W.findIn K (.ref C108) "__getattr__" = some none) (nw108 : PySem.W.findIn K (.ref C108) "word" = some none)
    {f108 : Addr} {od108 an108 : Option Addr} {sl108 : Array (Option Value)} {oc108 kV108 dc108 pm108 ct108 : Value} {cd108 : Value} (a108 : PySem.W.findIn K (.ref C108) "__init__" = some (some (.ref f108))) (l108 : K.lookup f108 = some ⟨oc108, od108, .func (PySem.W.fnOf "__init__" "Nobody.__init__" (defArgs s_p_Nobody___init__) (defBody s_p_Nobody___init__) (defScope s_p_Nobody___init__) .none kV108 dc108 pm108 an108 cd108 ct108), sl108⟩) (c108_ : PySem.W.codeIn K cd108 "Nobody.__init__" = true) (k108 : PySem.W.keepIn K (.ref f108) = true)
    (tI108 : PySem.W.typeIn K (.ref f108) = some (.type "function")) (kC108 : PySem.W.keepIn K (.ref C108) = true) (eC108 : PySem.W.subIn K (.ref C108) (.type "BaseException") = some true) (tC108 : PySem.W.typeIn K (.ref C108) = some (.type "type")) (hC108 : PySem.W.hasDictIn K C108 = true) (sC108 : PySem.W.subIn K (.ref C108) (.ref CP) = some true)
    {C109 N109 : Addr} {nm109 q109 : Str} {bs109 bm109 sub109 : List Value} {sn109 : List Str} {ab109 : Bool} {col109 : Option Bool} {dd109 : Option Addr} {m0109 m1109 m2109 m3109 m5109 : Option Value}
    (aC109 : PySem.W.nsIn K mainGlobals "BadPlace" = some (some (.ref C109))) (xL109 : K.lookup C109 = some (excClassObj nm109 q109 C109 N109 bs109 bm109 true sn109 sub109 ab109 col109 dd109 m0109 m1109 m2109 m3109 m5109 "ValueError.__new__")) (rv109 : PySem.HandSPX.refsVE bm109 = true)
    (sa109 : PySem.W.findIn K (.ref C109) "__setattr__" = some (some (.builtin "object.__setattr__"))) (ga109 : PySem.W.findIn K (.ref C109) "__getattribute__" = some (some (.builtin "BaseException.__getattribute__"))) (gg109 : PySem.W.findIn K (.ref C109) "__getattr__" = some none) (nw109 : PySem.W.findIn K (.ref C109) "word" = some none)
    {f109 : Addr} {od109 an109 : Option Addr} {sl109 : Array (Option Value)} {oc109 kV109 dc109 pm109 ct109 : Value} {cd109 : Value} (a109 : PySem.W.findIn K (.ref C109) "__init__" = some (some (.ref f109))) (l109 : K.lookup f109 = some ⟨oc109, od109, .func (PySem.W.fnOf "__init__" "BadPlace.__init__" (defArgs s_p_BadPlace___init__) (defBody s_p_BadPlace___init__) (defScope s_p_BadPlace___init__) .none kV109 dc109 pm109 an109 cd109 ct109), sl109⟩) (c109_ : PySem.W.codeIn K cd109 "BadPlace.__init__" = true) (k109 : PySem.W.keepIn K (.ref f109) = true)
    (tI109 : PySem.W.typeIn K (.ref f109) = some (.type "function")) (kC109 : PySem.W.keepIn K (.ref C109) = true) (eC109 : PySem.W.subIn K (.ref C109) (.type "BaseException") = some true) (tC109 : PySem.W.typeIn K (.ref C109) = some (.type "type")) (hC109 : PySem.W.hasDictIn K C109 = true) (sC109 : PySem.W.subIn K (.ref C109) (.ref CP) = some true)
    {C110 N110 : Addr} {nm110 q110 : Str} {bs110 bm110 sub110 : List Value} {sn110 : List Str} {ab110 : Bool} {col110 : Option Bool} {dd110 : Option Addr} {m0110 m1110 m2110 m3110 m5110 : Option Value}
    (aC110 : PySem.W.nsIn K mainGlobals "NotRising" = some (some (.ref C110))) (xL110 : K.lookup C110 = some (excClassObj nm110 q110 C110 N110 bs110 bm110 true sn110 sub110 ab110 col110 dd110 m0110 m1110 m2110 m3110 m5110 "ValueError.__new__")) (rv110 : PySem.HandSPX.refsVE bm110 = true)
    (sa110 : PySem.W.findIn K (.ref C110) "__setattr__" = some (some (.builtin "object.__setattr__"))) (ga110 : PySem.W.findIn K (.ref C110) "__getattribute__" = some (some (.builtin "BaseException.__getattribute__"))) (gg110 : PySem.W.findIn K (.ref C110) "__getattr__" = some none) (nw110 : PySem.W.findIn K (.ref C110) "word" = some none)
    {f110 : Addr} {od110 an110 : Option Addr} {sl110 : Array (Option Value)} {oc110 kV110 dc110 pm110 ct110 : Value} {cd110 : Value} (a110 : PySem.W.findIn K (.ref C110) "__init__" = some (some (.ref f110))) (l110 : K.lookup f110 = some ⟨oc110, od110, .func (PySem.W.fnOf "__init__" "NotRising.__init__" (defArgs s_p_NotRising___init__) (defBody s_p_NotRising___init__) (defScope s_p_NotRising___init__) .none kV110 dc110 pm110 an110 cd110 ct110), sl110⟩) (c110_ : PySem.W.codeIn K cd110 "NotRising.__init__" = true) (k110 : PySem.W.keepIn K (.ref f110) = true)
    (tI110 : PySem.W.typeIn K (.ref f110) = some (.type "function")) (kC110 : PySem.W.keepIn K (.ref C110) = true) (eC110 : PySem.W.subIn K (.ref C110) (.type "BaseException") = some true) (tC110 : PySem.W.typeIn K (.ref C110) = some (.type "type")) (hC110 : PySem.W.hasDictIn K C110 = true) (sC110 : PySem.W.subIn K (.ref C110) (.ref CP) = some true)
    (z_ValueError : PySem.W.nsIn K mainGlobals "ValueError" = some none)
    (z_abs : PySem.W.nsIn K mainGlobals "abs" = some none)
    (z_all : PySem.W.nsIn K mainGlobals "all" = some none)
    (z_bool : PySem.W.nsIn K mainGlobals "bool" = some none)
    (z_int : PySem.W.nsIn K mainGlobals "int" = some none)
    (z_isinstance : PySem.W.nsIn K mainGlobals "isinstance" = some none)
    (z_len : PySem.W.nsIn K mainGlobals "len" = some none)
    (z_list : PySem.W.nsIn K mainGlobals "list" = some none)
    (z_max : PySem.W.nsIn K mainGlobals "max" = some none)
    (z_min : PySem.W.nsIn K mainGlobals "min" = some none)
    (z_range : PySem.W.nsIn K mainGlobals "range" = some none)
    (z_reversed : PySem.W.nsIn K mainGlobals "reversed" = some none)
    (z_sorted : PySem.W.nsIn K mainGlobals "sorted" = some none)
    (z_str : PySem.W.nsIn K mainGlobals "str" = some none)
    (z_sum : PySem.W.nsIn K mainGlobals "sum" = some none)
    (z_tuple : PySem.W.nsIn K mainGlobals "tuple" = some none)
    (z_zip : PySem.W.nsIn K mainGlobals "zip" = some none)
    {t_MOST_HANDS : Tok} (y_MOST_HANDS : PySem.W.nsIn K mainGlobals "MOST_HANDS" = some (some (.int 8 t_MOST_HANDS)))
    {t_MOST_LETTERS : Tok} (y_MOST_LETTERS : PySem.W.nsIn K mainGlobals "MOST_LETTERS" = some (some (.int 8 t_MOST_LETTERS)))
    {t_MOST_OUTS : Tok} (y_MOST_OUTS : PySem.W.nsIn K mainGlobals "MOST_OUTS" = some (some (.int 60 t_MOST_OUTS)))
    {t_MOST_PACE : Tok} (y_MOST_PACE : PySem.W.nsIn K mainGlobals "MOST_PACE" = some (some (.int 12 t_MOST_PACE)))
    {t_MOST_ROUNDS : Tok} (y_MOST_ROUNDS : PySem.W.nsIn K mainGlobals "MOST_ROUNDS" = some (some (.int 24 t_MOST_ROUNDS)))
    {t_MOST_STEPS_OR_TOIL : Tok} (y_MOST_STEPS_OR_TOIL : PySem.W.nsIn K mainGlobals "MOST_STEPS_OR_TOIL" = some (some (.int 9 t_MOST_STEPS_OR_TOIL)))
    {t_MOST_STRETCHES : Tok} (y_MOST_STRETCHES : PySem.W.nsIn K mainGlobals "MOST_STRETCHES" = some (some (.int 6 t_MOST_STRETCHES)))
    {a_NOUGHT : Addr} {od_NOUGHT : Option Addr} {its_NOUGHT : Array Value} {n_NOUGHT : Nat} {sl_NOUGHT : Array (Option Value)} (y_NOUGHT : PySem.W.nsIn K mainGlobals "NOUGHT" = some (some (.ref a_NOUGHT))) (x_NOUGHT : K.lookup a_NOUGHT = some ⟨.type "tuple", od_NOUGHT, .seq its_NOUGHT n_NOUGHT, sl_NOUGHT⟩) (w_NOUGHT : its_NOUGHT.size ≤ sizeLine ∧ Vals [.int 0, .int 1] its_NOUGHT.toList)
    {a_ONE : Addr} {od_ONE : Option Addr} {its_ONE : Array Value} {n_ONE : Nat} {sl_ONE : Array (Option Value)} (y_ONE : PySem.W.nsIn K mainGlobals "ONE" = some (some (.ref a_ONE))) (x_ONE : K.lookup a_ONE = some ⟨.type "tuple", od_ONE, .seq its_ONE n_ONE, sl_ONE⟩) (w_ONE : its_ONE.size ≤ sizeLine ∧ Vals [.int 1, .int 1] its_ONE.toList)
    (ndT : ([P17, P40, P42] : List Addr).Nodup)
    : LamX.LawAtS l w K (L2.CX l.prog w) 14 63 "_law_script" mg fa h := by
  have e := hfa.symm.trans (PySem.W.mg_of X G a59)
  cases e
  have hnT : (([(P17, none), (P40, none), (P42, none)] : Tb).map (·.1)).Nodup := ndT
  have T1 := fun_mk (st := s_p_is_number) l1 c1_ k1
  have b1 := T1.binds (ps := ["thing"]) fun _ _ _ _ _ _ us hl => match us, hl with | [_], _ => rfl
  have T2 := fun_mk (st := s_p_is_within) l2 c2_ k2
  have b2 := T2.binds (ps := ["thing", "least", "most"]) fun _ _ _ _ _ _ us hl => match us, hl with | [_, _, _], _ => rfl
  have T3 := fun_mk (st := s_p_common_divisor) l3 c3_ k3
  have b3 := T3.binds (ps := ["one", "other"]) fun _ _ _ _ _ _ us hl => match us, hl with | [_, _], _ => rfl
  have T4 := fun_mk (st := s_p_amount) l4 c4_ k4
  have b4 := T4.binds (ps := ["num", "den"]) fun _ _ _ _ _ _ us hl => match us, hl with | [_, _], _ => rfl
  have T5 := fun_mk (st := s_p_plus) l5 c5_ k5
  have b5 := T5.binds (ps := ["one", "other"]) fun _ _ _ _ _ _ us hl => match us, hl with | [_, _], _ => rfl
  have T6 := fun_mk (st := s_p_minus) l6 c6_ k6
  have b6 := T6.binds (ps := ["one", "other"]) fun _ _ _ _ _ _ us hl => match us, hl with | [_, _], _ => rfl
  have T7 := fun_mk (st := s_p_times) l7 c7_ k7
  have b7 := T7.binds (ps := ["one", "other"]) fun _ _ _ _ _ _ us hl => match us, hl with | [_, _], _ => rfl
  have T8 := fun_mk (st := s_p_over) l8 c8_ k8
  have b8 := T8.binds (ps := ["one", "other"]) fun _ _ _ _ _ _ us hl => match us, hl with | [_, _], _ => rfl
  have T9 := fun_mk (st := s_p_below) l9 c9_ k9
  have b9 := T9.binds (ps := ["one", "other"]) fun _ _ _ _ _ _ us hl => match us, hl with | [_, _], _ => rfl
  have T10 := fun_mk (st := s_p_lesser) l10 c10_ k10
  have b10 := T10.binds (ps := ["one", "other"]) fun _ _ _ _ _ _ us hl => match us, hl with | [_, _], _ => rfl
  have T11 := fun_mk (st := s_l_cell) l11 c11_ k11
  have b11 := T11.binds (ps := ["_law_script", "_law_k"]) fun _ _ _ _ _ _ us hl => match us, hl with | [_, _], _ => rfl
  have T12 := fun_mk (st := s_l_draws) l12 c12_ k12
  have b12 := T12.binds (ps := ["_law_cell_here", "_law_parts"]) fun _ _ _ _ _ _ us hl => match us, hl with | [_, _], _ => rfl
  have T13 := fun_mk (st := s_l_many) l13 c13_ k13
  have b13 := T13.binds (ps := ["_law_script", "_law_few"]) fun _ _ _ _ _ _ us hl => match us, hl with | [_, _], _ => rfl
  have T14 := fun_mk (st := s_p_check_pace) l14 c14_ k14
  have b14 := T14.binds (ps := ["pace"]) fun _ _ _ _ _ _ us hl => match us, hl with | [_], _ => rfl
  have T15 := fun_mk (st := s_p_check_paces) l15 c15_ k15
  have b15 := T15.binds (ps := ["paces", "most"]) fun _ _ _ _ _ _ us hl => match us, hl with | [_, _], _ => rfl
  have T16 := fun_mk (st := s_p_check_rising) l16 c16_ k16
  have b16 := T16.binds (ps := ["paces"]) fun _ _ _ _ _ _ us hl => match us, hl with | [_], _ => rfl
  have T17 : FunC K "is_name" "is_name" s_p_is_name f17 _ c17 := ⟨⟨oc17, od17, kV17, dc17, pm17, an17, ct17, sl17, rfl, l17, c17_⟩, k17⟩
  have b17 := T17.binds (ps := ["text"]) fun _ _ _ _ _ us hl => match us, hl with | [_], _ => rfl
  have T18 := fun_mk (st := s_p_check_name) l18 c18_ k18
  have b18 := T18.binds (ps := ["name"]) fun _ _ _ _ _ _ us hl => match us, hl with | [_], _ => rfl
  have T19 := fun_mk (st := s_p_Chain_take_pail) l19 c19_ k19
  have b19 := T19.binds (ps := ["self"]) fun _ _ _ _ _ _ us hl => match us, hl with | [_], _ => rfl
  have T20 := fun_mk (st := s_p_Chain_enter) l20 c20_ k20
  have b20 := T20.binds (ps := ["self", "name", "pace"]) fun _ _ _ _ _ _ us hl => match us, hl with | [_, _, _], _ => rfl
  have T21 := fun_mk (st := s_p_Chain_hands) l21 c21_ k21
  have b21 := T21.binds (ps := ["self"]) fun _ _ _ _ _ _ us hl => match us, hl with | [_], _ => rfl
  have T22 := fun_mk (st := s_p_Chain_emptied) l22 c22_ k22
  have b22 := T22.binds (ps := ["self"]) fun _ _ _ _ _ _ us hl => match us, hl with | [_], _ => rfl
  have T23 := fun_mk (st := s_p_Chain_pails) l23 c23_ k23
  have b23 := T23.binds (ps := ["self"]) fun _ _ _ _ _ _ us hl => match us, hl with | [_], _ => rfl
  have T24 := fun_mk (st := s_p_Chain_number_of) l24 c24_ k24
  have b24 := T24.binds (ps := ["self", "name"]) fun _ _ _ _ _ _ us hl => match us, hl with | [_, _], _ => rfl
  have T25 := fun_mk (st := s_p_Chain_place) l25 c25_ k25
  have b25 := T25.binds (ps := ["self", "name"]) fun _ _ _ _ _ _ us hl => match us, hl with | [_, _], _ => rfl
  have T26 := fun_mk (st := s_p_Chain_ledger) l26 c26_ k26
  have b26 := T26.binds (ps := ["self", "name"]) fun _ _ _ _ _ _ us hl => match us, hl with | [_, _], _ => rfl
  have T27 := fun_mk (st := s_p_Chain_paces) l27 c27_ k27
  have b27 := T27.binds (ps := ["self"]) fun _ _ _ _ _ _ us hl => match us, hl with | [_], _ => rfl
  have T28 := fun_mk (st := s_p_speeds) l28 c28_ k28
  have b28 := T28.binds (ps := ["paces", "places"]) fun _ _ _ _ _ _ us hl => match us, hl with | [_, _], _ => rfl
  have T29 := fun_mk (st := s_p_hours_at) l29 c29_ k29
  have b29 := T29.binds (ps := ["gap", "speed"]) fun _ _ _ _ _ _ us hl => match us, hl with | [_, _], _ => rfl
  have T30 := fun_mk (st := s_p_meeting) l30 c30_ k30
  have b30 := T30.binds (ps := ["labour", "paces", "places"]) fun _ _ _ _ _ _ us hl => match us, hl with | [_, _, _], _ => rfl
  have T31 := fun_mk (st := s_p_walked) l31 c31_ k31
  have b31 := T31.binds (ps := ["paces", "places", "hours"]) fun _ _ _ _ _ _ us hl => match us, hl with | [_, _, _], _ => rfl
  have T32 := fun_mk (st := s_p_ledger_on) l32 c32_ k32
  have b32 := T32.binds (ps := ["ledger", "pace", "speed", "hours"]) fun _ _ _ _ _ _ us hl => match us, hl with | [_, _, _, _], _ => rfl
  have T33 := fun_mk (st := s_p_Chain_till_meeting) l33 c33_ k33
  have b33 := T33.binds (ps := ["self"]) fun _ _ _ _ _ _ us hl => match us, hl with | [_], _ => rfl
  have T34 := fun_mk (st := s_p_Chain_walk) l34 c34_ k34
  have b34 := T34.binds (ps := ["self", "hours"]) fun _ _ _ _ _ _ us hl => match us, hl with | [_, _], _ => rfl
  have T35 := fun_mk (st := s_p_Chain_mark) l35 c35_ k35
  have b35 := T35.binds (ps := ["self", "at"]) fun _ _ _ _ _ _ us hl => match us, hl with | [_, _], _ => rfl
  have T36 := fun_mk (st := s_p_Chain_mark_from) l36 c36_ k36
  have b36 := T36.binds (ps := ["self", "first"]) fun _ _ _ _ _ _ us hl => match us, hl with | [_, _], _ => rfl
  have T37 := fun_mk (st := s_p_Chain_next_leaver) l37 c37_ k37
  have b37 := T37.binds (ps := ["self"]) fun _ _ _ _ _ _ us hl => match us, hl with | [_], _ => rfl
  have T38 := fun_mk (st := s_p_Chain_turn) l38 c38_ k38
  have b38 := T38.binds (ps := ["self"]) fun _ _ _ _ _ _ us hl => match us, hl with | [_], _ => rfl
  have T39 := fun_mk (st := s_p_Chain_turns) l39 c39_ k39
  have b39 := T39.binds (ps := ["self"]) fun _ _ _ _ _ _ us hl => match us, hl with | [_], _ => rfl
  have T40 : FunC K "is_stretch" "is_stretch" s_p_is_stretch f40 _ c40 := ⟨⟨oc40, od40, kV40, dc40, pm40, an40, ct40, sl40, rfl, l40, c40_⟩, k40⟩
  have b40 := T40.binds (ps := ["thing"]) fun _ _ _ _ _ us hl => match us, hl with | [_], _ => rfl
  have T41 := fun_mk (st := s_p_check_way) l41 c41_ k41
  have b41 := T41.binds (ps := ["way"]) fun _ _ _ _ _ _ us hl => match us, hl with | [_], _ => rfl
  have T42 : FunC K "labour" "labour" s_p_labour f42 _ c42 := ⟨⟨oc42, od42, kV42, dc42, pm42, an42, ct42, sl42, rfl, l42, c42_⟩, k42⟩
  have b42 := T42.binds (ps := ["way"]) fun _ _ _ _ _ us hl => match us, hl with | [_], _ => rfl
  have T43 := fun_mk (st := s_p_Chain___init__) l43 c43_ k43
  have b43 := T43.binds (ps := ["self", "way"]) fun _ _ _ _ _ _ us hl => match us, hl with | [_, _], _ => rfl
  have T44 := fun_mk (st := s_p_Chain_outs) l44 c44_ k44
  have b44 := T44.binds (ps := ["self", "count"]) fun _ _ _ _ _ _ us hl => match us, hl with | [_, _], _ => rfl
  have T45 := fun_mk (st := s_l_split) l45 c45_ k45
  have b45 := T45.binds (ps := ["_law_cell_here", "_law_many_here"]) fun _ _ _ _ _ _ us hl => match us, hl with | [_, _], _ => rfl
  have T46 := fun_mk (st := s_l_gcd) l46 c46_ k46
  have b46 := T46.binds (ps := ["_law_one", "_law_other"]) fun _ _ _ _ _ _ us hl => match us, hl with | [_, _], _ => rfl
  have T47 := fun_mk (st := s_l_amt) l47 c47_ k47
  have b47 := T47.binds (ps := ["_law_num", "_law_den"]) fun _ _ _ _ _ _ us hl => match us, hl with | [_, _], _ => rfl
  have T48 := fun_mk (st := s_l_same) l48 c48_ k48
  have b48 := T48.binds (ps := ["_law_found", "_law_due"]) fun _ _ _ _ _ _ us hl => match us, hl with | [_, _], _ => rfl
  have T49 := fun_mk (st := s_l_way) l49 c49_ k49
  have b49 := T49.binds (ps := ["_law_cell_here"]) fun _ _ _ _ _ _ us hl => match us, hl with | [_], _ => rfl
  have T50 := fun_mk (st := s_l_labour) l50 c50_ k50
  have b50 := T50.binds (ps := ["_law_way_here"]) fun _ _ _ _ _ _ us hl => match us, hl with | [_], _ => rfl
  have T51 := fun_mk (st := s_l_name) l51 c51_ k51
  have b51 := T51.binds (ps := ["_law_k", "_law_salt"]) fun _ _ _ _ _ _ us hl => match us, hl with | [_, _], _ => rfl
  have T52 := fun_mk (st := s_l_rising_of) l52 c52_ k52
  have b52 := T52.binds (ps := ["_law_cell_here"]) fun _ _ _ _ _ _ us hl => match us, hl with | [_], _ => rfl
  have T53 := fun_mk (st := s_p_check_rounds) l53 c53_ k53
  have b53 := T53.binds (ps := ["rounds"]) fun _ _ _ _ _ _ us hl => match us, hl with | [_], _ => rfl
  have T54 := fun_mk (st := s_p_mixed) l54 c54_ k54
  have b54 := T54.binds (ps := ["part", "before", "last"]) fun _ _ _ _ _ _ us hl => match us, hl with | [_, _, _], _ => rfl
  have T55 := fun_mk (st := s_p_behind_one) l55 c55_ k55
  have b55 := T55.binds (ps := ["paces", "found"]) fun _ _ _ _ _ _ us hl => match us, hl with | [_, _], _ => rfl
  have T56 := fun_mk (st := s_p_behind) l56 c56_ k56
  have b56 := T56.binds (ps := ["paces", "found", "rounds"]) fun _ _ _ _ _ _ us hl => match us, hl with | [_, _, _], _ => rfl
  have T57 := fun_mk (st := s_p_check_places) l57 c57_ k57
  have b57 := T57.binds (ps := ["places", "fire"]) fun _ _ _ _ _ _ us hl => match us, hl with | [_, _], _ => rfl
  have T58 := fun_mk (st := s_p_shares) l58 c58_ k58
  have b58 := T58.binds (ps := ["way", "paces", "places"]) fun _ _ _ _ _ _ us hl => match us, hl with | [_, _, _], _ => rfl
  have T59 := fun_mk (st := s_LAW) l59 c59_ k59
  have T100 := fun_mk (st := s_p_PailError___init__) l100 c100_ k100
  have b100 := T100.binds (ps := ["self", "word"]) fun _ _ _ _ _ _ us hl => match us, hl with | [_, _], _ => rfl
  have T101 := fun_mk (st := s_p_BadWay___init__) l101 c101_ k101
  have b101 := T101.binds (ps := ["self"]) fun _ _ _ _ _ _ us hl => match us, hl with | [_], _ => rfl
  have T102 := fun_mk (st := s_p_BadName___init__) l102 c102_ k102
  have b102 := T102.binds (ps := ["self"]) fun _ _ _ _ _ _ us hl => match us, hl with | [_], _ => rfl
  have T103 := fun_mk (st := s_p_Taken___init__) l103 c103_ k103
  have b103 := T103.binds (ps := ["self"]) fun _ _ _ _ _ _ us hl => match us, hl with | [_], _ => rfl
  have T104 := fun_mk (st := s_p_BadPace___init__) l104 c104_ k104
  have b104 := T104.binds (ps := ["self"]) fun _ _ _ _ _ _ us hl => match us, hl with | [_], _ => rfl
  have T105 := fun_mk (st := s_p_Full___init__) l105 c105_ k105
  have b105 := T105.binds (ps := ["self"]) fun _ _ _ _ _ _ us hl => match us, hl with | [_], _ => rfl
  have T106 := fun_mk (st := s_p_NoHand___init__) l106 c106_ k106
  have b106 := T106.binds (ps := ["self"]) fun _ _ _ _ _ _ us hl => match us, hl with | [_], _ => rfl
  have T107 := fun_mk (st := s_p_BadCount___init__) l107 c107_ k107
  have b107 := T107.binds (ps := ["self"]) fun _ _ _ _ _ _ us hl => match us, hl with | [_], _ => rfl
  have T108 := fun_mk (st := s_p_Nobody___init__) l108 c108_ k108
  have b108 := T108.binds (ps := ["self"]) fun _ _ _ _ _ _ us hl => match us, hl with | [_], _ => rfl
  have T109 := fun_mk (st := s_p_BadPlace___init__) l109 c109_ k109
  have b109 := T109.binds (ps := ["self"]) fun _ _ _ _ _ _ us hl => match us, hl with | [_], _ => rfl
  have T110 := fun_mk (st := s_p_NotRising___init__) l110 c110_ k110
  have b110 := T110.binds (ps := ["self"]) fun _ _ _ _ _ _ us hl => match us, hl with | [_], _ => rfl
  have B : Bn mg := ⟨PySem.W.mg_none_of X G z_ValueError, PySem.W.mg_none_of X G z_abs, PySem.W.mg_none_of X G z_all, PySem.W.mg_none_of X G z_bool, PySem.W.mg_none_of X G z_int, PySem.W.mg_none_of X G z_isinstance, PySem.W.mg_none_of X G z_len, PySem.W.mg_none_of X G z_list, PySem.W.mg_none_of X G z_max, PySem.W.mg_none_of X G z_min, PySem.W.mg_none_of X G z_range, PySem.W.mg_none_of X G z_reversed, PySem.W.mg_none_of X G z_sorted, PySem.W.mg_none_of X G z_str, PySem.W.mg_none_of X G z_sum, PySem.W.mg_none_of X G z_tuple, PySem.W.mg_none_of X G z_zip⟩
  have H17 := tabs _ _ _ r17 (tab_in a17 l17 rfl rfl v17 p17)
  have H40 := tabs _ _ _ r40 (tab_in a40 l40 rfl rfl v40 p40)
  have H42 := tabs _ _ _ r42 (tab_in a42 l42 rfl rfl v42 p42)
  refine ⟨PySem.W.fnOf "law" "law" (defArgs s_LAW) (defBody s_LAW) (defScope s_LAW) .none kV59 dc59 pm59 an59 cd59 ct59, [(c17, P17), (c40, P40), (c42, P42)], sp_LAW K [(P17, none), (P40, none), (P42, none)] CP CC, ?_, ?_, ?_, fun s v => .of_eq rfl, ?_, fun base _ _ TBs => ?_⟩
  · intro p hp
    simp only [List.mem_cons, List.not_mem_nil, or_false] at hp
    rcases hp with rfl | rfl | rfl
    · exact H17.2
    · exact H40.2
    · exact H42.2
  · intro p hp
    simp only [List.mem_cons, List.not_mem_nil, or_false] at hp
    rcases hp with rfl | rfl | rfl
    · exact n17
    · exact n40
    · exact n42
  · intro p hp
    simp only [List.mem_cons, List.not_mem_nil, or_false] at hp
    rcases hp with rfl | rfl | rfl
    · exact H17.1
    · exact H40.1
    · exact H42.1
  · intro H a ns hlen hbits hT hS
    refine ⟨a, ns, rfl, hS, hlen, hbits, ?_, fun _ => rfl⟩
    intro p hp
    simp only [List.mem_cons, List.not_mem_nil, or_false] at hp
    rcases hp with rfl | rfl | rfl
    · exact okG0 (hT (c17, P17) (by simp))
    · exact okG0 (hT (c40, P40) (by simp))
    · exact okG0 (hT (c42, P42) (by simp))
  have B17 : LamX.TabB base mg c17 P17 := TBs (c17, P17) (by simp)
  have B40 : LamX.TabB base mg c40 P40 := TBs (c40, P40) (by simp)
  have B42 : LamX.TabB base mg c42 P42 := TBs (c42, P42) (by simp)
  have okP := ok_PailError (P := l.prog) (w := w) (mg := mg) (base := base) T100 (PySem.W.mg_none_of X G z_ValueError) vV
  have R_BadWay : Err l.prog w K mg base CP "BadWay" "bad way" := ⟨⟨C101, f101, _, PySem.W.mg_of X G aC101, ⟨⟨nm101, q101, N101, bs101, bm101, sn101, sub101, ab101, col101, dd101, m0101, m1101, m2101, m3101, m5101, xL101, rv101⟩, sa101, eC101, tC101, kC101⟩, ⟨ga101, gg101, eC101, hC101⟩, nw101, exm_of e1P e2P e3P sC101, a101, tI101, ok_BadWay T101 ⟨rdP, gaP⟩ a100 okP (PySem.W.mg_of X G aCP) k100 b100, b101⟩⟩
  have R_BadName : Err l.prog w K mg base CP "BadName" "bad name" := ⟨⟨C102, f102, _, PySem.W.mg_of X G aC102, ⟨⟨nm102, q102, N102, bs102, bm102, sn102, sub102, ab102, col102, dd102, m0102, m1102, m2102, m3102, m5102, xL102, rv102⟩, sa102, eC102, tC102, kC102⟩, ⟨ga102, gg102, eC102, hC102⟩, nw102, exm_of e1P e2P e3P sC102, a102, tI102, ok_BadName T102 ⟨rdP, gaP⟩ a100 okP (PySem.W.mg_of X G aCP) k100 b100, b102⟩⟩
  have R_Taken : Err l.prog w K mg base CP "Taken" "taken" := ⟨⟨C103, f103, _, PySem.W.mg_of X G aC103, ⟨⟨nm103, q103, N103, bs103, bm103, sn103, sub103, ab103, col103, dd103, m0103, m1103, m2103, m3103, m5103, xL103, rv103⟩, sa103, eC103, tC103, kC103⟩, ⟨ga103, gg103, eC103, hC103⟩, nw103, exm_of e1P e2P e3P sC103, a103, tI103, ok_Taken T103 ⟨rdP, gaP⟩ a100 okP (PySem.W.mg_of X G aCP) k100 b100, b103⟩⟩
  have R_BadPace : Err l.prog w K mg base CP "BadPace" "bad pace" := ⟨⟨C104, f104, _, PySem.W.mg_of X G aC104, ⟨⟨nm104, q104, N104, bs104, bm104, sn104, sub104, ab104, col104, dd104, m0104, m1104, m2104, m3104, m5104, xL104, rv104⟩, sa104, eC104, tC104, kC104⟩, ⟨ga104, gg104, eC104, hC104⟩, nw104, exm_of e1P e2P e3P sC104, a104, tI104, ok_BadPace T104 ⟨rdP, gaP⟩ a100 okP (PySem.W.mg_of X G aCP) k100 b100, b104⟩⟩
  have R_Full : Err l.prog w K mg base CP "Full" "full" := ⟨⟨C105, f105, _, PySem.W.mg_of X G aC105, ⟨⟨nm105, q105, N105, bs105, bm105, sn105, sub105, ab105, col105, dd105, m0105, m1105, m2105, m3105, m5105, xL105, rv105⟩, sa105, eC105, tC105, kC105⟩, ⟨ga105, gg105, eC105, hC105⟩, nw105, exm_of e1P e2P e3P sC105, a105, tI105, ok_Full T105 ⟨rdP, gaP⟩ a100 okP (PySem.W.mg_of X G aCP) k100 b100, b105⟩⟩
  have R_NoHand : Err l.prog w K mg base CP "NoHand" "no hand" := ⟨⟨C106, f106, _, PySem.W.mg_of X G aC106, ⟨⟨nm106, q106, N106, bs106, bm106, sn106, sub106, ab106, col106, dd106, m0106, m1106, m2106, m3106, m5106, xL106, rv106⟩, sa106, eC106, tC106, kC106⟩, ⟨ga106, gg106, eC106, hC106⟩, nw106, exm_of e1P e2P e3P sC106, a106, tI106, ok_NoHand T106 ⟨rdP, gaP⟩ a100 okP (PySem.W.mg_of X G aCP) k100 b100, b106⟩⟩
  have R_BadCount : Err l.prog w K mg base CP "BadCount" "bad count" := ⟨⟨C107, f107, _, PySem.W.mg_of X G aC107, ⟨⟨nm107, q107, N107, bs107, bm107, sn107, sub107, ab107, col107, dd107, m0107, m1107, m2107, m3107, m5107, xL107, rv107⟩, sa107, eC107, tC107, kC107⟩, ⟨ga107, gg107, eC107, hC107⟩, nw107, exm_of e1P e2P e3P sC107, a107, tI107, ok_BadCount T107 ⟨rdP, gaP⟩ a100 okP (PySem.W.mg_of X G aCP) k100 b100, b107⟩⟩
  have R_Nobody : Err l.prog w K mg base CP "Nobody" "nobody" := ⟨⟨C108, f108, _, PySem.W.mg_of X G aC108, ⟨⟨nm108, q108, N108, bs108, bm108, sn108, sub108, ab108, col108, dd108, m0108, m1108, m2108, m3108, m5108, xL108, rv108⟩, sa108, eC108, tC108, kC108⟩, ⟨ga108, gg108, eC108, hC108⟩, nw108, exm_of e1P e2P e3P sC108, a108, tI108, ok_Nobody T108 ⟨rdP, gaP⟩ a100 okP (PySem.W.mg_of X G aCP) k100 b100, b108⟩⟩
  have R_BadPlace : Err l.prog w K mg base CP "BadPlace" "bad place" := ⟨⟨C109, f109, _, PySem.W.mg_of X G aC109, ⟨⟨nm109, q109, N109, bs109, bm109, sn109, sub109, ab109, col109, dd109, m0109, m1109, m2109, m3109, m5109, xL109, rv109⟩, sa109, eC109, tC109, kC109⟩, ⟨ga109, gg109, eC109, hC109⟩, nw109, exm_of e1P e2P e3P sC109, a109, tI109, ok_BadPlace T109 ⟨rdP, gaP⟩ a100 okP (PySem.W.mg_of X G aCP) k100 b100, b109⟩⟩
  have R_NotRising : Err l.prog w K mg base CP "NotRising" "not rising" := ⟨⟨C110, f110, _, PySem.W.mg_of X G aC110, ⟨⟨nm110, q110, N110, bs110, bm110, sn110, sub110, ab110, col110, dd110, m0110, m1110, m2110, m3110, m5110, xL110, rv110⟩, sa110, eC110, tC110, kC110⟩, ⟨ga110, gg110, eC110, hC110⟩, nw110, exm_of e1P e2P e3P sC110, a110, tI110, ok_NotRising T110 ⟨rdP, gaP⟩ a100 okP (PySem.W.mg_of X G aCP) k100 b100, b110⟩⟩
  have TC : Kl K CC := ⟨⟨pgC, hdC, poC, saC⟩, fun f hf => by
    simp only [FLD, List.mem_cons, List.not_mem_nil, or_false] at hf
    rcases hf with rfl | rfl | rfl | rfl | rfl | rfl | rfl | rfl | rfl | rfl | rfl <;> assumption⟩
  have F_p_common_divisor : Fn l.prog w K mg base 1 "common_divisor" ["one", "other"] (sp_p_common_divisor K [(P17, none), (P40, none), (P42, none)]) := Fn.mk' (ok_p_common_divisor (T := [(P17, none), (P40, none), (P42, none)]) T3    ) (PySem.W.mg_of X G a3) k3 b3
  have F_p_amount : Fn l.prog w K mg base 2 "amount" ["num", "den"] (sp_p_amount K [(P17, none), (P40, none), (P42, none)]) := Fn.mk' (ok_p_amount (T := [(P17, none), (P40, none), (P42, none)]) T4 B   F_p_common_divisor ) (PySem.W.mg_of X G a4) k4 b4
  have F_p_plus : Fn l.prog w K mg base 3 "plus" ["one", "other"] (sp_p_plus K [(P17, none), (P40, none), (P42, none)]) := Fn.mk' (ok_p_plus (T := [(P17, none), (P40, none), (P42, none)]) T5   F_p_amount ) (PySem.W.mg_of X G a5) k5 b5
  have F_p_minus : Fn l.prog w K mg base 3 "minus" ["one", "other"] (sp_p_minus K [(P17, none), (P40, none), (P42, none)]) := Fn.mk' (ok_p_minus (T := [(P17, none), (P40, none), (P42, none)]) T6   F_p_amount ) (PySem.W.mg_of X G a6) k6 b6
  have F_p_times : Fn l.prog w K mg base 3 "times" ["one", "other"] (sp_p_times K [(P17, none), (P40, none), (P42, none)]) := Fn.mk' (ok_p_times (T := [(P17, none), (P40, none), (P42, none)]) T7   F_p_amount ) (PySem.W.mg_of X G a7) k7 b7
  have F_p_over : Fn l.prog w K mg base 3 "over" ["one", "other"] (sp_p_over K [(P17, none), (P40, none), (P42, none)]) := Fn.mk' (ok_p_over (T := [(P17, none), (P40, none), (P42, none)]) T8   F_p_amount ) (PySem.W.mg_of X G a8) k8 b8
  have F_p_below : Fn l.prog w K mg base 1 "below" ["one", "other"] (sp_p_below K [(P17, none), (P40, none), (P42, none)]) := Fn.mk' (ok_p_below (T := [(P17, none), (P40, none), (P42, none)]) T9    ) (PySem.W.mg_of X G a9) k9 b9
  have F_p_lesser : Fn l.prog w K mg base 2 "lesser" ["one", "other"] (sp_p_lesser K [(P17, none), (P40, none), (P42, none)]) := Fn.mk' (ok_p_lesser (T := [(P17, none), (P40, none), (P42, none)]) T10   F_p_below ) (PySem.W.mg_of X G a10) k10 b10
  have F_l_cell : Fn l.prog w K mg base 1 "_law_cell" ["_law_script", "_law_k"] (sp_l_cell K [(P17, none), (P40, none), (P42, none)]) := Fn.mk' (ok_l_cell (T := [(P17, none), (P40, none), (P42, none)]) T11 B    ) (PySem.W.mg_of X G a11) k11 b11
  have F_l_draws : Fn l.prog w K mg base 1 "_law_draws" ["_law_cell_here", "_law_parts"] (sp_l_draws K [(P17, none), (P40, none), (P42, none)]) := Fn.mk' (ok_l_draws (T := [(P17, none), (P40, none), (P42, none)]) T12    ) (PySem.W.mg_of X G a12) k12 b12
  have F_l_many : Fn l.prog w K mg base 1 "_law_many" ["_law_script", "_law_few"] (sp_l_many K [(P17, none), (P40, none), (P42, none)]) := Fn.mk' (ok_l_many (T := [(P17, none), (P40, none), (P42, none)]) T13 B    ) (PySem.W.mg_of X G a13) k13 b13
  have F_p_is_number : Fn l.prog w K mg base 1 "is_number" ["thing"] (sp_p_is_number K [(P17, none), (P40, none), (P42, none)]) := Fn.mk' (ok_p_is_number (T := [(P17, none), (P40, none), (P42, none)]) T1 B    ) (PySem.W.mg_of X G a1) k1 b1
  have F_p_is_within : Fn l.prog w K mg base 2 "is_within" ["thing", "least", "most"] (sp_p_is_within K [(P17, none), (P40, none), (P42, none)]) := Fn.mk' (ok_p_is_within (T := [(P17, none), (P40, none), (P42, none)]) T2   F_p_is_number ) (PySem.W.mg_of X G a2) k2 b2
  have F_p_check_pace : Fx l.prog w K mg base 4 "check_pace" ["pace"] (sp_p_check_pace K [(P17, none), (P40, none), (P42, none)] CP) := Fx.mk' (ok_p_check_pace (T := [(P17, none), (P40, none), (P42, none)]) T14 ⟨⟨_, rfl⟩, PySem.W.mg_of X G y_MOST_PACE⟩ R_BadPace F_p_is_within ) (PySem.W.mg_of X G a14) k14 b14
  have F_p_check_paces : Fx l.prog w K mg base 5 "check_paces" ["paces", "most"] (sp_p_check_paces K [(P17, none), (P40, none), (P42, none)] CP) := Fx.mk' (ok_p_check_paces (T := [(P17, none), (P40, none), (P42, none)]) T15 B  R_BadCount F_p_check_pace ) (PySem.W.mg_of X G a15) k15 b15
  have F_p_check_rising : Fx l.prog w K mg base 6 "check_rising" ["paces"] (sp_p_check_rising K [(P17, none), (P40, none), (P42, none)] CP) := Fx.mk' (ok_p_check_rising (T := [(P17, none), (P40, none), (P42, none)]) T16 B ⟨⟨_, rfl⟩, PySem.W.mg_of X G y_MOST_HANDS⟩ R_NotRising F_p_check_paces ) (PySem.W.mg_of X G a16) k16 b16
  have F_p_is_name : Fn l.prog w K mg base 1 "is_name" ["text"] (sp_p_is_name K [(P17, none), (P40, none), (P42, none)]) := Fn.mk' (ok_p_is_name (T := [(P17, none), (P40, none), (P42, none)]) T17 hnT (by simp) (gx_lam B17) B ⟨⟨_, rfl⟩, PySem.W.mg_of X G y_MOST_LETTERS⟩   ) (PySem.W.mg_of X G a17) k17 b17
  have F_p_check_name : Fx l.prog w K mg base 4 "check_name" ["name"] (sp_p_check_name K [(P17, none), (P40, none), (P42, none)] CP) := Fx.mk' (ok_p_check_name (T := [(P17, none), (P40, none), (P42, none)]) T18  R_BadName F_p_is_name ) (PySem.W.mg_of X G a18) k18 b18
  have M_take_pail : Mt l.prog w K mg base CC 1 "take_pail" ["self"] (sp_p_Chain_take_pail K [(P17, none), (P40, none), (P42, none)] CC) := ⟨⟨_, _, ok_p_Chain_take_pail (T := [(P17, none), (P40, none), (P42, none)]) T19 B (PySem.W.mg_of X G y_NOUGHT) (tup_const x_NOUGHT w_NOUGHT.1 w_NOUGHT.2)  TC  , ⟨a19, i19, k19⟩, b19⟩⟩
  have M_enter : Mx l.prog w K mg base CC 5 "enter" ["self", "name", "pace"] (sp_p_Chain_enter K [(P17, none), (P40, none), (P42, none)] CP CC) := ⟨⟨_, _, ok_p_Chain_enter (T := [(P17, none), (P40, none), (P42, none)]) T20 B ⟨⟨_, rfl⟩, PySem.W.mg_of X G y_MOST_HANDS⟩ (PySem.W.mg_of X G y_NOUGHT) (tup_const x_NOUGHT w_NOUGHT.1 w_NOUGHT.2) R_Taken R_Full TC F_p_check_pace F_p_check_name M_take_pail , ⟨a20, i20, k20⟩, b20⟩⟩
  have M_hands : Mt l.prog w K mg base CC 1 "hands" ["self"] (sp_p_Chain_hands K [(P17, none), (P40, none), (P42, none)] CC) := ⟨⟨_, _, ok_p_Chain_hands (T := [(P17, none), (P40, none), (P42, none)]) T21 B   TC  , ⟨a21, i21, k21⟩, b21⟩⟩
  have M_emptied : Mt l.prog w K mg base CC 1 "emptied" ["self"] (sp_p_Chain_emptied K [(P17, none), (P40, none), (P42, none)] CC) := ⟨⟨_, _, ok_p_Chain_emptied (T := [(P17, none), (P40, none), (P42, none)]) T22 B   TC  , ⟨a22, i22, k22⟩, b22⟩⟩
  have M_pails : Mt l.prog w K mg base CC 1 "pails" ["self"] (sp_p_Chain_pails K [(P17, none), (P40, none), (P42, none)] CC) := ⟨⟨_, _, ok_p_Chain_pails (T := [(P17, none), (P40, none), (P42, none)]) T23 B   TC  , ⟨a23, i23, k23⟩, b23⟩⟩
  have M_number_of : Mx l.prog w K mg base CC 4 "number_of" ["self", "name"] (sp_p_Chain_number_of K [(P17, none), (P40, none), (P42, none)] CP CC) := ⟨⟨_, _, ok_p_Chain_number_of (T := [(P17, none), (P40, none), (P42, none)]) T24  R_NoHand TC  , ⟨a24, i24, k24⟩, b24⟩⟩
  have M_place : Mx l.prog w K mg base CC 5 "place" ["self", "name"] (sp_p_Chain_place K [(P17, none), (P40, none), (P42, none)] CP CC) := ⟨⟨_, _, ok_p_Chain_place (T := [(P17, none), (P40, none), (P42, none)]) T25   TC M_number_of , ⟨a25, i25, k25⟩, b25⟩⟩
  have M_ledger : Mx l.prog w K mg base CC 4 "ledger" ["self", "name"] (sp_p_Chain_ledger K [(P17, none), (P40, none), (P42, none)] CP CC) := ⟨⟨_, _, ok_p_Chain_ledger (T := [(P17, none), (P40, none), (P42, none)]) T26  R_NoHand TC  , ⟨a26, i26, k26⟩, b26⟩⟩
  have M_paces : Mt l.prog w K mg base CC 1 "paces" ["self"] (sp_p_Chain_paces K [(P17, none), (P40, none), (P42, none)] CC) := ⟨⟨_, _, ok_p_Chain_paces (T := [(P17, none), (P40, none), (P42, none)]) T27   TC  , ⟨a27, i27, k27⟩, b27⟩⟩
  have F_p_speeds : Fn l.prog w K mg base 1 "speeds" ["paces", "places"] (sp_p_speeds K [(P17, none), (P40, none), (P42, none)]) := Fn.mk' (ok_p_speeds (T := [(P17, none), (P40, none), (P42, none)]) T28 B    ) (PySem.W.mg_of X G a28) k28 b28
  have F_p_hours_at : Fn l.prog w K mg base 4 "hours_at" ["gap", "speed"] (sp_p_hours_at K [(P17, none), (P40, none), (P42, none)]) := Fn.mk' (ok_p_hours_at (T := [(P17, none), (P40, none), (P42, none)]) T29   F_p_over ) (PySem.W.mg_of X G a29) k29 b29
  have F_p_meeting : Fn l.prog w K mg base 5 "meeting" ["labour", "paces", "places"] (sp_p_meeting K [(P17, none), (P40, none), (P42, none)]) := Fn.mk' (ok_p_meeting (T := [(P17, none), (P40, none), (P42, none)]) T30 B   F_p_minus F_p_lesser F_p_speeds F_p_hours_at ) (PySem.W.mg_of X G a30) k30 b30
  have F_p_walked : Fn l.prog w K mg base 4 "walked" ["paces", "places", "hours"] (sp_p_walked K [(P17, none), (P40, none), (P42, none)]) := Fn.mk' (ok_p_walked (T := [(P17, none), (P40, none), (P42, none)]) T31 B   F_p_plus F_p_times F_p_speeds ) (PySem.W.mg_of X G a31) k31 b31
  have F_p_ledger_on : Fn l.prog w K mg base 4 "ledger_on" ["ledger", "pace", "speed", "hours"] (sp_p_ledger_on K [(P17, none), (P40, none), (P42, none)]) := Fn.mk' (ok_p_ledger_on (T := [(P17, none), (P40, none), (P42, none)]) T32   F_p_plus F_p_times ) (PySem.W.mg_of X G a32) k32 b32
  have M_till_meeting : Mt l.prog w K mg base CC 6 "till_meeting" ["self"] (sp_p_Chain_till_meeting K [(P17, none), (P40, none), (P42, none)] CC) := ⟨⟨_, _, ok_p_Chain_till_meeting (T := [(P17, none), (P40, none), (P42, none)]) T33   TC M_paces F_p_meeting , ⟨a33, i33, k33⟩, b33⟩⟩
  have M_walk : Mt l.prog w K mg base CC 5 "walk" ["self", "hours"] (sp_p_Chain_walk K [(P17, none), (P40, none), (P42, none)] CC) := ⟨⟨_, _, ok_p_Chain_walk (T := [(P17, none), (P40, none), (P42, none)]) T34 B   TC F_p_plus M_paces F_p_speeds F_p_walked F_p_ledger_on , ⟨a34, i34, k34⟩, b34⟩⟩
  have M_mark : Mt l.prog w K mg base CC 1 "mark" ["self", "at"] (sp_p_Chain_mark K [(P17, none), (P40, none), (P42, none)] CC) := ⟨⟨_, _, ok_p_Chain_mark (T := [(P17, none), (P40, none), (P42, none)]) T35   TC  , ⟨a35, i35, k35⟩, b35⟩⟩
  have M_mark_from : Mt l.prog w K mg base CC 2 "mark_from" ["self", "first"] (sp_p_Chain_mark_from K [(P17, none), (P40, none), (P42, none)] CC) := ⟨⟨_, _, ok_p_Chain_mark_from (T := [(P17, none), (P40, none), (P42, none)]) T36 B   TC M_mark , ⟨a36, i36, k36⟩, b36⟩⟩
  have M_next_leaver : Mt l.prog w K mg base CC 1 "next_leaver" ["self"] (sp_p_Chain_next_leaver K [(P17, none), (P40, none), (P42, none)] CC) := ⟨⟨_, _, ok_p_Chain_next_leaver (T := [(P17, none), (P40, none), (P42, none)]) T37 B   TC  , ⟨a37, i37, k37⟩, b37⟩⟩
  have M_turn : Mt l.prog w K mg base CC 3 "turn" ["self"] (sp_p_Chain_turn K [(P17, none), (P40, none), (P42, none)] CC) := ⟨⟨_, _, ok_p_Chain_turn (T := [(P17, none), (P40, none), (P42, none)]) T38   TC M_take_pail M_mark_from M_next_leaver , ⟨a38, i38, k38⟩, b38⟩⟩
  have M_turns : Mt l.prog w K mg base CC 4 "turns" ["self"] (sp_p_Chain_turns K [(P17, none), (P40, none), (P42, none)] CC) := ⟨⟨_, _, ok_p_Chain_turns (T := [(P17, none), (P40, none), (P42, none)]) T39   TC M_turn , ⟨a39, i39, k39⟩, b39⟩⟩
  have F_p_is_stretch : Fn l.prog w K mg base 1 "is_stretch" ["thing"] (sp_p_is_stretch K [(P17, none), (P40, none), (P42, none)]) := Fn.mk' (ok_p_is_stretch (T := [(P17, none), (P40, none), (P42, none)]) T40 hnT (by simp) (gx_lam B40) B ⟨⟨_, rfl⟩, PySem.W.mg_of X G y_MOST_STEPS_OR_TOIL⟩   (with_of T2) k2 (PySem.W.mg_of X G a2) (num_of T1) k1 (PySem.W.mg_of X G a1)) (PySem.W.mg_of X G a40) k40 b40
  have F_p_check_way : Fx l.prog w K mg base 4 "check_way" ["way"] (sp_p_check_way K [(P17, none), (P40, none), (P42, none)] CP) := Fx.mk' (ok_p_check_way (T := [(P17, none), (P40, none), (P42, none)]) T41 B ⟨⟨_, rfl⟩, PySem.W.mg_of X G y_MOST_STRETCHES⟩ R_BadWay F_p_is_stretch ) (PySem.W.mg_of X G a41) k41 b41
  have F_p_labour : Fx l.prog w K mg base 5 "labour" ["way"] (sp_p_labour K [(P17, none), (P40, none), (P42, none)] CP) := Fx.mk' (ok_p_labour (T := [(P17, none), (P40, none), (P42, none)]) T42 hnT (by simp) (gx_lam B42) B   F_p_check_way ) (PySem.W.mg_of X G a42) k42 b42
  have F_p_check_way_t : Fx l.prog w K mg base 4 "check_way" ["way"] (sp_p_check_way_t K [(P17, none), (P40, none), (P42, none)] CP) := Fx.mk' (ok_p_check_way_t (T := [(P17, none), (P40, none), (P42, none)]) T41 B ⟨⟨_, rfl⟩, PySem.W.mg_of X G y_MOST_STRETCHES⟩ R_BadWay F_p_is_stretch ) (PySem.W.mg_of X G a41) k41 b41
  have F_p_labour_t : Fx l.prog w K mg base 5 "labour" ["way"] (sp_p_labour_t K [(P17, none), (P40, none), (P42, none)] CP) := Fx.mk' (ok_p_labour_t (T := [(P17, none), (P40, none), (P42, none)]) T42 hnT (by simp) (gx_lam B42) B   F_p_check_way_t ) (PySem.W.mg_of X G a42) k42 b42
  have M_init : Mnx l.prog w K mg base CC 6 "Chain" ["self", "way"] (sp_p_Chain___init__ K [(P17, none), (P40, none), (P42, none)] CP CC) := ⟨⟨_, _, ok_p_Chain___init__ (T := [(P17, none), (P40, none), (P42, none)]) T43 B (PySem.W.mg_of X G y_NOUGHT) (tup_const x_NOUGHT w_NOUGHT.1 w_NOUGHT.2)  TC F_p_labour , ⟨mkC, a43, i43, kcC⟩, b43, PySem.W.mg_of X G aCC⟩⟩
  have M_init_t : Mnx l.prog w K mg base CC 6 "Chain" ["self", "way"] (sp_p_Chain___init___t K [(P17, none), (P40, none), (P42, none)] CP CC) := ⟨⟨_, _, ok_p_Chain___init___t (T := [(P17, none), (P40, none), (P42, none)]) T43 B (PySem.W.mg_of X G y_NOUGHT) (tup_const x_NOUGHT w_NOUGHT.1 w_NOUGHT.2)  TC F_p_labour_t , ⟨mkC, a43, i43, kcC⟩, b43, PySem.W.mg_of X G aCC⟩⟩
  have M_outs : Mx l.prog w K mg base CC 7 "outs" ["self", "count"] (sp_p_Chain_outs K [(P17, none), (P40, none), (P42, none)] CP CC) := ⟨⟨_, _, ok_p_Chain_outs (T := [(P17, none), (P40, none), (P42, none)]) T44 B ⟨⟨_, rfl⟩, PySem.W.mg_of X G y_MOST_OUTS⟩ R_BadCount R_Nobody TC F_p_is_within M_till_meeting M_walk M_turns , ⟨a44, i44, k44⟩, b44⟩⟩
  have F_l_split : Fn l.prog w K mg base 1 "_law_split" ["_law_cell_here", "_law_many_here"] (sp_l_split K [(P17, none), (P40, none), (P42, none)]) := Fn.mk' (ok_l_split (T := [(P17, none), (P40, none), (P42, none)]) T45 B    ) (PySem.W.mg_of X G a45) k45 b45
  have F_l_gcd : Fn l.prog w K mg base 1 "_law_gcd" ["_law_one", "_law_other"] (sp_l_gcd K [(P17, none), (P40, none), (P42, none)]) := Fn.mk' (ok_l_gcd (T := [(P17, none), (P40, none), (P42, none)]) T46    ) (PySem.W.mg_of X G a46) k46 b46
  have F_l_amt : Fn l.prog w K mg base 2 "_law_amt" ["_law_num", "_law_den"] (sp_l_amt K [(P17, none), (P40, none), (P42, none)]) := Fn.mk' (ok_l_amt (T := [(P17, none), (P40, none), (P42, none)]) T47 B   F_l_gcd ) (PySem.W.mg_of X G a47) k47 b47
  have F_l_same : Fn l.prog w K mg base 6 "_law_same" ["_law_found", "_law_due"] (sp_l_same K [(P17, none), (P40, none), (P42, none)]) := Fn.mk' (ok_l_same (T := [(P17, none), (P40, none), (P42, none)]) T48 B (PySem.W.mg_of X G a48) b48    ) (PySem.W.mg_of X G a48) k48 b48
  have F_l_way : Fn l.prog w K mg base 2 "_law_way" ["_law_cell_here"] (sp_l_way K [(P17, none), (P40, none), (P42, none)]) := Fn.mk' (ok_l_way (T := [(P17, none), (P40, none), (P42, none)]) T49 B   F_l_draws ) (PySem.W.mg_of X G a49) k49 b49
  have F_l_labour : Fn l.prog w K mg base 1 "_law_labour" ["_law_way_here"] (sp_l_labour K [(P17, none), (P40, none), (P42, none)]) := Fn.mk' (ok_l_labour (T := [(P17, none), (P40, none), (P42, none)]) T50 B    ) (PySem.W.mg_of X G a50) k50 b50
  have F_l_draws_f : Fn l.prog w K mg base 1 "_law_draws" ["_law_cell_here", "_law_parts"] (sp_l_draws_f K [(P17, none), (P40, none), (P42, none)]) := Fn.mk' (ok_l_draws_f (T := [(P17, none), (P40, none), (P42, none)]) T12    ) (PySem.W.mg_of X G a12) k12 b12
  have F_l_name : Fn l.prog w K mg base 2 "_law_name" ["_law_k", "_law_salt"] (sp_l_name K [(P17, none), (P40, none), (P42, none)]) := Fn.mk' (ok_l_name (T := [(P17, none), (P40, none), (P42, none)]) T51   F_l_draws_f ) (PySem.W.mg_of X G a51) k51 b51
  have F_l_rising_of : Fn l.prog w K mg base 2 "_law_rising_of" ["_law_cell_here"] (sp_l_rising_of K [(P17, none), (P40, none), (P42, none)]) := Fn.mk' (ok_l_rising_of (T := [(P17, none), (P40, none), (P42, none)]) T52 B   F_l_draws ) (PySem.W.mg_of X G a52) k52 b52
  have F_p_check_rounds : Fx l.prog w K mg base 4 "check_rounds" ["rounds"] (sp_p_check_rounds K [(P17, none), (P40, none), (P42, none)] CP) := Fx.mk' (ok_p_check_rounds (T := [(P17, none), (P40, none), (P42, none)]) T53 ⟨⟨_, rfl⟩, PySem.W.mg_of X G y_MOST_ROUNDS⟩ R_BadCount F_p_is_within ) (PySem.W.mg_of X G a53) k53 b53
  have F_p_mixed : Fn l.prog w K mg base 4 "mixed" ["part", "before", "last"] (sp_p_mixed K [(P17, none), (P40, none), (P42, none)]) := Fn.mk' (ok_p_mixed (T := [(P17, none), (P40, none), (P42, none)]) T54 (PySem.W.mg_of X G y_ONE) (tup_const x_ONE w_ONE.1 w_ONE.2)  F_p_plus F_p_minus F_p_times ) (PySem.W.mg_of X G a54) k54 b54
  have F_p_behind_one : Fn l.prog w K mg base 5 "behind_one" ["paces", "found"] (sp_p_behind_one K [(P17, none), (P40, none), (P42, none)]) := Fn.mk' (ok_p_behind_one (T := [(P17, none), (P40, none), (P42, none)]) T55 B   F_p_amount F_p_mixed ) (PySem.W.mg_of X G a55) k55 b55
  have F_p_behind : Fx l.prog w K mg base 7 "behind" ["paces", "found", "rounds"] (sp_p_behind K [(P17, none), (P40, none), (P42, none)] CP) := Fx.mk' (ok_p_behind (T := [(P17, none), (P40, none), (P42, none)]) T56 B  R_BadCount F_p_check_rising F_p_check_rounds F_p_behind_one ) (PySem.W.mg_of X G a56) k56 b56
  have F_p_check_places : Fx l.prog w K mg base 4 "check_places" ["places", "fire"] (sp_p_check_places K [(P17, none), (P40, none), (P42, none)] CP) := Fx.mk' (ok_p_check_places (T := [(P17, none), (P40, none), (P42, none)]) T57 B (PySem.W.mg_of X G y_NOUGHT) (tup_const x_NOUGHT w_NOUGHT.1 w_NOUGHT.2) R_BadPlace F_p_below ) (PySem.W.mg_of X G a57) k57 b57
  have F_p_shares : Fx l.prog w K mg base 7 "shares" ["way", "paces", "places"] (sp_p_shares K [(P17, none), (P40, none), (P42, none)] CP) := Fx.mk' (ok_p_shares (T := [(P17, none), (P40, none), (P42, none)]) T58 B  R_BadCount F_p_minus F_p_over F_p_check_rising F_p_labour F_p_check_places ) (PySem.W.mg_of X G a58) k58 b58
  exact ok_LAW (T := [(P17, none), (P40, none), (P42, none)]) T59 B   TC F_l_cell F_l_draws F_l_many M_enter M_emptied M_place M_init M_outs F_l_split F_l_amt F_l_same F_l_way F_l_labour F_l_name F_l_rising_of F_p_behind F_p_shares 
end My
open PySem PySem.W PyProof.Rows
set_option maxRecDepth 100000 in
set_option maxHeartbeats 0 in
theorem PySem.Challenge.cw_pailchain_k31_whole_a_chain_goes_by_its_holds : PySem.Challenge.rw_pailchain_k31_whole_a_chain_goes_by_its.Holds := by
  w_on; o_law; k_head; (case hw => w_witness2)
  k_fill
  refine My.walk_tabs (l := PySem.Challenge.rw_pailchain_k31_whole_a_chain_goes_by_its) (n := 63) (k := 14) (x := "_law_script") (CX := fun w => L2.CX PySem.Challenge.rw_pailchain_k31_whole_a_chain_goes_by_its.prog w) rfl (by decide) rfl ⟨rfl, by decide, by decide⟩ (by first | exact fun w h Y => PySem.W.kIn_of Y | exact fun w h Y => PySem.W.km_in_of Y) ?F (fun _ _ _ _ _ ⟨_, _, _, _, _, _, _, _, _, _, _, _, z⟩ => z)
  case F =>
    intro w mg fa h Y KX G hmg tabs
    refine' My.all_mk KX G hmg tabs ?aCC ?pgC ?hdC ?poC ?saC ?mkC ?kcC ?nF_fire ?nF_stretches ?nF_now ?nF_row ?nF_loads ?nF_spots ?nF_tempos ?nF_leaving ?nF_ledgers ?nF_marks ?nF_poured ?a1 ?l1 ?c1_ ?k1 ?a2 ?l2 ?c2_ ?k2 ?a3 ?l3 ?c3_ ?k3 ?a4 ?l4 ?c4_ ?k4 ?a5 ?l5 ?c5_ ?k5 ?a6 ?l6 ?c6_ ?k6 ?a7 ?l7 ?c7_ ?k7 ?a8 ?l8 ?c8_ ?k8 ?a9 ?l9 ?c9_ ?k9 ?a10 ?l10 ?c10_ ?k10 ?a11 ?l11 ?c11_ ?k11 ?a12 ?l12 ?c12_ ?k12 ?a13 ?l13 ?c13_ ?k13 ?a14 ?l14 ?c14_ ?k14 ?a15 ?l15 ?c15_ ?k15 ?a16 ?l16 ?c16_ ?k16 ?a17 ?l17 ?c17_ ?k17 ?r17 ?v17 ?p17 ?n17 ?a18 ?l18 ?c18_ ?k18 ?a19 ?l19 ?c19_ ?k19 ?i19 ?a20 ?l20 ?c20_ ?k20 ?i20 ?a21 ?l21 ?c21_ ?k21 ?i21 ?a22 ?l22 ?c22_ ?k22 ?i22 ?a23 ?l23 ?c23_ ?k23 ?i23 ?a24 ?l24 ?c24_ ?k24 ?i24 ?a25 ?l25 ?c25_ ?k25 ?i25 ?a26 ?l26 ?c26_ ?k26 ?i26 ?a27 ?l27 ?c27_ ?k27 ?i27 ?a28 ?l28 ?c28_ ?k28 ?a29 ?l29 ?c29_ ?k29 ?a30 ?l30 ?c30_ ?k30 ?a31 ?l31 ?c31_ ?k31 ?a32 ?l32 ?c32_ ?k32 ?a33 ?l33 ?c33_ ?k33 ?i33 ?a34 ?l34 ?c34_ ?k34 ?i34 ?a35 ?l35 ?c35_ ?k35 ?i35 ?a36 ?l36 ?c36_ ?k36 ?i36 ?a37 ?l37 ?c37_ ?k37 ?i37 ?a38 ?l38 ?c38_ ?k38 ?i38 ?a39 ?l39 ?c39_ ?k39 ?i39 ?a40 ?l40 ?c40_ ?k40 ?r40 ?v40 ?p40 ?n40 ?a41 ?l41 ?c41_ ?k41 ?a42 ?l42 ?c42_ ?k42 ?r42 ?v42 ?p42 ?n42 ?a43 ?l43 ?c43_ ?k43 ?i43 ?a44 ?l44 ?c44_ ?k44 ?i44 ?a45 ?l45 ?c45_ ?k45 ?a46 ?l46 ?c46_ ?k46 ?a47 ?l47 ?c47_ ?k47 ?a48 ?l48 ?c48_ ?k48 ?a49 ?l49 ?c49_ ?k49 ?a50 ?l50 ?c50_ ?k50 ?a51 ?l51 ?c51_ ?k51 ?a52 ?l52 ?c52_ ?k52 ?a53 ?l53 ?c53_ ?k53 ?a54 ?l54 ?c54_ ?k54 ?a55 ?l55 ?c55_ ?k55 ?a56 ?l56 ?c56_ ?k56 ?a57 ?l57 ?c57_ ?k57 ?a58 ?l58 ?c58_ ?k58 ?a59 ?l59 ?c59_ ?k59 ?aCP ?rdP ?gaP ?a100 ?l100 ?c100_ ?k100 ?e1P ?e2P ?e3P ?vV ?aC101 ?xL101 ?rv101 ?sa101 ?ga101 ?gg101 ?nw101 ?a101 ?l101 ?c101_ ?k101 ?tI101 ?kC101 ?eC101 ?tC101 ?hC101 ?sC101 ?aC102 ?xL102 ?rv102 ?sa102 ?ga102 ?gg102 ?nw102 ?a102 ?l102 ?c102_ ?k102 ?tI102 ?kC102 ?eC102 ?tC102 ?hC102 ?sC102 ?aC103 ?xL103 ?rv103 ?sa103 ?ga103 ?gg103 ?nw103 ?a103 ?l103 ?c103_ ?k103 ?tI103 ?kC103 ?eC103 ?tC103 ?hC103 ?sC103 ?aC104 ?xL104 ?rv104 ?sa104 ?ga104 ?gg104 ?nw104 ?a104 ?l104 ?c104_ ?k104 ?tI104 ?kC104 ?eC104 ?tC104 ?hC104 ?sC104 ?aC105 ?xL105 ?rv105 ?sa105 ?ga105 ?gg105 ?nw105 ?a105 ?l105 ?c105_ ?k105 ?tI105 ?kC105 ?eC105 ?tC105 ?hC105 ?sC105 ?aC106 ?xL106 ?rv106 ?sa106 ?ga106 ?gg106 ?nw106 ?a106 ?l106 ?c106_ ?k106 ?tI106 ?kC106 ?eC106 ?tC106 ?hC106 ?sC106 ?aC107 ?xL107 ?rv107 ?sa107 ?ga107 ?gg107 ?nw107 ?a107 ?l107 ?c107_ ?k107 ?tI107 ?kC107 ?eC107 ?tC107 ?hC107 ?sC107 ?aC108 ?xL108 ?rv108 ?sa108 ?ga108 ?gg108 ?nw108 ?a108 ?l108 ?c108_ ?k108 ?tI108 ?kC108 ?eC108 ?tC108 ?hC108 ?sC108 ?aC109 ?xL109 ?rv109 ?sa109 ?ga109 ?gg109 ?nw109 ?a109 ?l109 ?c109_ ?k109 ?tI109 ?kC109 ?eC109 ?tC109 ?hC109 ?sC109 ?aC110 ?xL110 ?rv110 ?sa110 ?ga110 ?gg110 ?nw110 ?a110 ?l110 ?c110_ ?k110 ?tI110 ?kC110 ?eC110 ?tC110 ?hC110 ?sC110 ?z_ValueError ?z_abs ?z_all ?z_bool ?z_int ?z_isinstance ?z_len ?z_list ?z_max ?z_min ?z_range ?z_reversed ?z_sorted ?z_str ?z_sum ?z_tuple ?z_zip ?y_MOST_HANDS ?y_MOST_LETTERS ?y_MOST_OUTS ?y_MOST_PACE ?y_MOST_ROUNDS ?y_MOST_STEPS_OR_TOIL ?y_MOST_STRETCHES ?y_NOUGHT ?x_NOUGHT ?w_NOUGHT ?y_ONE ?x_ONE ?w_ONE ?ndT
    (case aCC => k_is)
    (case pgC => k_is)
    (case hdC => k_is)
    (case poC => k_is)
    (case saC => k_is)
    (case mkC => k_is)
    (case kcC => k_is)
    (case nF_fire => k_is)
    (case nF_stretches => k_is)
    (case nF_now => k_is)
    (case nF_row => k_is)
    (case nF_loads => k_is)
    (case nF_spots => k_is)
    (case nF_tempos => k_is)
    (case nF_leaving => k_is)
    (case nF_ledgers => k_is)
    (case nF_marks => k_is)
    (case nF_poured => k_is)
    (case a1 => k_is)
    (case l1 => k_is)
    (case c1_ => k_is)
    (case k1 => k_is)
    (case a2 => k_is)
    (case l2 => k_is)
    (case c2_ => k_is)
    (case k2 => k_is)
    (case a3 => k_is)
    (case l3 => k_is)
    (case c3_ => k_is)
    (case k3 => k_is)
    (case a4 => k_is)
    (case l4 => k_is)
    (case c4_ => k_is)
    (case k4 => k_is)
    (case a5 => k_is)
    (case l5 => k_is)
    (case c5_ => k_is)
    (case k5 => k_is)
    (case a6 => k_is)
    (case l6 => k_is)
    (case c6_ => k_is)
    (case k6 => k_is)
    (case a7 => k_is)
    (case l7 => k_is)
    (case c7_ => k_is)
    (case k7 => k_is)
    (case a8 => k_is)
    (case l8 => k_is)
    (case c8_ => k_is)
    (case k8 => k_is)
    (case a9 => k_is)
    (case l9 => k_is)
    (case c9_ => k_is)
    (case k9 => k_is)
    (case a10 => k_is)
    (case l10 => k_is)
    (case c10_ => k_is)
    (case k10 => k_is)
    (case a11 => k_is)
    (case l11 => k_is)
    (case c11_ => k_is)
    (case k11 => k_is)
    (case a12 => k_is)
    (case l12 => k_is)
    (case c12_ => k_is)
    (case k12 => k_is)
    (case a13 => k_is)
    (case l13 => k_is)
    (case c13_ => k_is)
    (case k13 => k_is)
    (case a14 => k_is)
    (case l14 => k_is)
    (case c14_ => k_is)
    (case k14 => k_is)
    (case a15 => k_is)
    (case l15 => k_is)
    (case c15_ => k_is)
    (case k15 => k_is)
    (case a16 => k_is)
    (case l16 => k_is)
    (case c16_ => k_is)
    (case k16 => k_is)
    (case a17 => k_is)
    (case l17 => k_is)
    (case c17_ => k_is)
    (case k17 => k_is)
    (case r17 => decide +kernel)
    (case v17 => k_is)
    (case p17 => first | exact rfl | decide +kernel)
    (case n17 => first | kernel_rfl | exact rfl)
    (case a18 => k_is)
    (case l18 => k_is)
    (case c18_ => k_is)
    (case k18 => k_is)
    (case a19 => k_is)
    (case l19 => k_is)
    (case c19_ => k_is)
    (case k19 => k_is)
    (case i19 => k_is)
    (case a20 => k_is)
    (case l20 => k_is)
    (case c20_ => k_is)
    (case k20 => k_is)
    (case i20 => k_is)
    (case a21 => k_is)
    (case l21 => k_is)
    (case c21_ => k_is)
    (case k21 => k_is)
    (case i21 => k_is)
    (case a22 => k_is)
    (case l22 => k_is)
    (case c22_ => k_is)
    (case k22 => k_is)
    (case i22 => k_is)
    (case a23 => k_is)
    (case l23 => k_is)
    (case c23_ => k_is)
    (case k23 => k_is)
    (case i23 => k_is)
    (case a24 => k_is)
    (case l24 => k_is)
    (case c24_ => k_is)
    (case k24 => k_is)
    (case i24 => k_is)
    (case a25 => k_is)
    (case l25 => k_is)
    (case c25_ => k_is)
    (case k25 => k_is)
    (case i25 => k_is)
    (case a26 => k_is)
    (case l26 => k_is)
    (case c26_ => k_is)
    (case k26 => k_is)
    (case i26 => k_is)
    (case a27 => k_is)
    (case l27 => k_is)
    (case c27_ => k_is)
    (case k27 => k_is)
    (case i27 => k_is)
    (case a28 => k_is)
    (case l28 => k_is)
    (case c28_ => k_is)
    (case k28 => k_is)
    (case a29 => k_is)
    (case l29 => k_is)
    (case c29_ => k_is)
    (case k29 => k_is)
    (case a30 => k_is)
    (case l30 => k_is)
    (case c30_ => k_is)
    (case k30 => k_is)
    (case a31 => k_is)
    (case l31 => k_is)
    (case c31_ => k_is)
    (case k31 => k_is)
    (case a32 => k_is)
    (case l32 => k_is)
    (case c32_ => k_is)
    (case k32 => k_is)
    (case a33 => k_is)
    (case l33 => k_is)
    (case c33_ => k_is)
    (case k33 => k_is)
    (case i33 => k_is)
    (case a34 => k_is)
    (case l34 => k_is)
    (case c34_ => k_is)
    (case k34 => k_is)
    (case i34 => k_is)
    (case a35 => k_is)
    (case l35 => k_is)
    (case c35_ => k_is)
    (case k35 => k_is)
    (case i35 => k_is)
    (case a36 => k_is)
    (case l36 => k_is)
    (case c36_ => k_is)
    (case k36 => k_is)
    (case i36 => k_is)
    (case a37 => k_is)
    (case l37 => k_is)
    (case c37_ => k_is)
    (case k37 => k_is)
    (case i37 => k_is)
    (case a38 => k_is)
    (case l38 => k_is)
    (case c38_ => k_is)
    (case k38 => k_is)
    (case i38 => k_is)
    (case a39 => k_is)
    (case l39 => k_is)
    (case c39_ => k_is)
    (case k39 => k_is)
    (case i39 => k_is)
    (case a40 => k_is)
    (case l40 => k_is)
    (case c40_ => k_is)
    (case k40 => k_is)
    (case r40 => decide +kernel)
    (case v40 => k_is)
    (case p40 => first | exact rfl | decide +kernel)
    (case n40 => first | kernel_rfl | exact rfl)
    (case a41 => k_is)
    (case l41 => k_is)
    (case c41_ => k_is)
    (case k41 => k_is)
    (case a42 => k_is)
    (case l42 => k_is)
    (case c42_ => k_is)
    (case k42 => k_is)
    (case r42 => decide +kernel)
    (case v42 => k_is)
    (case p42 => first | exact rfl | decide +kernel)
    (case n42 => first | kernel_rfl | exact rfl)
    (case a43 => k_is)
    (case l43 => k_is)
    (case c43_ => k_is)
    (case k43 => k_is)
    (case i43 => k_is)
    (case a44 => k_is)
    (case l44 => k_is)
    (case c44_ => k_is)
    (case k44 => k_is)
    (case i44 => k_is)
    (case a45 => k_is)
    (case l45 => k_is)
    (case c45_ => k_is)
    (case k45 => k_is)
    (case a46 => k_is)
    (case l46 => k_is)
    (case c46_ => k_is)
    (case k46 => k_is)
    (case a47 => k_is)
    (case l47 => k_is)
    (case c47_ => k_is)
    (case k47 => k_is)
    (case a48 => k_is)
    (case l48 => k_is)
    (case c48_ => k_is)
    (case k48 => k_is)
    (case a49 => k_is)
    (case l49 => k_is)
    (case c49_ => k_is)
    (case k49 => k_is)
    (case a50 => k_is)
    (case l50 => k_is)
    (case c50_ => k_is)
    (case k50 => k_is)
    (case a51 => k_is)
    (case l51 => k_is)
    (case c51_ => k_is)
    (case k51 => k_is)
    (case a52 => k_is)
    (case l52 => k_is)
    (case c52_ => k_is)
    (case k52 => k_is)
    (case a53 => k_is)
    (case l53 => k_is)
    (case c53_ => k_is)
    (case k53 => k_is)
    (case a54 => k_is)
    (case l54 => k_is)
    (case c54_ => k_is)
    (case k54 => k_is)
    (case a55 => k_is)
    (case l55 => k_is)
    (case c55_ => k_is)
    (case k55 => k_is)
    (case a56 => k_is)
    (case l56 => k_is)
    (case c56_ => k_is)
    (case k56 => k_is)
    (case a57 => k_is)
    (case l57 => k_is)
    (case c57_ => k_is)
    (case k57 => k_is)
    (case a58 => k_is)
    (case l58 => k_is)
    (case c58_ => k_is)
    (case k58 => k_is)
    (case a59 => k_is)
    (case l59 => k_is)
    (case c59_ => k_is)
    (case k59 => k_is)
    (case aCP => k_is)
    (case rdP => k_is)
    (case gaP => k_is)
    (case a100 => k_is)
    (case l100 => k_is)
    (case c100_ => k_is)
    (case k100 => k_is)
    (case e1P => k_is)
    (case e2P => k_is)
    (case e3P => k_is)
    (case vV => k_is)
    (case aC101 => k_is)
    (case xL101 => k_is)
    (case rv101 => first | rfl | decide +kernel | k_is)
    (case sa101 => k_is)
    (case ga101 => k_is)
    (case gg101 => k_is)
    (case nw101 => k_is)
    (case a101 => k_is)
    (case l101 => k_is)
    (case c101_ => k_is)
    (case k101 => k_is)
    (case tI101 => k_is)
    (case kC101 => k_is)
    (case eC101 => k_is)
    (case tC101 => k_is)
    (case hC101 => k_is)
    (case sC101 => first | rfl | k_is)
    (case aC102 => k_is)
    (case xL102 => k_is)
    (case rv102 => first | rfl | decide +kernel | k_is)
    (case sa102 => k_is)
    (case ga102 => k_is)
    (case gg102 => k_is)
    (case nw102 => k_is)
    (case a102 => k_is)
    (case l102 => k_is)
    (case c102_ => k_is)
    (case k102 => k_is)
    (case tI102 => k_is)
    (case kC102 => k_is)
    (case eC102 => k_is)
    (case tC102 => k_is)
    (case hC102 => k_is)
    (case sC102 => first | rfl | k_is)
    (case aC103 => k_is)
    (case xL103 => k_is)
    (case rv103 => first | rfl | decide +kernel | k_is)
    (case sa103 => k_is)
    (case ga103 => k_is)
    (case gg103 => k_is)
    (case nw103 => k_is)
    (case a103 => k_is)
    (case l103 => k_is)
    (case c103_ => k_is)
    (case k103 => k_is)
    (case tI103 => k_is)
    (case kC103 => k_is)
    (case eC103 => k_is)
    (case tC103 => k_is)
    (case hC103 => k_is)
    (case sC103 => first | rfl | k_is)
    (case aC104 => k_is)
    (case xL104 => k_is)
    (case rv104 => first | rfl | decide +kernel | k_is)
    (case sa104 => k_is)
    (case ga104 => k_is)
    (case gg104 => k_is)
    (case nw104 => k_is)
    (case a104 => k_is)
    (case l104 => k_is)
    (case c104_ => k_is)
    (case k104 => k_is)
    (case tI104 => k_is)
    (case kC104 => k_is)
    (case eC104 => k_is)
    (case tC104 => k_is)
    (case hC104 => k_is)
    (case sC104 => first | rfl | k_is)
    (case aC105 => k_is)
    (case xL105 => k_is)
    (case rv105 => first | rfl | decide +kernel | k_is)
    (case sa105 => k_is)
    (case ga105 => k_is)
    (case gg105 => k_is)
    (case nw105 => k_is)
    (case a105 => k_is)
    (case l105 => k_is)
    (case c105_ => k_is)
    (case k105 => k_is)
    (case tI105 => k_is)
    (case kC105 => k_is)
    (case eC105 => k_is)
    (case tC105 => k_is)
    (case hC105 => k_is)
    (case sC105 => first | rfl | k_is)
    (case aC106 => k_is)
    (case xL106 => k_is)
    (case rv106 => first | rfl | decide +kernel | k_is)
    (case sa106 => k_is)
    (case ga106 => k_is)
    (case gg106 => k_is)
    (case nw106 => k_is)
    (case a106 => k_is)
    (case l106 => k_is)
    (case c106_ => k_is)
    (case k106 => k_is)
    (case tI106 => k_is)
    (case kC106 => k_is)
    (case eC106 => k_is)
    (case tC106 => k_is)
    (case hC106 => k_is)
    (case sC106 => first | rfl | k_is)
    (case aC107 => k_is)
    (case xL107 => k_is)
    (case rv107 => first | rfl | decide +kernel | k_is)
    (case sa107 => k_is)
    (case ga107 => k_is)
    (case gg107 => k_is)
    (case nw107 => k_is)
    (case a107 => k_is)
    (case l107 => k_is)
    (case c107_ => k_is)
    (case k107 => k_is)
    (case tI107 => k_is)
    (case kC107 => k_is)
    (case eC107 => k_is)
    (case tC107 => k_is)
    (case hC107 => k_is)
    (case sC107 => first | rfl | k_is)
    (case aC108 => k_is)
    (case xL108 => k_is)
    (case rv108 => first | rfl | decide +kernel | k_is)
    (case sa108 => k_is)
    (case ga108 => k_is)
    (case gg108 => k_is)
    (case nw108 => k_is)
    (case a108 => k_is)
    (case l108 => k_is)
    (case c108_ => k_is)
    (case k108 => k_is)
    (case tI108 => k_is)
    (case kC108 => k_is)
    (case eC108 => k_is)
    (case tC108 => k_is)
    (case hC108 => k_is)
    (case sC108 => first | rfl | k_is)
    (case aC109 => k_is)
    (case xL109 => k_is)
    (case rv109 => first | rfl | decide +kernel | k_is)
    (case sa109 => k_is)
    (case ga109 => k_is)
    (case gg109 => k_is)
    (case nw109 => k_is)
    (case a109 => k_is)
    (case l109 => k_is)
    (case c109_ => k_is)
    (case k109 => k_is)
    (case tI109 => k_is)
    (case kC109 => k_is)
    (case eC109 => k_is)
    (case tC109 => k_is)
    (case hC109 => k_is)
    (case sC109 => first | rfl | k_is)
    (case aC110 => k_is)
    (case xL110 => k_is)
    (case rv110 => first | rfl | decide +kernel | k_is)
    (case sa110 => k_is)
    (case ga110 => k_is)
    (case gg110 => k_is)
    (case nw110 => k_is)
    (case a110 => k_is)
    (case l110 => k_is)
    (case c110_ => k_is)
    (case k110 => k_is)
    (case tI110 => k_is)
    (case kC110 => k_is)
    (case eC110 => k_is)
    (case tC110 => k_is)
    (case hC110 => k_is)
    (case sC110 => first | rfl | k_is)
    (case z_ValueError => k_is)
    (case z_abs => k_is)
    (case z_all => k_is)
    (case z_bool => k_is)
    (case z_int => k_is)
    (case z_isinstance => k_is)
    (case z_len => k_is)
    (case z_list => k_is)
    (case z_max => k_is)
    (case z_min => k_is)
    (case z_range => k_is)
    (case z_reversed => k_is)
    (case z_sorted => k_is)
    (case z_str => k_is)
    (case z_sum => k_is)
    (case z_tuple => k_is)
    (case z_zip => k_is)
    (case y_MOST_HANDS => k_is)
    (case y_MOST_LETTERS => k_is)
    (case y_MOST_OUTS => k_is)
    (case y_MOST_PACE => k_is)
    (case y_MOST_ROUNDS => k_is)
    (case y_MOST_STEPS_OR_TOIL => k_is)
    (case y_MOST_STRETCHES => k_is)
    (case y_NOUGHT => k_is)
    (case x_NOUGHT => k_is)
    (case w_NOUGHT => exact ⟨by decide, .cons ⟨_, rfl⟩ (.cons ⟨_, rfl⟩ .nil)⟩)
    (case y_ONE => k_is)
    (case x_ONE => k_is)
    (case w_ONE => exact ⟨by decide, .cons ⟨_, rfl⟩ (.cons ⟨_, rfl⟩ .nil)⟩)
    (case ndT => decide +kernel)
