import PyProof.Rows.All
import Wide.All
import OpenK.AllK
import Wide.FinOn
import HandS.ForMost
import HandS.Wide
import HandS.IsInst
import HandS.NoneIn
import HandS.EndBits
import HandS.FStr
import HandS.ClsMeth
import HandS.ExcField
import HandS.ExcInit
import HandS.ForExc
import HandS.EndTab
import HandS.Lambda
import HandS.AnyAll
import HandS.RevRange
import HandS.SortInts
import HandS.More
import HandS.Walk
import HandS.Flow
import HandS.Zip
import PySem.Challenge.RW_pailchain_k05_ways_and_what_is_none
set_option Elab.async false
set_option linter.all false
set_option maxRecDepth 100000
set_option maxHeartbeats 4000000
namespace My
open PySem PySem.Spec PyProof.Rows L2
/-! ### a def of the text with its promise, ready to be called -/
structure Fn (P : Program) (w : World) (K : PySem.W.Frag) (mg : Str → Option Value) (base : Heap) (k : Nat) (x : Str) (ps : List Str) (sp : Sp) : Prop where
  ex : ∃ f fd, FnOk P w K mg base CX0 k f fd ps sp ∧ mg x = some (.ref f) ∧ PySem.W.keepIn K (.ref f) = true ∧ Binds K fd ps []
theorem Fn.mk' {P : Program} {w : World} {K : PySem.W.Frag} {mg : Str → Option Value} {base : Heap} {k : Nat} {x : Str} {ps : List Str} {sp : Sp} {f : Addr} {fd : FuncData}
    (h : FnOk P w K mg base CX0 k f fd ps sp) (g : mg x = some (.ref f)) (kp : PySem.W.keepIn K (.ref f) = true) (b : Binds K fd ps []) : Fn P w K mg base k x ps sp := ⟨⟨f, fd, h, g, kp, b⟩⟩
section
variable {X : Cx} {k : Nat} {x : Str} {ps : List Str} {sp : Sp} {e : Expr} {es : List Expr} {t : TA} {p pos : Pos}
theorem pe_fn (F : Fn X.prog X.w X.K X.mg X.base k x ps sp) (hr : Room k X.A) (ha : PA X (e :: es) t) (hg : Gl X x := by rfl) (hdb : (x == ("__debug__" : Str)) = false := by decide)
    (he : starEach (e :: es) X.env = (false, eval e X.env) :: starEach es X.env := by rfl) (hpl : (backTo pos (starEach es X.env)).any (·.1) = false := by rfl) :
    PE X (.Call (.Name x p) (e :: es) [] pos) (tCall sp [] E0 t) := by
  obtain ⟨f, fd, h, g, kp, b⟩ := F.ex
  exact pe_call h hr hg g kp b .nil pass0 ha hdb he hpl
theorem pe_fn0 (F : Fn X.prog X.w X.K X.mg X.base k x ps sp) (hr : Room k X.A) (hg : Gl X x := by rfl) (hdb : (x == ("__debug__" : Str)) = false := by decide) :
    PE X (.Call (.Name x p) [] [] pos) (tCall sp [] E0 tNil) := by
  obtain ⟨f, fd, h, g, kp, b⟩ := F.ex
  exact pe_call0 h hr hg g kp b .nil pass0 hdb
end
/-! ### heaps: what a def leaves; the tables of code objects may grow -/
/-- the tables that grow: a table of generator expressions (none), of lambdas (their name) -/
abbrev Tb := List (Addr × Option Str)
def OkP (H : Hp) (p : Addr × Option Str) : Prop := match p.2 with
  | none => GxR.TabG H p.1
  | some q => LamX.TabS H p.1 q
def Ok (T : Tb) (H : Hp) : Prop := ∀ p ∈ T, OkP H p
def nTbl : HO → Prop
  | .tbl _ => False
  | _ => True
structure Sm (T : Tb) (H H' : Hp) : Prop where
  keep : ∀ b o, H b = some o → nTbl o → H' b = some o
  ok : Ok T H → Ok T H'
  free : ∀ l, H' l = none → H l = none
theorem nTbl_ne {o : HO} (h : nTbl o) (ps : Array Value) : o ≠ .tbl ps := fun e => by rw [e] at h; exact h
theorem Sm.k {T : Tb} {H H' : Hp} (s : Sm T H H') {b : Addr} {o : HO} (e : H b = some o) (n : nTbl o := by trivial) : H' b = some o := s.keep b o e n
theorem Sm.refl {T : Tb} {H : Hp} : Sm T H H := ⟨fun _ _ e _ => e, fun h => h, fun _ h => h⟩
theorem Sm.trans {T : Tb} {H H1 H2 : Hp} (a : Sm T H H1) (b : Sm T H1 H2) : Sm T H H2 := ⟨fun c o e n => b.keep c o (a.keep c o e n) n, fun h => b.ok (a.ok h), fun l h => a.free l (b.free l h)⟩
theorem Sm.seq {T : Tb} {K : PySem.W.Frag} {H H' : Hp} {a : Addr} {xs : List V} (e : Sm T H H') (h : SqL K H a xs) : SqL K H' a xs := by
  rcases h with (h | ⟨o, h⟩) | h
  · exact .inl (.inl (e.keep _ _ h trivial))
  · exact .inl (.inr ⟨o, e.keep _ _ h trivial⟩)
  · exact .inr h
theorem same_tup {T : Tb} {K : PySem.W.Frag} {H H' : Hp} {a : Addr} {xs : List V} (e : Sm T H H') (h : SqT K H a xs) : SqT K H' a xs := by
  rcases h with (h | ⟨o, h⟩) | h
  · exact .inl (.inl (e.keep _ _ h trivial))
  · exact .inl (.inr ⟨o, e.keep _ _ h trivial⟩)
  · exact .inr h
theorem Sm.lst {T : Tb} {H H' : Hp} {a : Addr} {xs : List V} (e : Sm T H H') (h : H a = some (.lst xs)) : H' a = some (.lst xs) := e.keep _ _ h trivial
theorem okP_ext {H H' : Hp} {p : Addr × Option Str} (h : OkP H p) (e : ∀ b o, H b = some o → H' b = some o) : OkP H' p := by
  obtain ⟨P, q⟩ := p
  cases q with
  | none =>
    obtain ⟨ps, h1, h2⟩ := (show GxR.TabG H P from h)
    exact ⟨ps, e _ _ h1, h2⟩
  | some q => exact LamX.TabS.ext (show LamX.TabS H P q from h) e
/-- the one list at p is changed -/
theorem okP_mut {H : Hp} {p : Addr × Option Str} {a : Addr} {o : HO} {xs : List V} (h : OkP H p) (ha : H a = some (.lst xs)) : OkP (upd H a o) p := by
  have k : ∀ b u, H b = some u → u ≠ .lst xs → upd H a o b = some u := fun b u e n => by
    rw [upd_ne (fun z => n (by rw [z, ha] at e; exact (Option.some.inj e).symm))]
    exact e
  obtain ⟨P, q⟩ := p
  cases q with
  | none =>
    obtain ⟨ps, h1, h2⟩ := (show GxR.TabG H P from h)
    exact ⟨ps, k _ _ h1 (fun z => by cases z), h2⟩
  | some q =>
    obtain ⟨ps, h1, h2, h3⟩ := (show LamX.TabS H P q from h)
    refine ⟨ps, k _ _ h1 (fun z => by cases z), h2, fun pos cv hc => ?_⟩
    obtain ⟨c, e1, e2⟩ := h3 pos cv hc
    exact ⟨c, e1, k _ _ e2 (fun z => by unfold LamX.CodeO at z; cases z)⟩
theorem same_upd {T : Tb} {H : Hp} {p : Addr} {o : HO} (h : H p = none) : Sm T H (upd H p o) := by
  have k : ∀ b x, H b = some x → upd H p o b = some x := fun b x e => by
    rw [upd_ne (ne_of_none e h)]
    exact e
  refine ⟨fun b x e _ => k b x e, fun h q hq => okP_ext (h q hq) k, fun l hl => ?_⟩
  cases q : H l with
  | none => rfl
  | some x => rw [k _ _ q] at hl; cases hl
theorem same_mut {T : Tb} {H H' : Hp} {p : Addr} {o : HO} {xs : List V} (e : Sm T H H') (h : H p = none) (hp : H' p = some (.lst xs)) : Sm T H (upd H' p o) := by
  refine ⟨fun b x q n => ?_, fun hk q hq => okP_mut (e.ok hk q hq) hp, fun l hl => ?_⟩
  · rw [upd_ne (ne_of_none q h)]
    exact e.keep b x q n
  · by_cases z : l = p
    · rw [z]; exact h
    · rw [upd_ne z] at hl
      exact e.free l hl
theorem seq_k {t u : TS} {D : Ends} {σ : L2.St} {H : Hp} (P : L2.St → Hp → Prop) (hu : ∀ σ' H', P σ' H' → u D σ' H') (h : (∀ σ' H', P σ' H' → u D σ' H') → tSeq t u D σ H) : tSeq t u D σ H := h hu
theorem seq_if {c : TT} {t1 t2 u : TS} {D : Ends} {σ : L2.St} {H : Hp} (P : L2.St → Hp → Prop) (hu : ∀ σ' H', P σ' H' → u D σ' H') (h : (∀ σ' H', P σ' H' → u D σ' H') → tSeq (tIfS c t1 t2) u D σ H) : tSeq (tIfS c t1 t2) u D σ H := h hu
theorem seq_as {te : TE} {g : TG} {u : TS} {D : Ends} {σ : L2.St} {H : Hp} (P : L2.St → Hp → Prop) (hu : ∀ σ' H', P σ' H' → u D σ' H') (h : (∀ σ' H', P σ' H' → u D σ' H') → tSeq (tAsg te g) u D σ H) : tSeq (tAsg te g) u D σ H := h hu
theorem sz {n : Nat} (h : n ≤ 10000) : n ≤ sizeLine := Nat.le_trans h (by decide)
theorem szl {n : Nat} (h : n < 10000) : n < sizeLine := Nat.lt_of_lt_of_le h (by decide)
/-! ### data -/
mutual
theorem dp_same {T : Tb} {K : PySem.W.Frag} {H H' : Hp} (e : Sm T H H') : ∀ (d : PyData) (v : V), Dp K H v d → Dp K H' v d
  | .none, _, h => by cases h; exact .non
  | .bool b, _, h => by cases h; exact .bl b
  | .int i, _, h => by cases h; exact .int i
  | .str x, _, h => by cases h; exact .str x
  | .list ds, _, h => by
    cases h with
    | lst hs ha => exact .lst (e.seq hs) (dpa_same e ds _ ha)
  | .tuple ds, _, h => by
    cases h with
    | tup hs ha => exact .tup (same_tup e hs) (dpa_same e ds _ ha)
  | .dict _, _, h => by cases h
theorem dpa_same {T : Tb} {K : PySem.W.Frag} {H H' : Hp} (e : Sm T H H') : ∀ (ds : List PyData) (vs : List V), DpAll K H vs ds → DpAll K H' vs ds
  | [], _, h => by cases h; exact .nil
  | d :: ds, _, h => by
    cases h with
    | cons h1 h2 => exact .cons (dp_same e d _ h1) (dpa_same e ds _ h2)
end
theorem dpa_len {K : PySem.W.Frag} {H : Hp} : ∀ {vs : List V} {ds : List PyData}, DpAll K H vs ds → vs.length = ds.length
  | _, [], h => by cases h; rfl
  | _, _ :: _, h => by
    cases h with
    | cons _ h2 => exact congrArg (· + 1) (dpa_len h2)
theorem dpa_get {K : PySem.W.Frag} {H : Hp} : ∀ {vs : List V} {ds : List PyData}, DpAll K H vs ds → ∀ {i : Nat} {d : PyData}, ds[i]? = some d → ∃ v, vs[i]? = some v ∧ Dp K H v d
  | _, [], h, i, d, e => by simp at e
  | _, d0 :: ds, h, 0, d, e => by
    cases h with
    | cons h1 h2 =>
      obtain rfl : d0 = d := Option.some.inj e
      exact ⟨_, rfl, h1⟩
  | _, d0 :: ds, h, i + 1, d, e => by
    cases h with
    | cons h1 h2 => exact dpa_get h2 (i := i) e
def depOk : Nat → PyData → Bool
  | _, .none => true
  | _, .bool _ => true
  | _, .int _ => true
  | _, .str _ => true
  | n + 1, .list ds => decide (ds.length ≤ 9000) && ds.all (depOk n)
  | n + 1, .tuple ds => decide (ds.length ≤ 9000) && ds.all (depOk n)
  | _, _ => false
def tyD : PyData → String
  | .none => "NoneType"
  | .bool _ => "bool"
  | .int _ => "int"
  | .str _ => "str"
  | .list _ => "list"
  | .tuple _ => "tuple"
  | .dict _ => "dict"
theorem tyx_of {K : PySem.W.Frag} {H : Hp} : ∀ {d : PyData} {v : V}, Dp K H v d → TyX K H v (.type (tyD d))
  | _, _, .non => .base .non
  | _, _, .bl b => .base (.bl b)
  | _, _, .int i => .base (.int i)
  | _, _, .str x => .base (.str x)
  | _, _, .lst (.inl (.inl h)) _ => .base (.lst h)
  | _, _, .lst (.inl (.inr ⟨_, h⟩)) _ => .base (.frz h)
  | _, _, .lst (.inr ⟨_, _, _, h, c, _⟩) _ => .kList h c
  | _, _, .tup (.inl (.inl h)) _ => .base (.tup h)
  | _, _, .tup (.inl (.inr ⟨_, h⟩)) _ => .fTuple h
  | _, _, .tup (.inr ⟨_, _, _, h, c, _⟩) _ => .kTuple h c
theorem rep_all (n : Nat) : (List.replicate n true).all id = true := by
  induction n with
  | zero => rfl
  | succ n ih => rw [List.replicate_succ, List.all_cons, ih]; rfl
def rLen (K : PySem.W.Frag) : List V → Hp → VK → Prop := fun xs H Q => ∃ p ys, xs = [.ref p] ∧ (SqL K H p ys ∨ SqT K H p ys) ∧ Q (.int ys.length) H
def rLst (K : PySem.W.Frag) : List V → Hp → VK → Prop := fun xs H Q => ∃ p ys, xs = [.ref p] ∧ (SqL K H p ys ∨ SqT K H p ys) ∧ ∀ (l : Addr), H l = none → Q (.ref l) (upd H l (.lst ys))
theorem call_list1 {X : Cx} : CallR X (.type "list") (rLst X.K) := call_list_of
theorem call_len1 {X : Cx} : CallR X (.builtin "len") (rLen X.K) := call_len_seq
theorem kb_bool_bool : kitB "bool" "bool" = some true := by decide +kernel
theorem kb_bool_int : kitB "bool" "int" = some true := by decide +kernel
theorem kb_bool_str : kitB "bool" "str" = some false := by decide +kernel
theorem kb_bool_list : kitB "bool" "list" = some false := by decide +kernel
theorem kb_bool_tuple : kitB "bool" "tuple" = some false := by decide +kernel
theorem kb_int_bool : kitB "int" "bool" = some false := by decide +kernel
theorem kb_int_int : kitB "int" "int" = some true := by decide +kernel
theorem kb_int_str : kitB "int" "str" = some false := by decide +kernel
theorem kb_int_list : kitB "int" "list" = some false := by decide +kernel
theorem kb_int_tuple : kitB "int" "tuple" = some false := by decide +kernel
theorem kb_str_bool : kitB "str" "bool" = some false := by decide +kernel
theorem kb_str_int : kitB "str" "int" = some false := by decide +kernel
theorem kb_str_str : kitB "str" "str" = some true := by decide +kernel
theorem kb_str_list : kitB "str" "list" = some false := by decide +kernel
theorem kb_str_tuple : kitB "str" "tuple" = some false := by decide +kernel
theorem kb_list_bool : kitB "list" "bool" = some false := by decide +kernel
theorem kb_list_int : kitB "list" "int" = some false := by decide +kernel
theorem kb_list_str : kitB "list" "str" = some false := by decide +kernel
theorem kb_list_list : kitB "list" "list" = some true := by decide +kernel
theorem kb_list_tuple : kitB "list" "tuple" = some false := by decide +kernel
theorem kb_tuple_bool : kitB "tuple" "bool" = some false := by decide +kernel
theorem kb_tuple_int : kitB "tuple" "int" = some false := by decide +kernel
theorem kb_tuple_str : kitB "tuple" "str" = some false := by decide +kernel
theorem kb_tuple_list : kitB "tuple" "list" = some false := by decide +kernel
theorem kb_tuple_tuple : kitB "tuple" "tuple" = some true := by decide +kernel
theorem kb_NoneType_bool : kitB "NoneType" "bool" = some false := by decide +kernel
theorem kb_NoneType_int : kitB "NoneType" "int" = some false := by decide +kernel
theorem kb_NoneType_str : kitB "NoneType" "str" = some false := by decide +kernel
theorem kb_NoneType_list : kitB "NoneType" "list" = some false := by decide +kernel
theorem kb_NoneType_tuple : kitB "NoneType" "tuple" = some false := by decide +kernel
theorem tyes_t {σ : L2.St} {H : Hp} {Q : Bool → Hp → Prop} (h : Q true H) : tYes σ H Q := h
theorem tyes_i {σ : L2.St} {H : Hp} {A B : Hp → Prop} (h : A H) : tYes σ H (fun b H3 => if b = true then A H3 else B H3) := iteT (A := A H) (B := B H) h
/-! ### draws -/
def Drawn : List Int → List Int → Prop
  | [], [] => True
  | d :: ds, q :: qs => (0 ≤ d ∧ d < q) ∧ Drawn ds qs
  | _, _ => False
theorem Drawn.cons {ds qs : List Int} {q : Int} (h : Drawn ds (q :: qs)) : ∃ d r, ds = d :: r ∧ 0 ≤ d ∧ d < q ∧ Drawn r qs := by
  cases ds with
  | nil => exact h.elim
  | cons d r => exact ⟨d, r, rfl, h.1.1, h.1.2, h.2⟩
theorem Drawn.nil {ds : List Int} (h : Drawn ds []) : ds = [] := by
  cases ds with
  | nil => rfl
  | cons d r => exact h.elim
theorem Drawn.snoc : ∀ {ds qs : List Int} {d q : Int}, Drawn ds qs → 0 ≤ d → d < q → Drawn (ds ++ [d]) (qs ++ [q])
  | [], [], _, _, _, h0, h1 => ⟨⟨h0, h1⟩, trivial⟩
  | [], _ :: _, _, _, h, _, _ => h.elim
  | _ :: _, [], _, _, h, _, _ => h.elim
  | _ :: _, _ :: _, _, _, h, h0, h1 => ⟨h.1, Drawn.snoc h.2 h0 h1⟩
theorem Drawn.length : ∀ {ds qs : List Int}, Drawn ds qs → ds.length = qs.length
  | [], [], _ => rfl
  | [], _ :: _, h => h.elim
  | _ :: _, [], h => h.elim
  | _ :: _, _ :: _, h => congrArg (· + 1) (Drawn.length h.2)
/-! ### amounts -/
abbrev Am := Int × Int
def tv (x : Am) : List V := [.int x.1, .int x.2]
def amt (n d : Int) : Am := ((if d < 0 then -n else n) / (Nat.gcd n.natAbs d.natAbs : Nat), (d.natAbs : Int) / (Nat.gcd n.natAbs d.natAbs : Nat))
theorem amD_dp {K : PySem.W.Frag} {H : Hp} {p : Addr} {x : Am} (h : SqT K H p (tv x)) : Dp K H (.ref p) (.tuple [.int x.1, .int x.2]) := .tup h (.cons (.int _) (.cons (.int _) .nil))
abbrev amD (x : Am) : PyData := .tuple [.int x.1, .int x.2]
theorem tup_dp {K : PySem.W.Frag} {H : Hp} {p : Addr} {x : Am} (h : H p = some (.tup (tv x))) : Dp K H (.ref p) (amD x) := amD_dp (SqT.of h)
theorem pd_at {K : PySem.W.Frag} {H : Hp} {v : V} {x : Am} (h : Dp K H v (amD x)) : ∃ b, v = .ref b ∧ SqT K H b (tv x) := by
  cases h with
  | tup hs ha =>
    cases ha with
    | cons h1 h2 =>
      cases h2 with
      | cons h3 h4 =>
        cases h4
        cases h1
        cases h3
        exact ⟨_, rfl, hs⟩
theorem dpa_app {K : PySem.W.Frag} {H : Hp} : ∀ {vs : List V} {ds : List PyData} {ws : List V} {es : List PyData}, DpAll K H vs ds → DpAll K H ws es → DpAll K H (vs ++ ws) (ds ++ es)
  | _, [], _, _, h, g => by cases h; exact g
  | _, _ :: _, _, _, h, g => by
    cases h with
    | cons h1 h2 => exact .cons h1 (dpa_app h2 g)
theorem dpa_take {K : PySem.W.Frag} {H : Hp} : ∀ {vs : List V} {ds : List PyData} (n : Nat), DpAll K H vs ds → DpAll K H (vs.take n) (ds.take n)
  | _, _, 0, _ => .nil
  | _, [], n + 1, h => by cases h; exact .nil
  | _, _ :: _, n + 1, h => by
    cases h with
    | cons h1 h2 => exact .cons h1 (dpa_take n h2)
theorem dpa_drop {K : PySem.W.Frag} {H : Hp} : ∀ {vs : List V} {ds : List PyData} (n : Nat), DpAll K H vs ds → DpAll K H (vs.drop n) (ds.drop n)
  | _, _, 0, h => h
  | _, [], n + 1, h => by cases h; exact .nil
  | _, _ :: _, n + 1, h => by
    cases h with
    | cons h1 h2 => exact dpa_drop n h2
/-- pairs stay where a list is changed -/
theorem pd_mut {K : PySem.W.Frag} {H : Hp} {v : V} {x : Am} {a : Addr} {o : HO} {xs : List V} (h : Dp K H v (amD x)) (ha : H a = some (.lst xs)) : Dp K (upd H a o) v (amD x) := by
  obtain ⟨b, rfl, hs⟩ := pd_at h
  refine amD_dp ?_
  rcases hs with (hs | ⟨u, hs⟩) | hs
  · exact .inl (.inl (by rw [upd_ne (ne_of hs ha (fun z => by cases z))]; exact hs))
  · exact .inl (.inr ⟨u, by rw [upd_ne (ne_of hs ha (fun z => by cases z))]; exact hs⟩)
  · exact .inr hs
theorem pds_mut {K : PySem.W.Frag} {H : Hp} {a : Addr} {o : HO} {xs : List V} (ha : H a = some (.lst xs)) : ∀ {vs : List V} {qs : List Am}, DpAll K H vs (qs.map amD) → DpAll K (upd H a o) vs (qs.map amD)
  | _, [], h => by cases h; exact .nil
  | _, _ :: _, h => by
    cases h with
    | cons h1 h2 => exact .cons (pd_mut h1 ha) (pds_mut ha h2)
theorem cut_take (xs : List V) (k : Nat) {z : Int} (hz : z = (k : Int)) : cutV xs none (some z) = xs.take k := by
  subst hz
  unfold cutV
  rw [HT.sIx_none, HT.sIx_nat, List.drop_zero, Nat.sub_zero]
  by_cases h : k ≤ xs.length
  · rw [Nat.min_eq_left h]
  · rw [Nat.min_eq_right (by omega), List.take_length, List.take_of_length_le (by omega)]
theorem cut_drop (xs : List V) (k : Nat) {z : Int} (hz : z = (k : Int)) : cutV xs (some z) none = xs.drop k := by
  subst hz
  unfold cutV
  rw [HT.sIx_none, HT.sIx_nat]
  by_cases h : k ≤ xs.length
  · rw [Nat.min_eq_left h, List.take_of_length_le (by rw [List.length_drop]; omega)]
  · rw [Nat.min_eq_right (by omega), List.drop_length, List.drop_of_length_le (by omega), List.take_nil]
theorem dpa_rep {K : PySem.W.Frag} {H : Hp} {vs : List V} {qs : List Am} (h : DpAll K H vs (qs.map amD)) : ∀ n, DpAll K H (List.replicate n vs).flatten (((List.replicate n qs).flatten).map amD)
  | 0 => .nil
  | n + 1 => by
    rw [List.replicate_succ, List.replicate_succ, List.flatten_cons, List.flatten_cons, List.map_append]
    exact dpa_app h (dpa_rep h n)
theorem len_rep {α : Type} (l : List α) : ∀ n, ((List.replicate n l).flatten).length = n * l.length
  | 0 => by simp
  | n + 1 => by rw [List.replicate_succ, List.flatten_cons, List.length_append, len_rep l n, Nat.succ_mul, Nat.add_comm]
/-! ### told tuples in a list that grows -/
def noL : Nat → PyData → Bool
  | _, .none => true
  | _, .bool _ => true
  | _, .int _ => true
  | _, .str _ => true
  | n + 1, .tuple ds => ds.all (noL n)
  | _, _ => false
theorem sqT_mut {K : PySem.W.Frag} {H : Hp} {t a : Addr} {o : HO} {xs ys : List V} (hs : SqT K H t ys) (ha : H a = some (.lst xs)) : SqT K (upd H a o) t ys := by
  rcases hs with (hs | ⟨u, hs⟩) | hs
  · exact .inl (.inl (by rw [upd_ne (ne_of hs ha (fun z => by cases z))]; exact hs))
  · exact .inl (.inr ⟨u, by rw [upd_ne (ne_of hs ha (fun z => by cases z))]; exact hs⟩)
  · exact .inr hs
mutual
theorem noL_mut {K : PySem.W.Frag} {H : Hp} {a : Addr} {o : HO} {xs : List V} (ha : H a = some (.lst xs)) : ∀ (n : Nat) (d : PyData) (v : V), noL n d = true → Dp K H v d → Dp K (upd H a o) v d
  | _, .none, _, _, h => by cases h; exact .non
  | _, .bool b, _, _, h => by cases h; exact .bl b
  | _, .int i, _, _, h => by cases h; exact .int i
  | _, .str x, _, _, h => by cases h; exact .str x
  | 0, .tuple _, _, e, _ => by cases e
  | n + 1, .tuple ds, _, e, h => by
    cases h with
    | tup hs hall => exact .tup (sqT_mut hs ha) (noLs_mut ha n ds _ e hall)
  | 0, .list _, _, e, _ => by cases e
  | _ + 1, .list _, _, e, _ => by cases e
  | 0, .dict _, _, e, _ => by cases e
  | _ + 1, .dict _, _, e, _ => by cases e
theorem noLs_mut {K : PySem.W.Frag} {H : Hp} {a : Addr} {o : HO} {xs : List V} (ha : H a = some (.lst xs)) : ∀ (n : Nat) (ds : List PyData) (vs : List V), ds.all (noL n) = true → DpAll K H vs ds → DpAll K (upd H a o) vs ds
  | _, [], _, _, h => by cases h; exact .nil
  | n, d :: ds, _, e, h => by
    cases h with
    | cons h1 h2 =>
      rw [List.all_cons, Bool.and_eq_true] at e
      exact .cons (noL_mut ha n d _ e.1 h1) (noLs_mut ha n ds _ e.2 h2)
end
/-- the list at fo holds ds -/
def Fd (K : PySem.W.Frag) (H : Hp) (fo : Addr) (ds : List PyData) : Prop := ∃ ts, H fo = some (.lst ts) ∧ DpAll K H ts ds
theorem Fd.keep {T : Tb} {K : PySem.W.Frag} {H H' : Hp} {fo : Addr} {ds : List PyData} (h : Fd K H fo ds) (s : Sm T H H') : Fd K H' fo ds := by
  obtain ⟨ts, h1, h2⟩ := h
  exact ⟨ts, s.k h1, dpa_same s _ _ h2⟩
theorem Fd.push {K : PySem.W.Frag} {H : Hp} {fo : Addr} {ds : List PyData} {ts : List V} {d : PyData} {v : V} (h1 : H fo = some (.lst ts)) (h2 : DpAll K H ts ds) (hv : Dp K H v d) (n1 : ds.all (noL 3) = true := by rfl) (n2 : noL 3 d = true := by rfl) :
    Fd K (upd H fo (.lst (ts ++ [v]))) fo (ds ++ [d]) :=
  ⟨ts ++ [v], upd_same, dpa_app (noLs_mut h1 3 ds _ n1 h2) (.cons (noL_mut h1 3 d v n2 hv) .nil)⟩
theorem Fd.dp {K : PySem.W.Frag} {H : Hp} {fo : Addr} {ds : List PyData} (h : Fd K H fo ds) : Dp K H (.ref fo) (.list ds) := by
  obtain ⟨ts, h1, h2⟩ := h
  exact .lst (SqL.of h1) h2
theorem depOk_ams {qs : List Am} (h : qs.length ≤ 9000) : depOk 5 (.list (qs.map amD)) = true := by
  show (decide ((qs.map amD).length ≤ 9000) && (qs.map amD).all (depOk 4)) = true
  rw [List.length_map, decide_eq_true h, Bool.true_and, List.all_map]
  exact List.all_eq_true.mpr fun q _ => rfl

def topS (i : Nat) : Stmt := PySem.Challenge.pw_pailchain_k05_ways_and_what_is_none.main.body.getD i (.Pass ⟨0, 0, 0, 0⟩)
abbrev s_l_word : Stmt := topS 34
theorem sc_l_word : FnScope ["_law_asked", "e"] ["_law_asked"] (defScope s_l_word) := ⟨rfl, rfl, rfl, by decide +kernel, rfl, by decide +kernel, by decide +kernel⟩
abbrev s_p_is_number : Stmt := topS 15
theorem sc_p_is_number : FnScope ["thing"] ["thing"] (defScope s_p_is_number) := ⟨rfl, rfl, rfl, by decide +kernel, rfl, by decide +kernel, by decide +kernel⟩
abbrev s_p_is_within : Stmt := topS 16
theorem sc_p_is_within : FnScope ["thing", "least", "most"] ["thing", "least", "most"] (defScope s_p_is_within) := ⟨rfl, rfl, rfl, by decide +kernel, rfl, by decide +kernel, by decide +kernel⟩
abbrev s_p_below : Stmt := topS 8
theorem sc_p_below : FnScope ["one", "other"] ["one", "other"] (defScope s_p_below) := ⟨rfl, rfl, rfl, by decide +kernel, rfl, by decide +kernel, by decide +kernel⟩
abbrev s_p_PailError___init__ : Stmt := inClass (topS 11) 0
theorem sc_p_PailError___init__ : FnScope ["self", "word"] ["self", "word"] (defScope s_p_PailError___init__) := ⟨rfl, rfl, rfl, by decide +kernel, rfl, by decide +kernel, by decide +kernel⟩
abbrev s_p_BadWay___init__ : Stmt := inClass (topS 12) 0
theorem sc_p_BadWay___init__ : FnScope ["self"] ["self"] (defScope s_p_BadWay___init__) := ⟨rfl, rfl, rfl, by decide +kernel, rfl, by decide +kernel, by decide +kernel⟩
abbrev s_p_BadPlace___init__ : Stmt := inClass (topS 13) 0
theorem sc_p_BadPlace___init__ : FnScope ["self"] ["self"] (defScope s_p_BadPlace___init__) := ⟨rfl, rfl, rfl, by decide +kernel, rfl, by decide +kernel, by decide +kernel⟩
abbrev s_p_is_stretch : Stmt := topS 20
theorem sc_p_is_stretch : FnScope ["thing", "part"] ["thing"] (defScope s_p_is_stretch) := ⟨rfl, rfl, rfl, by decide +kernel, rfl, by decide +kernel, by decide +kernel⟩
abbrev s_p_check_way : Stmt := topS 21
theorem sc_p_check_way : FnScope ["way", "stretch"] ["way"] (defScope s_p_check_way) := ⟨rfl, rfl, rfl, by decide +kernel, rfl, by decide +kernel, by decide +kernel⟩
abbrev s_p_labour : Stmt := topS 23
theorem sc_p_labour : FnScope ["way", "count", "toil"] ["way"] (defScope s_p_labour) := ⟨rfl, rfl, rfl, by decide +kernel, rfl, by decide +kernel, by decide +kernel⟩
abbrev s_p_steps : Stmt := topS 24
theorem sc_p_steps : FnScope ["way", "count", "toil"] ["way"] (defScope s_p_steps) := ⟨rfl, rfl, rfl, by decide +kernel, rfl, by decide +kernel, by decide +kernel⟩
abbrev s_p_check_within : Stmt := topS 22
theorem sc_p_check_within : FnScope ["where", "end"] ["where", "end"] (defScope s_p_check_within) := ⟨rfl, rfl, rfl, by decide +kernel, rfl, by decide +kernel, by decide +kernel⟩
abbrev s_p_place_at : Stmt := topS 25
theorem sc_p_place_at : FnScope ["way", "step", "place", "left", "count", "toil", "here"] ["way", "step"] (defScope s_p_place_at) := ⟨rfl, rfl, rfl, by decide +kernel, rfl, by decide +kernel, by decide +kernel⟩
abbrev s_p_step_at : Stmt := topS 26
theorem sc_p_step_at : FnScope ["way", "place", "step", "left", "count", "toil", "here"] ["way", "place"] (defScope s_p_step_at) := ⟨rfl, rfl, rfl, by decide +kernel, rfl, by decide +kernel, by decide +kernel⟩
abbrev s_p_stretch_at : Stmt := topS 27
theorem sc_p_stretch_at : FnScope ["way", "place", "end", "number", "count", "toil"] ["way", "place"] (defScope s_p_stretch_at) := ⟨rfl, rfl, rfl, by decide +kernel, rfl, by decide +kernel, by decide +kernel⟩
abbrev s_l_cell : Stmt := topS 29
theorem sc_l_cell : FnScope ["_law_script", "_law_k"] ["_law_script", "_law_k"] (defScope s_l_cell) := ⟨rfl, rfl, rfl, by decide +kernel, rfl, by decide +kernel, by decide +kernel⟩
abbrev s_l_draws : Stmt := topS 30
theorem sc_l_draws : FnScope ["_law_cell_here", "_law_parts", "_law_one", "_law_two", "_law_six", "_law_found", "_law_part"] ["_law_cell_here", "_law_parts"] (defScope s_l_draws) := ⟨rfl, rfl, rfl, by decide +kernel, rfl, by decide +kernel, by decide +kernel⟩
abbrev s_l_split : Stmt := topS 31
theorem sc_l_split : FnScope ["_law_cell_here", "_law_many_here", "_law_found", "_law_big", "_law_k"] ["_law_cell_here", "_law_many_here"] (defScope s_l_split) := ⟨rfl, rfl, rfl, by decide +kernel, rfl, by decide +kernel, by decide +kernel⟩
abbrev s_l_many : Stmt := topS 32
theorem sc_l_many : FnScope ["_law_script", "_law_few"] ["_law_script", "_law_few"] (defScope s_l_many) := ⟨rfl, rfl, rfl, by decide +kernel, rfl, by decide +kernel, by decide +kernel⟩
abbrev s_l_same : Stmt := topS 33
theorem sc_l_same : FnScope ["_law_found", "_law_due", "_law_k"] ["_law_found", "_law_due"] (defScope s_l_same) := ⟨rfl, rfl, rfl, by decide +kernel, rfl, by decide +kernel, by decide +kernel⟩
abbrev s_l_way : Stmt := topS 35
theorem sc_l_way : FnScope ["_law_cell_here", "_law_drawn", "_law_cap", "_law_many_here", "_law_k"] ["_law_cell_here"] (defScope s_l_way) := ⟨rfl, rfl, rfl, by decide +kernel, rfl, by decide +kernel, by decide +kernel⟩
abbrev s_l_labour : Stmt := topS 36
theorem sc_l_labour : FnScope ["_law_way_here", "_law_found", "_law_count", "_law_toil", "_law_step"] ["_law_way_here"] (defScope s_l_labour) := ⟨rfl, rfl, rfl, by decide +kernel, rfl, by decide +kernel, by decide +kernel⟩
abbrev s_l_way_ok : Stmt := topS 37
theorem sc_l_way_ok : FnScope ["_law_way_here", "_law_count", "_law_toil"] ["_law_way_here"] (defScope s_l_way_ok) := ⟨rfl, rfl, rfl, by decide +kernel, rfl, by decide +kernel, by decide +kernel⟩
abbrev s_l_spoilt_way : Stmt := topS 38
theorem sc_l_spoilt_way : FnScope ["_law_cell_here", "_law_way_here", "_law_kind", "_law_at", "_law_side", "_law_odd", "_law_far", "_law_number", "_law_pair"] ["_law_cell_here", "_law_way_here"] (defScope s_l_spoilt_way) := ⟨rfl, rfl, rfl, by decide +kernel, rfl, by decide +kernel, by decide +kernel⟩
abbrev s_LAW : Stmt := topS 39
theorem sc_LAW : FnScope ["_law_script", "_law_k", "_law_first", "_law_second", "_law_way_here", "_law_found", "_law_handed", "_law_count", "_law_toil"] ["_law_script"] (defScope s_LAW) := ⟨rfl, rfl, rfl, by decide +kernel, rfl, by decide +kernel, by decide +kernel⟩
structure Bn (mg : Str → Option Value) : Prop where
  ValueError_ : mg "ValueError" = none
  all_ : mg "all" = none
  bool_ : mg "bool" = none
  int_ : mg "int" = none
  isinstance_ : mg "isinstance" = none
  len_ : mg "len" = none
  list_ : mg "list" = none
  max_ : mg "max" = none
  min_ : mg "min" = none
  range_ : mg "range" = none
  str_ : mg "str" = none
  sum_ : mg "sum" = none
  tuple_ : mg "tuple" = none

theorem gcd_cut {a b : Nat} (hb : 0 < b) : ∃ g x y : Nat, 0 < g ∧ g = Nat.gcd a b ∧ a = g * x ∧ b = g * y ∧ 0 < y ∧ Nat.gcd x y = 1 := by
  have hg : 0 < Nat.gcd a b := Nat.gcd_pos_of_pos_right _ hb
  obtain ⟨x, hx⟩ := Nat.gcd_dvd_left a b
  obtain ⟨y, hy⟩ := Nat.gcd_dvd_right a b
  refine ⟨Nat.gcd a b, x, y, hg, rfl, hx, hy, ?_, ?_⟩
  · cases y with
    | zero => rw [Nat.mul_zero] at hy; omega
    | succ n => exact Nat.succ_pos n
  · have e : Nat.gcd a b * Nat.gcd x y = Nat.gcd a b * 1 := by
      have h2 : Nat.gcd (Nat.gcd a b * x) (Nat.gcd a b * y) = Nat.gcd a b * Nat.gcd x y := Nat.gcd_mul_left _ _ _
      rw [← hx, ← hy] at h2
      rw [← h2, Nat.mul_one]
    exact Nat.eq_of_mul_eq_mul_left hg e
/-- an amount in lowest terms -/
def Low (x : Int × Int) : Prop := 0 < x.2 ∧ Nat.gcd x.1.natAbs x.2.natAbs = 1
theorem amt_spec {n d : Int} (hd : d ≠ 0) : Low (amt n d) ∧ (amt n d).1 * d = n * (amt n d).2 ∧ (amt n d).1.natAbs ≤ n.natAbs ∧ (amt n d).2.natAbs ≤ d.natAbs := by
  obtain ⟨g, x, y, hg, eg, ex, ey, hy, h1⟩ := gcd_cut (a := n.natAbs) (b := d.natAbs) (by omega)
  have gi : ((g : Nat) : Int) ≠ 0 := by omega
  have e2 : (amt n d).2 = (y : Int) := by
    show ((d.natAbs : Nat) : Int) / ((Nat.gcd n.natAbs d.natAbs : Nat) : Int) = _
    rw [← eg, ey, Int.natCast_mul, Int.mul_ediv_cancel_left _ gi]
  have hyd : d.natAbs ≥ y := by
    rw [ey]; exact Nat.le_mul_of_pos_left _ hg
  have hxn : n.natAbs ≥ x := by
    rw [ex]; exact Nat.le_mul_of_pos_left _ hg
  have exi : ((n.natAbs : Nat) : Int) = (g : Int) * (x : Int) := by rw [ex, Int.natCast_mul]
  have eyi : ((d.natAbs : Nat) : Int) = (g : Int) * (y : Int) := by rw [ey, Int.natCast_mul]
  have main : ∀ (s : Int), (s = 1 ∨ s = -1) → (if d < 0 then -n else n) = s * ((g : Int) * (x : Int)) → (n = s * ((g : Int) * (x : Int)) ∧ d = (g : Int) * (y : Int) ∨ n = -(s * ((g : Int) * (x : Int))) ∧ d = -((g : Int) * (y : Int))) →
      Low (amt n d) ∧ (amt n d).1 * d = n * (amt n d).2 ∧ (amt n d).1.natAbs ≤ n.natAbs ∧ (amt n d).2.natAbs ≤ d.natAbs := by
    intro s hs e hnd
    have e1 : (amt n d).1 = s * (x : Int) := by
      show (if d < 0 then -n else n) / ((Nat.gcd n.natAbs d.natAbs : Nat) : Int) = _
      rw [← eg, e, Int.mul_left_comm, Int.mul_ediv_cancel_left _ gi]
    have ab : (s * (x : Int)).natAbs = x := by
      rcases hs with rfl | rfl
      · rw [Int.one_mul, Int.natAbs_natCast]
      · rw [Int.neg_mul, Int.one_mul, Int.natAbs_neg, Int.natAbs_natCast]
    refine ⟨⟨by rw [e2]; omega, ?_⟩, ?_, ?_, ?_⟩
    · rw [e1, e2, ab, Int.natAbs_natCast]; exact h1
    · rw [e1, e2]
      rcases hnd with ⟨a, b⟩ | ⟨a, b⟩
      · rw [a, b, Int.mul_assoc, Int.mul_assoc, Int.mul_left_comm (x : Int) (g : Int) (y : Int), Int.mul_assoc]
      · rw [a, b, Int.mul_neg, Int.neg_mul, Int.mul_assoc, Int.mul_assoc, Int.mul_left_comm (x : Int) (g : Int) (y : Int), Int.mul_assoc]
    · rw [e1, ab]; exact hxn
    · rw [e2, Int.natAbs_natCast]; exact hyd
  by_cases hdn : d < 0
  · by_cases hnn : n < 0
    · exact main 1 (.inl rfl) (by rw [if_pos hdn, Int.one_mul]; omega) (.inr ⟨by rw [Int.one_mul]; omega, by omega⟩)
    · exact main (-1) (.inr rfl) (by rw [if_pos hdn, Int.neg_mul, Int.one_mul]; omega) (.inr ⟨by rw [Int.neg_mul, Int.one_mul]; omega, by omega⟩)
  · by_cases hnn : n < 0
    · exact main (-1) (.inr rfl) (by rw [if_neg hdn, Int.neg_mul, Int.one_mul]; omega) (.inl ⟨by rw [Int.neg_mul, Int.one_mul]; omega, by omega⟩)
    · exact main 1 (.inl rfl) (by rw [if_neg hdn, Int.one_mul]; omega) (.inl ⟨by rw [Int.one_mul]; omega, by omega⟩)
/-- two amounts in lowest terms of the same worth are the same -/
theorem low_eq {x y : Int × Int} (hx : Low x) (hy : Low y) (e : x.1 * y.2 = y.1 * x.2) : x = y := by
  obtain ⟨a, b⟩ := x
  obtain ⟨c, d⟩ := y
  obtain ⟨hb, g1⟩ := hx
  obtain ⟨hd, g2⟩ := hy
  simp only at hb g1 hd g2 e
  have en : a.natAbs * d.natAbs = c.natAbs * b.natAbs := by rw [← Int.natAbs_mul, ← Int.natAbs_mul, e]
  have h1 : b.natAbs ∣ d.natAbs := by
    have : b.natAbs ∣ a.natAbs * d.natAbs := ⟨c.natAbs, by rw [en, Nat.mul_comm]⟩
    exact Nat.Coprime.dvd_of_dvd_mul_left (show Nat.Coprime b.natAbs a.natAbs by rw [Nat.Coprime, Nat.gcd_comm]; exact g1) this
  have h2 : d.natAbs ∣ b.natAbs := by
    have : d.natAbs ∣ c.natAbs * b.natAbs := ⟨a.natAbs, by rw [← en, Nat.mul_comm]⟩
    exact Nat.Coprime.dvd_of_dvd_mul_left (show Nat.Coprime d.natAbs c.natAbs by rw [Nat.Coprime, Nat.gcd_comm]; exact g2) this
  have h3 : b.natAbs = d.natAbs := Nat.dvd_antisymm h1 h2
  have h4 : b = d := by omega
  subst h4
  have h5 : a = c := Int.eq_of_mul_eq_mul_right (by omega) e
  rw [h5]
theorem amt_low {x : Int × Int} (h : Low x) : amt x.1 x.2 = x := by
  have s := amt_spec (n := x.1) (d := x.2) (by have := h.1; omega)
  exact low_eq s.1 h s.2.1
theorem amt_eq {n d m e : Int} (hd : d ≠ 0) (he : e ≠ 0) (h : n * e = m * d) : amt n d = amt m e := by
  have s := amt_spec (n := n) (d := d) hd
  have t := amt_spec (n := m) (d := e) he
  refine low_eq s.1 t.1 ?_
  -- (amt n d).1 * d = n * (amt n d).2 ; (amt m e).1 * e = m * (amt m e).2
  have key : ((amt n d).1 * (amt m e).2) * (d * e) = ((amt m e).1 * (amt n d).2) * (d * e) := by
    calc ((amt n d).1 * (amt m e).2) * (d * e) = ((amt n d).1 * d) * ((amt m e).2 * e) := by ac_rfl
      _ = (n * (amt n d).2) * ((amt m e).2 * e) := by rw [s.2.1]
      _ = (n * e) * ((amt n d).2 * (amt m e).2) := by ac_rfl
      _ = (m * d) * ((amt n d).2 * (amt m e).2) := by rw [h]
      _ = (m * (amt m e).2) * ((amt n d).2 * d) := by ac_rfl
      _ = ((amt m e).1 * e) * ((amt n d).2 * d) := by rw [t.2.1]
      _ = ((amt m e).1 * (amt n d).2) * (d * e) := by ac_rfl
  exact Int.eq_of_mul_eq_mul_right (Int.mul_ne_zero hd he) key

section
variable {P : Program} {w : World} {K : PySem.W.Frag} {T : Tb} {mg : Str → Option Value} {base : Heap}
/-! ### refusals: own error classes whose __init__ calls the base's -/
/-- C.m(e, ..), m a def read off the own class C -/
theorem pe_clsfn {X : Cx} {x m : Str} {C f : Addr} {mc : Value} {k : Nat} {fd : FuncData} {ps : List Str} {sp : Sp} {e : Expr} {es : List Expr} {t : TA} {p1 p2 pos : Pos} {pl : Sem Bool}
    (r : ClX.CRead X.K C mc) (hat : PySem.W.findCls X.K (.ref C) mc m = some (.val (.ref f))) (F : FnOk X.prog X.w X.K X.mg X.base CX0 k f fd ps sp) (hr : Room k X.A) (hg : Gl X x) (hm : X.mg x = some (.ref C))
    (hk : PySem.W.keepIn X.K (.ref f) = true) (hb : Binds X.K fd ps []) (ha : PA X (e :: es) t)
    (hc : eval (.Call (.Attribute (.Name x p1) m p2) (e :: es) [] pos) X.env = (do
      let ov ← eval (.Name x p1) X.env
      standAt p2.atName
      let (f, first) ← holding [ov] (getMethod ov m pl)
      callWith pos f first (backTo pos (starEach (e :: es) X.env)) (backToKw pos (keywordEach [] X.env))) := by rfl)
    (hdb : (x == ("__debug__" : Str)) = false := by decide) (he : starEach (e :: es) X.env = (false, eval e X.env) :: starEach es X.env := by rfl) (hpl : (backTo pos (starEach es X.env)).any (·.1) = false := by rfl) :
    PE X (.Call (.Attribute (.Name x p1) m p2) (e :: es) [] pos) (tCall sp [] E0 t) := by
  refine ⟨fun pins s σ H Q I h => ?_⟩
  refine PySem.W.methodCall_KW (ld_glob I hg hm ?_ hdb) hc
  refine PySem.W.method_cls I.kIn r.ga (PySem.W.cls_value I.kIn r.rd hat rfl ?_)
  show wpAny _ _ (callWith pos (Value.ref f) [] (backTo pos (starEach (e :: es) X.env)) []) _ _ _
  refine PySem.W.callWith_K (h₀ := X.base) I.ok.mod.kin hk (thn (ha.run pos pins _ σ H _ (I.tok _) h) fun us s1 ⟨vs, H1, I1, r1, q1⟩ => ⟨I1.kIn, ?_⟩) he hpl
  exact run_fn F hr hb .nil pass0 I1 r1 q1
/-- C(), C's own __init__ keeping sp -/
theorem pmk_oex0 {X : Cx} {x : Str} {C fI : Addr} {k : Nat} {fd : FuncData} {ps : List Str} {sp : Sp} {p pos : Pos} (T : OexC X.K C) (iC : PySem.W.findIn X.K (.ref C) "__init__" = some (some (.ref fI))) (tI : PySem.W.typeIn X.K (.ref fI) = some (.type "function"))
    (F1 : FnOk X.prog X.w X.K X.mg X.base CX0 k fI fd ps sp) (hr : Room (k + 1) X.A) (hb : Binds X.K fd ps []) (hg : Gl X x) (hm : X.mg x = some (.ref C)) (hdb : (x == ("__debug__" : Str)) = false := by decide) :
    PMk X (.Call (.Name x p) [] [] pos) (tMkO C sp [] tNil) := by
  intro pins s σ H Q I h
  obtain ⟨nm, q, N, bs, bm, sn, sub, ab, col, dd, k0, k1, k2, k3, k5, hC, hbm⟩ := T.cls
  refine wpAny_Call_Name_kw (ld_glob I hg hm ?_ hdb)
  refine PySem.W.callWith_K0 I.kIn T.kC ?_
  show wpAny _ _ (call (.ref C) []) _ _ _
  obtain ⟨hz, q1⟩ : ([] : List V).length ≤ 1000 ∧ _ := h
  obtain ⟨hp, g, dr, tk, os⟩ := s
  have hsz : hp.objs.size ≤ hp.objs.size + 1 := Nat.le_succ _
  have hn : H (hp.objs.size + 1) = none := I.hok.fresh hsz
  have hq := q1 (hp.objs.size + 1) hn
  have kk : ∀ b o, hp.get? b = some o → ((hp.push (PySem.W.kdv_tup [])).push (PySem.HandSPX.excO C hp.objs.size)).get? b = some o := fun b o e => Heap.get?_push_of_some _ (Heap.get?_push_of_some _ e)
  have hget : ((hp.push (PySem.W.kdv_tup [])).push (PySem.HandSPX.excO C hp.objs.size)).get? (hp.objs.size + 1) = some (PySem.HandSPX.excO C hp.objs.size) := by heap_get
  have I2 : Inv X pins σ (upd H (hp.objs.size + 1) (exo (hp.objs.size + 1) C none)) ⟨(hp.push (PySem.W.kdv_tup [])).push (PySem.HandSPX.excO C hp.objs.size), g, dr, tk, os⟩ :=
    I.laid (t' := tk) (a := hp.objs.size + 1) (o := exo (hp.objs.size + 1) C none) (h' := (hp.push (PySem.W.kdv_tup [])).push (PySem.HandSPX.excO C hp.objs.size)) kk hsz (exo_ok hget)
  have r2 : Vals (V.ref (hp.objs.size + 1) :: ([] ++ [])) ([Value.ref (hp.objs.size + 1)] ++ []) := .cons rfl .nil
  have hl : (Value.ref (hp.objs.size + 1) :: [] ++ []).length = ps.length := by
    have e := r2.length
    rw [F1.len _ _ _ _ hq] at e
    exact e.symm
  have hus : ([] : List Value).length ≤ sizeLine := Nat.zero_le _
  refine wpAny_call (PySem.HandSPX.call_own F.excBase_ValueError (fun Y => PySem.HandSPX.refsVE_contains Y bm hbm) (I.kIn _ _ hC) (PySem.W.looks_findIn I.kIn iC) (fun self => PySem.W.bind_fn I.kIn self tI) hus
    (codeAny_mono (F1.run _ X.stack _ _ ⟨Value.ref (hp.objs.size + 1) :: [], []⟩ ([Value.ref (hp.objs.size + 1)] ++ []) _ _ (fun _ _ _ => False) (hr.make C [] []) (I2.env0.make C [] []) (hb _ (Value.ref (hp.objs.size + 1) :: []) I2.kIn hl) r2 hq) fun r s' hq' => ?_))
  cases r with
  | error er => exact (show False from hq').elim
  | ok fl =>
    cases fl with
    | ret u =>
      obtain ⟨v, H2, os2, bare2, un2, hok2, rv, ev, d, fs, ea, ed, hd1, q2⟩ := hq'
      subst ev
      obtain ⟨h2, g2, d2, t2, os'⟩ := s'
      exact ⟨rv, mk_end (raises_own T.exC T.tyC) I hsz kk un2 hok2 os2 bare2 ea ed hd1 q2⟩
    | next => exact False.elim hq'
    | brk => exact False.elim hq'
    | cont => exact False.elim hq'
/-- what stands of a refusal that flies: its word -/
def Rf (K : PySem.W.Frag) (CP : Addr) (word : Str) (cls : Value) (d : Option Addr) (H' : Hp) : Prop :=
  ∃ C dd, cls = .ref C ∧ d = some dd ∧ XfC K C ∧ PySem.W.findIn K (.ref C) "word" = some none ∧ PySem.W.exmOne K (.ref C) (.ref CP) = some true ∧ H' dd = some (.xd [(("word" : Str), .str word)])
theorem Rf.keep {T : Tb} {K : PySem.W.Frag} {CP : Addr} {word : Str} {cls : Value} {d : Option Addr} {H H' : Hp} (h : Rf K CP word cls d H) (s : Sm T H H') : Rf K CP word cls d H' := by
  obtain ⟨C, dd, h1, h2, h3, h4, h5, h6⟩ := h
  exact ⟨C, dd, h1, h2, h3, h4, h5, s.k h6⟩
/-- the promise of PailError.__init__ and of those under it -/
def spInit2 (K : PySem.W.Frag) : Sp := fun vs H Q _ => ∃ (a C : Addr) (w : Str), vs = [.ref a, .str w] ∧ OexC K C ∧ PySem.W.findIn K (.ref C) "word" = some none ∧ H a = some (exo a C none) ∧
  ∀ dx, H dx = none → dx ≠ a → Q .non (upd (upd H dx (exd dx [(("word" : Str), .str w)])) a (exo a C (some dx)))
def spInit (w : Str) (K : PySem.W.Frag) : Sp := fun vs H Q _ => ∃ (a C : Addr), vs = [.ref a] ∧ OexC K C ∧ PySem.W.findIn K (.ref C) "word" = some none ∧ H a = some (exo a C none) ∧
  ∀ dx, H dx = none → dx ≠ a → Q .non (upd (upd H dx (exd dx [(("word" : Str), .str w)])) a (exo a C (some dx)))
/-- the error class by the name x, its word -/
structure Err (P : Program) (w : World) (K : PySem.W.Frag) (mg : Str → Option Value) (base : Heap) (CP : Addr) (x word : Str) : Prop where
  ex : ∃ (C fI : Addr) (fd : FuncData), mg x = some (.ref C) ∧ OexC K C ∧ XfC K C ∧ PySem.W.findIn K (.ref C) "word" = some none ∧ PySem.W.exmOne K (.ref C) (.ref CP) = some true ∧
    PySem.W.findIn K (.ref C) "__init__" = some (some (.ref fI)) ∧ PySem.W.typeIn K (.ref fI) = some (.type "function") ∧ FnOk P w K mg base CX0 2 fI fd ["self"] (spInit word K) ∧ Binds K fd ["self"] []
def tErr (K : PySem.W.Frag) (CP : Addr) (word : Str) : L2.St → Hp → XK → Prop := fun _ H Q => ∀ cls dd, H dd = none → Rf K CP word cls (some dd) (upd H dd (.xd [(("word" : Str), .str word)])) → Q cls (some dd) (upd H dd (.xd [(("word" : Str), .str word)]))
theorem pmk_err {X : Cx} {CP : Addr} {x word : Str} {p pos : Pos} (R : Err X.prog X.w X.K X.mg X.base CP x word) (hr : Room 3 X.A) (hg : Gl X x) (hdb : (x == ("__debug__" : Str)) = false := by decide) :
    PMk X (.Call (.Name x p) [] [] pos) (tErr X.K CP word) := by
  obtain ⟨C, fI, fd, g, oc, xf, nw, ex, iC, tI, F, b⟩ := R.ex
  intro pins s σ H Q I h
  refine pmk_oex0 (k := 2) oc iC tI F hr b hg g hdb pins s σ H Q I ⟨Nat.zero_le _, fun a ha => ⟨a, C, rfl, oc, nw, upd_same, fun dx hdx hne => ⟨rfl, dx, [(("word" : Str), .str word)], upd_same, ?_, ?_, ?_⟩⟩⟩
  · rw [upd_ne hne, upd_same]
  · rw [upd_ne hne] at hdx
    exact hdx
  · have hd : H dx = none := by
      rw [upd_ne hne] at hdx
      exact hdx
    have e : upd (L2.del (upd (upd (upd H a (exo a C none)) dx (exd dx [(("word" : Str), .str word)])) a (exo a C (some dx))) a) dx (.xd [(("word" : Str), .str word)]) = upd H dx (.xd [(("word" : Str), .str word)]) := by
      funext c
      by_cases h1 : c = dx
      · rw [h1, upd_same, upd_same]
      · rw [upd_ne h1, upd_ne h1]
        by_cases h2 : c = a
        · rw [h2, L2.del_same, ha]
        · rw [L2.del_ne h2, upd_ne h2, upd_ne h1, upd_ne h2]
    rw [e]
    exact h (.ref C) dx hd ⟨C, dx, rfl, rfl, xf, nw, ex, upd_same⟩
/-- e.word, e the refusal that the suite holds -/
def tXw (K : PySem.W.Frag) (a : Addr) (cls : Value) (d : Option Addr) (te : TE) : TE := fun σ H Q => te σ H fun x H1 => x = .ref a ∧ ∃ (C dd : Addr) (v : V), cls = .ref C ∧ XfC K C ∧ PySem.W.findIn K (.ref C) "word" = some none ∧ d = some dd ∧ H1 dd = some (.xd [(("word" : Str), v)]) ∧ Q v H1
theorem pe_xw {X : Cx} {a : Addr} {oe : Obj} {cls : Value} {d : Option Addr} {pn : List (Addr × Obj)} {e : Expr} {te : TE} {pos : Pos}
    (hz : Zc cls d oe) (hf : ∃ vs, oe.data = .fields vs) (he : PE (X.suite a ((a, oe) :: pn)) e te) (hb : attributeBase e "word" X.env (eval e X.env) = eval e X.env := by rfl) :
    PE (X.suite a ((a, oe) :: pn)) (.Attribute e "word" pos) (tXw X.K a cls d te) := by
  refine ⟨fun pins s σ H Q I h => ?_⟩
  refine attr_of hb (thn (he.run pins s σ H _ I h) fun u s1 hh => ?_)
  obtain ⟨x, H1, I1, rx, ex, C, dd, v, ec, T, hno, ed, ea, q⟩ := hh
  subst ex
  obtain rfl : u = Value.ref a := rx
  subst ec
  subst ed
  obtain ⟨ha, _⟩ := I1.pin (a, oe) (List.mem_append_left _ List.mem_cons_self)
  obtain ⟨vs, hd⟩ := hf
  have hx : ObjOk X.prog X.w H1 s1.heap dd (.xd [(("word" : Str), v)]) := I1.hok dd _ ea
  obtain ⟨mA, hns, hr⟩ := hx
  obtain ⟨od, ho, hl⟩ := lookIn_ns hns
  have l : List.lookup ("word" : Str) [(("word" : Str), v)] = some v := by simp [List.lookup]
  obtain ⟨u, hu, ru⟩ := RelO.some_of (v := v) (o := mA "word") (by rw [← l]; exact hr "word")
  have J : PySem.W.InstAt s1.heap a oe C (some od) := ⟨ha, hz.1, by unfold PySem.W.notCls; rw [hd] <;> rfl, by rw [hz.2]; exact ho⟩
  exact HandSPX.exc_get I1.kIn J T.ga T.gg T.exC (PySem.W.findObj_own T.hdC hno rfl (by rw [hl, hu])) (handed_of ru) ⟨v, H1, I1.tok _, ru, q⟩
/-! ### a def that may raise, ready to be called -/
structure Fx (P : Program) (w : World) (K : PySem.W.Frag) (mg : Str → Option Value) (base : Heap) (k : Nat) (x : Str) (ps : List Str) (sp : Sp) : Prop where
  ex : ∃ f fd, FnOk P w K mg base (L2.CX P w) k f fd ps sp ∧ mg x = some (.ref f) ∧ PySem.W.keepIn K (.ref f) = true ∧ Binds K fd ps []
theorem Fx.mk' {P : Program} {w : World} {K : PySem.W.Frag} {mg : Str → Option Value} {base : Heap} {k : Nat} {x : Str} {ps : List Str} {sp : Sp} {f : Addr} {fd : FuncData}
    (h : FnOk P w K mg base (L2.CX P w) k f fd ps sp) (g : mg x = some (.ref f)) (kp : PySem.W.keepIn K (.ref f) = true) (b : Binds K fd ps []) : Fx P w K mg base k x ps sp := ⟨⟨f, fd, h, g, kp, b⟩⟩
theorem pe_fx {X : Cx} {k : Nat} {x : Str} {ps : List Str} {sp : Sp} {e : Expr} {es : List Expr} {t : TA} {p pos : Pos} {E : XK} (F : Fx X.prog X.w X.K X.mg X.base k x ps sp) (hr : Room k X.A) (tk : Takes X (fun cls d _ H => E cls d H)) (ha : PA X (e :: es) t) (hg : Gl X x := by rfl) (hdb : (x == ("__debug__" : Str)) = false := by decide)
    (he : starEach (e :: es) X.env = (false, eval e X.env) :: starEach es X.env := by rfl) (hpl : (backTo pos (starEach es X.env)).any (·.1) = false := by rfl) :
    PE X (.Call (.Name x p) (e :: es) [] pos) (tCall sp [] E t) := by
  obtain ⟨f, fd, h, g, kp, b⟩ := F.ex
  exact pe_call h hr hg g kp b .nil (passes_call tk fun _ _ _ _ h => h) ha hdb he hpl
/-- .. where nothing is to be let out -/
theorem pe_fx0 {X : Cx} {k : Nat} {x : Str} {ps : List Str} {sp : Sp} {e : Expr} {es : List Expr} {t : TA} {p pos : Pos} (F : Fx X.prog X.w X.K X.mg X.base k x ps sp) (hr : Room k X.A) (ha : PA X (e :: es) t) (hg : Gl X x := by rfl) (hdb : (x == ("__debug__" : Str)) = false := by decide)
    (he : starEach (e :: es) X.env = (false, eval e X.env) :: starEach es X.env := by rfl) (hpl : (backTo pos (starEach es X.env)).any (·.1) = false := by rfl) :
    PE X (.Call (.Name x p) (e :: es) [] pos) (tCall sp [] E0 t) := by
  obtain ⟨f, fd, h, g, kp, b⟩ := F.ex
  exact pe_call h hr hg g kp b .nil passL ha hdb he hpl
/-! ### a def whose code object is told -/
structure FunC (K : PySem.W.Frag) (x qual : Str) (st : Stmt) (f : Addr) (fd : FuncData) (c : Addr) : Prop where
  ex : ∃ (oc : Value) (od : Option Addr) (kV doc pm : Value) (an : Option Addr) (ct : Value) (osl : Array (Option Value)),
    fd = PySem.W.fnOf x qual (defArgs st) (defBody st) (defScope st) .none kV doc pm an (.ref c) ct ∧ K.lookup f = some ⟨oc, od, .func fd, osl⟩ ∧ PySem.W.codeIn K (.ref c) qual = true
  kp : PySem.W.keepIn K (.ref f) = true
theorem FunC.ok {P : Program} {w : World} {K : PySem.W.Frag} {mg : Str → Option Value} {base : Heap} {x qual : Str} {st : Stmt} {f c : Addr} {fd : FuncData} {N ps : List Str} {k : Nat} {sp : Sp} (F : FunC K x qual st f fd c) (S : FnScope N ps (defScope st)) (len : ∀ vs H Q E, sp vs H Q E → vs.length = ps.length)
    (hbody : ∀ (A : Around) (outer : List Env) (s : Shared) (H : Hp) (vs : List V) (Q : VK) (E : XK), Room k (A.deeper (envOfC qual (defScope st) s.heap.objs.size f (.ref c))) → sp vs H Q E →
      ∃ t, PSs (cxOf CX0 P w K mg base N qual (defScope st) f (.ref c) A outer s H E).nox (defBody st) t ∧ t { nx := fun _ H' => Q .non H', rt := Q } (start N vs) H) : FnOk P w K mg base CX0 (k + 1) f fd ps sp := by
  obtain ⟨oc, od, kV, doc, pm, an, ct, osl, rfl, lk, hcd⟩ := F.ex
  refine fn_of lk hcd S len fun A outer s H vs Q E hr hsp => ?_
  obtain ⟨t, h, q⟩ := hbody A outer s H vs Q E hr hsp
  exact ⟨t, h.nox, q⟩
theorem FunC.okX {P : Program} {w : World} {K : PySem.W.Frag} {mg : Str → Option Value} {base : Heap} {x qual : Str} {st : Stmt} {f c : Addr} {fd : FuncData} {N ps : List Str} {k : Nat} {sp : Sp} (F : FunC K x qual st f fd c) (S : FnScope N ps (defScope st)) (len : ∀ vs H Q E, sp vs H Q E → vs.length = ps.length)
    (hbody : ∀ (A : Around) (outer : List Env) (s : Shared) (H : Hp) (vs : List V) (Q : VK) (E : XK), Room k (A.deeper (envOfC qual (defScope st) s.heap.objs.size f (.ref c))) → sp vs H Q E →
      ∃ t, PSs (cxOf (L2.CX P w) P w K mg base N qual (defScope st) f (.ref c) A outer s H E) (defBody st) t ∧ t { nx := fun _ H' => Q .non H', rt := Q } (start N vs) H) : FnOk P w K mg base (L2.CX P w) (k + 1) f fd ps sp := by
  obtain ⟨oc, od, kV, doc, pm, an, ct, osl, rfl, lk, hcd⟩ := F.ex
  exact fn_of lk hcd S len fun A outer s H vs Q E hr hsp => hbody A outer s H vs Q E hr hsp
theorem FunC.binds {K : PySem.W.Frag} {x qual : Str} {st : Stmt} {f c : Addr} {fd : FuncData} {ps : List Str} (F : FunC K x qual st f fd c)
    (h : ∀ (kV doc pm : Value) (an : Option Addr) (ct : Value) (us : List Value), us.length = ps.length → bindArgs (PySem.W.fnOf x qual (defArgs st) (defBody st) (defScope st) .none kV doc pm an (.ref c) ct) ⟨us, []⟩ = pure (ps.zip us)) : Binds K fd ps [] := by
  obtain ⟨oc, od, kV, doc, pm, an, ct, osl, rfl, lk, hcd⟩ := F.ex
  exact .all (h kV doc pm an ct)
theorem exm_of {K : PySem.W.Frag} {C S : Addr} (h1 : PySem.W.subIn K (.ref S) (.type "BaseException") = some true) (h2 : PySem.W.isClsIn K S = true) (h3 : PySem.W.typeIn K (.ref S) = some (.type "type")) (h4 : PySem.W.subIn K (.ref C) (.ref S) = some true) :
    PySem.W.exmOne K (.ref C) (.ref S) = some true := by
  have e1 : (PySem.W.subIn K (.ref S) (.type "BaseException") == some true) = true := by rw [h1] <;> rfl
  have e2 : ((PySem.W.clsIn K S).isSome && PySem.W.typeIn K (.ref S) == some (.type "type")) = true := by
    have h2' : (PySem.W.clsIn K S).isSome = true := h2
    rw [h2', h3] <;> rfl
  show (if (PySem.W.subIn K (.ref S) (.type "BaseException") == some true) = true then (if ((PySem.W.clsIn K S).isSome && PySem.W.typeIn K (.ref S) == some (.type "type")) = true then PySem.W.subIn K (.ref C) (.ref S) else none) else none) = some true
  rw [if_pos e1, if_pos e2]
  exact h4

/-! ### generator expressions -/
theorem sm_tabbed {T : Tb} {H H' : Hp} {P : Addr} (hn : (T.map (·.1)).Nodup) (hP : (P, (none : Option Str)) ∈ T) (ht : GxR.TabG H P) (h : GxR.Tabbed P H H') : Sm T H H' := by
  obtain ⟨ps, e, _⟩ := ht
  have ne : ∀ b o, H b = some o → nTbl o → b ≠ P := fun b o q n z => by
    rw [z, e] at q
    cases q
    exact n
  refine ⟨fun b o q n => by rw [h.2 b (ne b o q n)]; exact q, fun k p hp => ?_, fun l hl => ?_⟩
  · by_cases hb : p.1 = P
    · have ep : p = (P, none) := by
        obtain ⟨i, hi, e1⟩ := List.getElem_of_mem hp
        obtain ⟨j, hj, e2⟩ := List.getElem_of_mem hP
        have hij : i = j := by
          have a1 : (T.map (·.1))[i]? = some P := by rw [List.getElem?_map, List.getElem?_eq_getElem hi, e1]; exact congrArg some hb
          have a2 : (T.map (·.1))[j]? = some P := by rw [List.getElem?_map, List.getElem?_eq_getElem hj, e2]; rfl
          exact nd_ix hn a1 a2
        subst hij
        rw [← e1, e2]
      rw [ep]
      exact h.1
    · have q := k p hp
      obtain ⟨P', w⟩ := p
      have hb : P' ≠ P := hb
      cases w with
      | none =>
        obtain ⟨ps', a1, a2⟩ := (show GxR.TabG H P' from q)
        exact ⟨ps', by rw [h.2 _ hb]; exact a1, a2⟩
      | some w =>
        obtain ⟨ps', a1, a2, a3⟩ := (show LamX.TabS H P' w from q)
        refine ⟨ps', by rw [h.2 _ hb]; exact a1, a2, fun pos cv hc => ?_⟩
        obtain ⟨c, e1, e2⟩ := a3 pos cv hc
        refine ⟨c, e1, ?_⟩
        rw [h.2 c (ne c _ e2 (by unfold LamX.CodeO; trivial))]
        exact e2
  · by_cases z : l = P
    · obtain ⟨ps', a1, _⟩ := h.1
      rw [z, a1] at hl
      cases hl
    · rw [← h.2 l z]
      exact hl
/-- the element of a generator over ints, in the generator's frame -/
def EltI (X : Cx) (scope : Scope) (x : Str) (elt : Expr) (F : Int → Value → Prop) : Prop :=
  ∀ (cenv : Env) (A' : Around) (E' : Value → Shared → Prop) (i : Int) (t : Tok) (s₂ : Shared) (m₂ : Str → Option Value), cenv.scope = scope → cenv.globals = X.env.globals → cenv.builtins = builtinsNs → A'.handled = none → A'.depth ≤ X.A.depth + 1 → A'.units ≤ X.A.units + 8 →
    X.K.In s₂.heap → s₂.heap.NoLimit → s₂.heap.Ns mainGlobals X.mg → (∃ mb, s₂.heap.Ns builtinsNs mb ∧ ∀ y : Str, y ≠ "__name__" → mb y = bootBuiltins y) → s₂.heap.Ns cenv.locals m₂ → m₂ x = some (.int i t) →
    wpAny (model X.prog X.w) A' (eval elt cenv) (fun y s₃ => F i y ∧ Keeps s₂ s₃) E' s₂
/-- over pairs of ints -/
def EltP (X : Cx) (scope : Scope) (xa xb : Str) (elt : Expr) (f : Int → Int → Int) : Prop :=
  ∀ (cenv : Env) (A' : Around) (E' : Value → Shared → Prop) (i j : Int) (t u : Tok) (s₂ : Shared) (m₂ : Str → Option Value), cenv.scope = scope → A'.handled = none →
    (-(2 ^ 64) < i ∧ i < 2 ^ 64) → s₂.heap.Ns cenv.locals m₂ → m₂ xa = some (.int i t) → m₂ xb = some (.int j u) →
    wpAny (model X.prog X.w) A' (eval elt cenv) (fun y s₃ => (∃ v, y = .int (f i j) v) ∧ Keeps s₂ s₃) E' s₂
section
variable {X : Cx} {pins : List (Addr × Obj)} {σ : L2.St} {H : Hp} {s : Shared}
theorem gen_tup {c P : Addr} {elt iter : Expr} {x : Str} {px gpos : Pos} {scope : Scope} {pb : Int → Bool} {te : TE} {k : Nat} {Q' : Value → Shared → Prop} {R : List Int → Hp → Prop}
    (hr : Room k X.A) (TB : GxR.TabB X.base X.mg c P) (hcode : X.env.code = .ref c) (S : GxR.GenS X.env scope x) (hi : PE X iter te) (hel : EltI X scope x elt (fun i y => y = .bool (pb i)))
    (hs : ∀ v, genFold iter X.env v = pure v) (I : Inv X pins σ H s) (h : te σ H fun v H1 => ∃ (a : Addr) (ns : List Int), v = .ref a ∧ SqT X.K H1 a (ns.map V.int) ∧ GxR.TabG H1 P ∧ R ns H1)
    (hQ : ∀ ns H1 g s5, R ns H1 → (∃ (fp wr : List Addr) (G : Array GenState → Array GenState → Prop) (F : Nat → Value → Prop) (St : Nat → Shared → Prop),
      WalksS X.prog X.w X.A.in1 g fp wr G ns.length F St ∧ St 0 s5 ∧ TruthOf X.prog X.w X.A.in1 F (fun j => (ns.map pb).getD j false) ∧ ∀ s', Moved wr G s5 s' → ∃ H2, GxR.Tabbed P H1 H2 ∧ Inv X pins σ H2 s') → Q' (.ref g) s5) :
    wpAny (model X.prog X.w) X.A (eval (.GeneratorExp elt [⟨.Name x px, iter, [], 0⟩] scope gpos) X.env) Q' X.xe s := by
  refine wpAny_GeneratorExp_walksQD hr.hd S.co (closure_ok S.free) S.cell S.dot S.loc S.kind (by have := hr.dp; omega) ?_ hs
  refine thn (hi.run pins s σ H _ I h) fun xv s1 ⟨v, H1, I1, r1, q1⟩ => ?_
  obtain ⟨a, ns, rfl, hS, ⟨ps, hP, ht⟩, q1⟩ := q1
  cases r1
  obtain ⟨its, rv, hTup, hz⟩ := I1.tuple hS
  have hT : s1.heap.IsTuple a its.toArray := let ⟨o, ho, hc, n, hd⟩ := hTup; ⟨o, ho, hc, n, hd⟩
  have hlt : a < s1.heap.objs.size := by obtain ⟨_, e, _⟩ := hT; exact Heap.lt_size e
  refine wpAny_pyIter_tuple hT ?_
  have hPs : s1.heap.get? P = some { cls := .none, data := .fields ps } := I1.hok P _ hP
  have hPlt : P < s1.heap.objs.size := Heap.lt_size hPs
  let o : Obj := { cls := .type "tuple_iterator", data := .fields #[.ref a, .int 0 0] }
  show (s1.heap.push o).NoLimit ∧ _
  have hP2 : (s1.heap.push o).get? P = some { cls := .none, data := .fields ps } := Heap.get?_push_of_some _ hPs
  have cd : PySem.W.CodeHd (s1.heap.push o) c P := TB.code.keeps fun b u e => Heap.get?_push_of_some _ (I1.bk b u e)
  have lim2 : (s1.heap.push o).NoLimit := I1.nolimit.push o
  have hni : ∀ (i : Nat) (v : Value), its.toArray[i]? = some v → ∃ (z : Int) (t : Tok), ns[i]? = some z ∧ v = .int z t := fun i v hv => by
    have hv' : its[i]? = some v := by simpa using hv
    have hl : i < (ns.map V.int).length := by
      rw [rv.length]
      exact (List.getElem?_eq_some_iff.mp hv').1
    obtain ⟨u, hu, ru⟩ := rv.get (List.getElem?_eq_getElem hl)
    rw [hv'] at hu
    cases hu
    rw [List.length_map] at hl
    rw [List.getElem_map] at ru
    obtain ⟨t, e⟩ := ru
    exact ⟨ns[i], t, List.getElem?_eq_getElem hl, e⟩
  have cont : ∀ (code : Value) (h3 : Heap) (tk : Nat) (ps' : Array Value), Heap.ExtBut P (s1.heap.push o) h3 → (s1.heap.push o).objs.size ≤ h3.objs.size → h3.get? P = some { cls := .none, data := .fields ps' } → (∃ more, ps' = ps ++ more) → TriplesOk ps'.toList →
      wpAny (model X.prog X.w) X.A (builtinsFor X.env.globals X.env.builtins) (fun bi s₄ =>
        ∃ Ia fp wr n₀ Pf St₀ pz F, Value.ref s1.heap.objs.size = .ref Ia ∧ (∀ A' : Around, A'.handled = none → Walks X.prog X.w A' Ia fp wr n₀ Pf St₀) ∧ St₀ 0 s₄.heap ∧ (∀ b ∈ fp, b < s₄.heap.objs.size) ∧ s₄.heap.NoLimit ∧ cStatics ∉ wr ∧
          (∀ href : Heap, (∀ b o, s₄.heap.get? b = some o → href.get? b = some o) →
            QuietGenD X.prog X.w (genEnv scope (cloFrom X.env.cells scope.names []) s₄.heap.objs.size code bi X.env) x [] elt (List.range s₄.heap.objs.size) wr Pf pz F href (X.A.depth + 1) (X.A.units + 8)) ∧
          (∀ a h₅ tk gs, gs.bare = true → s₄.heap.objs.size < a → h₅.objs.size = a + 1 → (∀ b o, s₄.heap.get? b = some o → h₅.get? b = some o) →
            WalksS X.prog X.w X.A.in4 a (a :: s₄.heap.objs.size :: List.range s₄.heap.objs.size) (s₄.heap.objs.size :: wr) (GenOnlyQ s₄.gens.size) (passing pz n₀ 0).length
              (fun j y => ∃ i, (passing pz n₀ 0)[j]? = some i ∧ F i y) (GenAt X.prog X.w X.A.in4 a s₄.gens.size s₄.heap.objs.size (List.range s₄.heap.objs.size) wr pz n₀ F) →
            GenAt X.prog X.w X.A.in4 a s₄.gens.size s₄.heap.objs.size (List.range s₄.heap.objs.size) wr pz n₀ F 0 { s₄ with gens := s₄.gens.push gs, toks := tk, heap := h₅ } →
            Q' (.ref a) { s₄ with gens := s₄.gens.push gs, toks := tk, heap := h₅ })) X.xe { s1 with heap := h3, toks := tk } := by
    intro code h3 tk ps' hx hsz hP3 hmore ht3
    obtain ⟨bm, ob, e1, e2, e3, e4, e5, e6, e7, e8⟩ := TB.bm
    have hcP : cStatics ≠ P := fun e => by
      obtain ⟨_, hns, _⟩ := I1.nolimit
      obtain ⟨o', es, ep, ho, hd, _⟩ := hns
      rw [e, hPs] at ho
      cases ho
      cases hd
    have hcl : cStatics < s1.heap.objs.size := let ⟨_, hns, _⟩ := I1.nolimit; hns.lt
    have sz2 : (s1.heap.push o).objs.size = s1.heap.objs.size + 1 := Heap.size_push ..
    have keep3 : ∀ b u, b ≠ P → s1.heap.get? b = some u → h3.get? b = some u := fun b u hb e => hx b u hb (Heap.get?_push_of_some _ e)
    have glob3 : h3.Ns X.env.globals X.mg := by rw [I1.ok.glob]; exact ((I1.mod.glob.keeps I1.bk).push o).extBut hx TB.gP
    refine wpAny_builtinsFor (m := X.mg) glob3 e1 e2 (keep3 _ _ e4 (I1.bk _ _ e5)) e6 e7 e8 ?_
    have haP : a ≠ P := fun e => by
      obtain ⟨o', ho', hc', _⟩ := hT
      rw [e, hPs] at ho'
      cases ho'
      cases hc'
    refine ⟨s1.heap.objs.size, [s1.heap.objs.size, a], [s1.heap.objs.size], its.toArray.size, (fun i v => its.toArray[i]? = some v), (fun i h => h.IsTupleIter s1.heap.objs.size a i ∧ h.IsTuple a its.toArray), (fun _ => true), (fun i y => ∃ z, ns[i]? = some z ∧ y = .bool (pb z)), rfl, fun A' hA => Walks.tuple hA _ _ (Nat.ne_of_lt hlt) its.toArray, ?_, ?_, lim2.extBut hx hcP, ?_, ?_, ?_⟩
    · have h0 : (s1.heap.push o).IsTupleIter s1.heap.objs.size a 0 ∧ (s1.heap.push o).IsTuple a its.toArray := ⟨⟨_, Heap.get?_push_size _ rfl, rfl, rfl⟩, hT.push _⟩
      refine (Walks.tuple (prog := X.prog) (w := X.w) hr.hd _ _ (Nat.ne_of_lt hlt) its.toArray).frame _ _ _ h0 fun b hb u e => hx b u (fun z => ?_) e
      rcases List.mem_cons.mp hb with z2 | z2
      · exact Nat.ne_of_lt hPlt (z.symm.trans z2)
      · rcases List.mem_cons.mp z2 with z2 | z2
        · exact haP (z2.symm.trans z)
        · cases z2
    · intro b hb
      show b < h3.objs.size
      have sz3 : s1.heap.objs.size + 1 ≤ h3.objs.size := by rw [← sz2]; exact hsz
      rcases List.mem_cons.mp hb with z | z
      · rw [z]
        exact sz3
      · rcases List.mem_cons.mp z with z | z
        · rw [z]
          exact Nat.lt_trans hlt sz3
        · cases z
    · intro z
      rcases List.mem_cons.mp z with z | z
      · exact Nat.ne_of_lt hcl z
      · cases z
    · intro href hhref
      have up : ∀ (s₂ : Shared), (∀ b ∈ List.range h3.objs.size, b ∉ [s1.heap.objs.size] → ∀ o, href.get? b = some o → s₂.heap.get? b = some o) → ∀ b u, b ≠ P → s1.heap.get? b = some u → s₂.heap.get? b = some u := fun s₂ hk b u hb e => by
        have h1 := keep3 b u hb e
        refine hk b (List.mem_range.mpr (Heap.lt_size h1)) (fun z => ?_) u (hhref b u h1)
        rcases List.mem_cons.mp z with z | z
        · rw [z] at e
          exact Nat.lt_irrefl _ (Heap.lt_size e)
        · cases z
      refine ⟨fun A' E' i v s₂ m₂ hA _ _ hPv hn hm hk => ?_, fun A' E' i v s₂ m₂ hA hD hU hPv hp hn hm hk => ?_⟩
      · simp only [List.forIn_nil]
        exact wpAny_pure ⟨rfl, GxR.keeps_refl _⟩
      · obtain ⟨z, t, hz1, rfl⟩ := hni i v hPv
        have u2 := up s₂ hk
        have baseK : ∀ b u, X.base.get? b = some u → b ≠ P → s₂.heap.get? b = some u := fun b u e hb => u2 b u hb (I1.bk b u e)
        have nP : X.base.get? P = none := by
          cases q : X.base.get? P with
          | none => rfl
          | some u =>
            have := (I1.bs P u q).2
            rw [hP] at this
            cases this
        have baseA : ∀ b u, X.base.get? b = some u → s₂.heap.get? b = some u := fun b u e => baseK b u e (fun z => by rw [z, nP] at e; cases e)
        obtain ⟨mb, hb1, hb2⟩ := I1.mod.blt
        exact wpAny_mono (hel _ A' E' z t s₂ m₂ rfl rfl rfl hA hD hU (I1.ok.mod.kin.keeps baseA) (I1.ok.mod.nolimit.keeps baseA) (I1.mod.glob.keeps baseA) ⟨mb, hb1.keeps baseA, hb2⟩ hn hm) (fun y s3 r => ⟨⟨z, hz1, r.1⟩, r.2⟩) fun _ _ e => e
    · intro g h5 tk5 gs hgb hag hsz5 hk5 W5 hat
      simp only [GxR.passing_true, List.length_range] at W5
      have hsize : its.toArray.size = ns.length := by
        have := rv.length
        rw [List.length_map] at this
        rw [List.size_toArray]
        exact this.symm
      rw [hsize] at W5 hat
      refine hQ ns H1 g _ q1 ⟨_, _, _, _, _, W5.in4_1, hat, ?_, fun s' hm => ?_⟩
      · intro j y sj Qj Ej hy hQj
        obtain ⟨i, hij, z, hz1, rfl⟩ := hy
        obtain ⟨hj, ej⟩ := List.getElem?_eq_some_iff.mp hij
        rw [List.getElem_range] at ej
        subst ej
        have e9 : (ns.map pb).getD j false = pb z := by rw [List.getD_eq_getElem?_getD, List.getElem?_map, hz1]; rfl
        have hQ2 : Qj ((ns.map pb).getD j false) sj := hQj
        rw [e9] at hQ2
        exact wpAny_truthy_bool hQ2
      · obtain ⟨more, em⟩ := hmore
        have nwr : ∀ b u, s1.heap.get? b = some u → b ∉ h3.objs.size :: [s1.heap.objs.size] := fun b u e hb => by
          have hl := Heap.lt_size e
          rcases List.mem_cons.mp hb with z | z
          · rw [z] at hl
            have h9 : (h3.objs.size : Nat) < s1.heap.objs.size := hl
            omega
          · rcases List.mem_cons.mp z with z | z
            · rw [z] at hl
              exact Nat.lt_irrefl _ hl
            · cases z
        have J := GxR.inv_tab (more := more) (h' := s'.heap) (g' := s'.gens) (d' := s'.drawn) (t' := s'.toks) I1 hP (fun b u hb e => hm.heap b u (nwr b u e) (hk5 b u (keep3 b u hb e)))
          (by rw [← em]; exact hm.heap P _ (nwr P _ hPs) (hk5 P _ hP3)) (AllBare.movedS (I1.bare.push hgb) hm)
        rw [GxR.sh_eta s1 s' hm.os] at J
        refine ⟨upd H1 P (.tbl (ps ++ more)), ⟨⟨ps ++ more, upd_same, by rw [← em]; exact ht3⟩, fun b hb => upd_ne hb⟩, J⟩
  refine ⟨lim2, ?_⟩
  cases hf : codeAmong gpos ps.toList with
  | none =>
    refine wpAny_genexprCodeX hcode (cd.code hP2 ht) (cd.tab hP2) hf fun c' h' tk hx hge hlt hco' _ htab' _ => ?_
    obtain ⟨o1, vs, f1, tf, fl, tg, inF, tx, tt, op, _, _, _, _, _, _, _, _, _, htr, _⟩ := hco'
    exact cont _ h' tk _ hx (Nat.le_trans hge (Nat.le_of_lt hlt)) htab'.2 ⟨_, rfl⟩ htr
  | some cv =>
    refine wpAny_genexprCode_hit hcode (cd.code hP2 ht) hf ?_
    exact cont cv (s1.heap.push o) s1.toks ps (Heap.ExtBut.refl _ _) (Nat.le_refl _) hP2 ⟨#[], by simp⟩ ht
theorem all_getD (ns : List Int) (pb : Int → Bool) : (List.range ns.length).all (fun j => (ns.map pb).getD j false) = ns.all pb := by
  rw [Bool.eq_iff_iff, List.all_eq_true, List.all_eq_true]
  constructor
  · intro h z hz
    obtain ⟨j, hj, e⟩ := List.getElem_of_mem hz
    have q := h j (List.mem_range.mpr hj)
    rw [List.getD_eq_getElem?_getD, List.getElem?_map, List.getElem?_eq_getElem hj] at q
    rw [← e]
    exact q
  · intro h j hj
    have hj' := List.mem_range.mp hj
    rw [List.getD_eq_getElem?_getD, List.getElem?_map, List.getElem?_eq_getElem hj']
    exact h _ (List.getElem_mem hj')
/-- all(test for x in e), e a tuple of ints -/
def tAllI (K : PySem.W.Frag) (T : Tb) (P : Addr) (pb : Int → Bool) (te : TE) : TE := fun σ H Q => te σ H fun v H1 => ∃ (a : Addr) (ns : List Int), v = .ref a ∧ SqT K H1 a (ns.map V.int) ∧ GxR.TabG H1 P ∧ (Ok T H1 ∧ ∀ H2, Sm T H1 H2 → Q (.bl (ns.all pb)) H2)
theorem pe_allI {T : Tb} {c P : Addr} {elt iter : Expr} {x : Str} {px p pos gpos : Pos} {scope : Scope} {pb : Int → Bool} {te : TE} {k : Nat} (hn : (T.map (·.1)).Nodup) (hPT : (P, (none : Option Str)) ∈ T)
    (hr : Room k X.A) (hg : Gl X "all") (hm : X.mg "all" = none) (hb : bootBuiltins "all" = some (.builtin "all")) (TB : GxR.TabB X.base X.mg c P) (hcode : X.env.code = .ref c) (S : GxR.GenS X.env scope x) (hi : PE X iter te) (hel : EltI X scope x elt (fun i y => y = .bool (pb i)))
    (hs : ∀ v, genFold iter X.env v = pure v)
    (he : starEach [.GeneratorExp elt [⟨.Name x px, iter, [], 0⟩] scope gpos] X.env = (false, eval (.GeneratorExp elt [⟨.Name x px, iter, [], 0⟩] scope gpos) X.env) :: starEach [] X.env := by rfl) :
    PE X (.Call (.Name "all" p) [.GeneratorExp elt [⟨.Name x px, iter, [], 0⟩] scope gpos] [] pos) (tAllI X.K T P pb te) := by
  refine ⟨fun pins s σ H Q I h => ?_⟩
  refine wpAny_Call_Name_kw (ld_blt I hg hm hb ?_)
  refine PyProof.Rows.callWith_builtin1 ?_ he (by rfl)
  rw [he]
  show wpAny _ _ (spliced ((false, eval (.GeneratorExp elt [⟨.Name x px, iter, [], 0⟩] scope gpos) X.env) :: backTo pos (starEach [] X.env))) _ _ s
  refine Calls.spliced_cons (gen_tup (R := fun ns H1 => Ok T H1 ∧ ∀ H2, Sm T H1 H2 → Q (.bl (ns.all pb)) H2) hr TB hcode S hi hel hs I h fun ns H1 g s5 hR hG => ?_)
  obtain ⟨fp, wr, G, F, St, W, hst, htr, hI⟩ := hG
  refine Calls.spliced_nil ?_
  refine call_all_walkS (W.self 0 _ _ _ hst ⟨g, fp, wr, G, _, F, St, _, rfl, W, hst, htr, fun s' hmv => ?_⟩)
  obtain ⟨H2, hT, J⟩ := hI s' hmv
  refine ⟨.bl _, H2, J, rfl, ?_⟩
  rw [all_getD ns pb]
  exact hR.2 H2 (sm_tabbed hn hPT (hR.1 _ hPT) hT)
end
section
variable {X : Cx} {pins : List (Addr × Obj)} {σ : L2.St} {H : Hp} {s : Shared}
/-- a list of pairs of ints -/
def Pairs (K : PySem.W.Frag) (H : Hp) (a : Addr) (ps : List (Int × Int)) : Prop := ∃ vs : List V, SqL K H a vs ∧ vs.length = ps.length ∧ ∀ (i : Nat) (p : Int × Int), ps[i]? = some p → ∃ b, vs[i]? = some (.ref b) ∧ SqT K H b [.int p.1, .int p.2]
theorem Pairs.keep {T : Tb} {K : PySem.W.Frag} {H H' : Hp} {a : Addr} {ps : List (Int × Int)} (h : Pairs K H a ps) (s : Sm T H H') : Pairs K H' a ps := by
  obtain ⟨vs, h1, h2, h3⟩ := h
  refine ⟨vs, s.seq h1, h2, fun i p e => ?_⟩
  obtain ⟨b, e1, e2⟩ := h3 i p e
  exact ⟨b, e1, same_tup s e2⟩
theorem gen_pairs {c P : Addr} {elt iter : Expr} {xa xb : Str} {pa pb pt gpos : Pos} {kt : Nat} {scope : Scope} {f : Int → Int → Int} {te : TE} {k : Nat} {Q' : Value → Shared → Prop} {R : List (Int × Int) → Hp → Prop}
    (hr : Room k X.A) (TB : GxR.TabB X.base X.mg c P) (hcode : X.env.code = .ref c) (S : GxR.GenS X.env scope xa) (hxb : scope.names.lookup xb = some .local) (hab : xa ≠ xb) (hi : PE X iter te) (hel : EltP X scope xa xb elt f)
    (hs : ∀ v, genFold iter X.env v = pure v) (I : Inv X pins σ H s) (h : te σ H fun v H1 => ∃ (a : Addr) (qs : List (Int × Int)), v = .ref a ∧ Pairs X.K H1 a qs ∧ (∀ q ∈ qs, -(2 ^ 64) < q.1 ∧ q.1 < 2 ^ 64) ∧ GxR.TabG H1 P ∧ R qs H1)
    (hQ : ∀ qs H1 g s5, R qs H1 → (∃ (fp wr : List Addr) (G : Array GenState → Array GenState → Prop) (F : Nat → Value → Prop) (St : Nat → Shared → Prop),
      WalksS X.prog X.w X.A.in1 g fp wr G qs.length F St ∧ St 0 s5 ∧ (∀ b ∈ fp, b < s5.heap.objs.size) ∧ (∀ i v, F i v → ∃ t, v = .int ((qs.map fun (q : Int × Int) => f q.1 q.2).getD i 0) t) ∧ ∀ s', Moved wr G s5 s' → ∃ H2, GxR.Tabbed P H1 H2 ∧ Inv X pins σ H2 s') → Q' (.ref g) s5) :
    wpAny (model X.prog X.w) X.A (eval (.GeneratorExp elt [⟨.Tuple [.Name xa pa, .Name xb pb] kt pt, iter, [], 0⟩] scope gpos) X.env) Q' X.xe s := by
  refine wpAny_GeneratorExp_walksQT hr.hd S.co (closure_ok S.free) S.cell S.dot S.loc hxb hab S.kind (by have := hr.dp; omega) ?_ hs
  refine thn (hi.run pins s σ H _ I h) fun xv s1 ⟨v, H1, I1, r1, q1⟩ => ?_
  obtain ⟨a, qs, rfl, ⟨vs, hS, hvl, hvp⟩, hbd, ⟨ps, hP, ht⟩, q1⟩ := q1
  cases r1
  obtain ⟨its, rv, ⟨o0, n0, ho0, hc0, _, hd0⟩, hz⟩ := I1.list hS
  have hL : s1.heap.IsList a its.toArray := ⟨o0, ho0, hc0, n0, hd0⟩
  have hlt : a < s1.heap.objs.size := Heap.lt_size ho0
  have hlen : its.toArray.size = qs.length := by rw [List.size_toArray, ← rv.length, hvl]
  have hpair : ∀ j, j < its.toArray.size → ∃ (b : Addr) (t u : Tok) (q : Int × Int), qs[j]? = some q ∧ its.toArray[j]? = some (.ref b) ∧ s1.heap.IsTuple b #[.int q.1 t, .int q.2 u] := fun j hj => by
    have hj' : j < qs.length := by rw [← hlen]; exact hj
    obtain ⟨b, e1, e2⟩ := hvp j _ (List.getElem?_eq_getElem hj')
    obtain ⟨u', hu, ru⟩ := rv.get e1
    obtain rfl : u' = Value.ref b := ru
    obtain ⟨its2, rv2, ⟨o2, ho2, hc2, n2, hd2⟩, _⟩ := I1.tuple e2
    cases rv2 with
    | cons r1 rr =>
      cases rr with
      | cons r2 rn =>
        cases rn
        obtain ⟨t1, rfl⟩ := r1
        obtain ⟨t2, rfl⟩ := r2
        exact ⟨b, t1, t2, qs[j], List.getElem?_eq_getElem hj', by simpa using hu, ⟨o2, ho2, hc2, n2, hd2⟩⟩
  refine wpAny_pyIter_list hL ?_
  have hPs : s1.heap.get? P = some { cls := .none, data := .fields ps } := I1.hok P _ hP
  have hPlt : P < s1.heap.objs.size := Heap.lt_size hPs
  let o : Obj := { cls := .type "list_iterator", data := .fields #[.ref a, .int 0 0] }
  show (s1.heap.push o).NoLimit ∧ _
  have hP2 : (s1.heap.push o).get? P = some { cls := .none, data := .fields ps } := Heap.get?_push_of_some _ hPs
  have cd : PySem.W.CodeHd (s1.heap.push o) c P := TB.code.keeps fun b u e => Heap.get?_push_of_some _ (I1.bk b u e)
  have lim2 : (s1.heap.push o).NoLimit := I1.nolimit.push o
  let Ts : Nat → Addr := fun j => match its.toArray[j]? with | some (.ref b) => b | _ => 0
  have hTs : ∀ j, j < its.toArray.size → its.toArray[j]? = some (.ref (Ts j)) := fun j hj => by
    obtain ⟨b, t, u, q, _, e, _⟩ := hpair j hj
    show _ = some (Value.ref (match its.toArray[j]? with | some (.ref b) => b | _ => 0))
    rw [e]
  have hvals : ∃ vals : Nat → Array Value, ∀ j, j < its.toArray.size → s1.heap.IsTuple (Ts j) (vals j) ∧ ∃ (t u : Tok) (q : Int × Int), qs[j]? = some q ∧ vals j = #[.int q.1 t, .int q.2 u] := by
    have : ∀ j, ∃ va : Array Value, j < its.toArray.size → s1.heap.IsTuple (Ts j) va ∧ ∃ (t u : Tok) (q : Int × Int), qs[j]? = some q ∧ va = #[.int q.1 t, .int q.2 u] := fun j => by
      by_cases hj : j < its.toArray.size
      · obtain ⟨b, t, u, q, e1, e, e2⟩ := hpair j hj
        have eb : Ts j = b := by
          have := hTs j hj
          rw [e] at this
          cases this
          rfl
        exact ⟨_, fun _ => ⟨by rw [eb]; exact e2, t, u, q, e1, rfl⟩⟩
      · exact ⟨#[], fun z => absurd z hj⟩
    exact ⟨fun j => Classical.choose (this j), fun j hj => Classical.choose_spec (this j) hj⟩
  obtain ⟨vals, hvals⟩ := hvals
  have hTlt : ∀ j, j < its.toArray.size → Ts j < s1.heap.objs.size := fun j hj => by
    obtain ⟨⟨o', ho', _⟩, _⟩ := hvals j hj
    exact Heap.lt_size ho'
  have W : ∀ A' : Around, A'.handled = none → WalksU X.prog X.w A' s1.heap.objs.size (s1.heap.objs.size :: a :: (List.range its.toArray.size).map Ts) [s1.heap.objs.size] its.toArray.size (fun j v => j < its.toArray.size ∧ v = vals j) _ _ :=
    fun A' hA => (WalksU.listOfTuples (prog := X.prog) (w := X.w) hA s1.heap.objs.size a (Nat.ne_of_lt hlt) its.toArray Ts vals hTs (fun j hj => Nat.ne_of_lt (hTlt j hj))).bound
  have notP : ∀ b, b ∈ s1.heap.objs.size :: a :: (List.range its.toArray.size).map Ts → b ≠ P := fun b hb z => by
    rcases List.mem_cons.mp hb with z2 | z2
    · exact Nat.ne_of_lt hPlt (z.symm.trans z2)
    · rcases List.mem_cons.mp z2 with z2 | z2
      · rw [← z, z2, ho0] at hPs
        cases hPs
        cases hc0
      · obtain ⟨j, hj, e⟩ := List.mem_map.mp z2
        obtain ⟨⟨o', ho', hc', _⟩, _⟩ := hvals j (List.mem_range.mp hj)
        rw [e, z, hPs] at ho'
        cases ho'
        cases hc'
  have cont : ∀ (code : Value) (h3 : Heap) (tk : Nat) (ps' : Array Value), Heap.ExtBut P (s1.heap.push o) h3 → (s1.heap.push o).objs.size ≤ h3.objs.size → h3.get? P = some { cls := .none, data := .fields ps' } → (∃ more, ps' = ps ++ more) → TriplesOk ps'.toList →
      wpAny (model X.prog X.w) X.A (builtinsFor X.env.globals X.env.builtins) (fun bi s₄ =>
        ∃ Ia fp wr n₀ Pt St₀ Mid pz F, Value.ref s1.heap.objs.size = .ref Ia ∧ (∀ A' : Around, A'.handled = none → WalksU X.prog X.w A' Ia fp wr n₀ Pt St₀ Mid) ∧ (∀ i vals, Pt i vals → ∃ va vb, vals = #[va, vb]) ∧ St₀ 0 s₄.heap ∧ (∀ b ∈ fp, b < s₄.heap.objs.size) ∧ s₄.heap.NoLimit ∧ cStatics ∉ wr ∧
          (∀ href : Heap, (∀ b o, s₄.heap.get? b = some o → href.get? b = some o) →
            QuietGenT X.prog X.w (genEnv scope (cloFrom X.env.cells scope.names []) s₄.heap.objs.size code bi X.env) xa xb [] elt (List.range s₄.heap.objs.size) wr Pt pz F href) ∧
          (∀ a h₅ tk gs, gs.bare = true → s₄.heap.objs.size < a → h₅.objs.size = a + 1 → (∀ b o, s₄.heap.get? b = some o → h₅.get? b = some o) →
            WalksS X.prog X.w X.A.in4 a (a :: s₄.heap.objs.size :: List.range s₄.heap.objs.size) (s₄.heap.objs.size :: wr) (GenOnlyQ s₄.gens.size) (passing pz n₀ 0).length
              (fun j y => ∃ i, (passing pz n₀ 0)[j]? = some i ∧ F i y) (GenAt X.prog X.w X.A.in4 a s₄.gens.size s₄.heap.objs.size (List.range s₄.heap.objs.size) wr pz n₀ F) →
            GenAt X.prog X.w X.A.in4 a s₄.gens.size s₄.heap.objs.size (List.range s₄.heap.objs.size) wr pz n₀ F 0 { s₄ with gens := s₄.gens.push gs, toks := tk, heap := h₅ } →
            Q' (.ref a) { s₄ with gens := s₄.gens.push gs, toks := tk, heap := h₅ })) X.xe { s1 with heap := h3, toks := tk } := by
    intro code h3 tk ps' hx hsz hP3 hmore ht3
    obtain ⟨bm, ob, e1, e2, e3, e4, e5, e6, e7, e8⟩ := TB.bm
    have hcP : cStatics ≠ P := fun e => by
      obtain ⟨_, hns, _⟩ := I1.nolimit
      obtain ⟨o', es, ep, ho, hd, _⟩ := hns
      rw [e, hPs] at ho
      cases ho
      cases hd
    have hcl : cStatics < s1.heap.objs.size := let ⟨_, hns, _⟩ := I1.nolimit; hns.lt
    have sz2 : (s1.heap.push o).objs.size = s1.heap.objs.size + 1 := Heap.size_push ..
    have sz3 : s1.heap.objs.size + 1 ≤ h3.objs.size := by rw [← sz2]; exact hsz
    have keep3 : ∀ b u, b ≠ P → s1.heap.get? b = some u → h3.get? b = some u := fun b u hb e => hx b u hb (Heap.get?_push_of_some _ e)
    have glob3 : h3.Ns X.env.globals X.mg := by rw [I1.ok.glob]; exact ((I1.mod.glob.keeps I1.bk).push o).extBut hx TB.gP
    refine wpAny_builtinsFor (m := X.mg) glob3 e1 e2 (keep3 _ _ e4 (I1.bk _ _ e5)) e6 e7 e8 ?_
    refine ⟨s1.heap.objs.size, _, [s1.heap.objs.size], its.toArray.size, _, _, _, (fun _ => true), (fun i y => ∃ q t, qs[i]? = some q ∧ y = .int (f q.1 q.2) t), rfl, W, ?_, ?_, ?_, lim2.extBut hx hcP, ?_, ?_, ?_⟩
    · rintro i va ⟨hi', rfl⟩
      obtain ⟨_, t, u, q, _, e⟩ := hvals i hi'
      exact ⟨_, _, e⟩
    · have h0 : (s1.heap.push o).IsListIter s1.heap.objs.size a 0 ∧ (s1.heap.push o).IsList a its.toArray ∧ ∀ k, k < its.toArray.size → (s1.heap.push o).IsTuple (Ts k) (vals k) :=
        ⟨⟨_, Heap.get?_push_size _ rfl, rfl, rfl⟩, hL.push _, fun k hk => (hvals k hk).1.push _⟩
      exact (W X.A hr.hd).frame _ _ _ h0 fun b hb u e => hx b u (notP b hb) e
    · intro b hb
      show b < h3.objs.size
      rcases List.mem_cons.mp hb with z | z
      · rw [z]
        exact sz3
      · rcases List.mem_cons.mp z with z | z
        · rw [z]
          exact Nat.lt_trans hlt sz3
        · obtain ⟨j, hj, e⟩ := List.mem_map.mp z
          rw [← e]
          exact Nat.lt_trans (hTlt j (List.mem_range.mp hj)) sz3
    · intro z
      rcases List.mem_cons.mp z with z | z
      · exact Nat.ne_of_lt hcl z
      · cases z
    · intro href hhref
      refine ⟨fun A' E' i va vb s₂ m₂ hA hPv hn hma hmb hk => ?_, fun A' E' i va vb s₂ m₂ hA hPv hp hn hma hmb hk => ?_⟩
      · simp only [List.forIn_nil]
        exact wpAny_pure ⟨rfl, GxR.keeps_refl _⟩
      · obtain ⟨hi', ev⟩ := hPv
        obtain ⟨_, t, u, q, hq, e⟩ := hvals i hi'
        rw [e] at ev
        obtain ⟨rfl, rfl⟩ : va = .int q.1 t ∧ vb = .int q.2 u := by simpa using congrArg Array.toList ev
        exact wpAny_mono (hel _ A' E' q.1 q.2 t u s₂ m₂ rfl hA (hbd q (List.mem_of_getElem? hq)) hn hma hmb) (fun y s3 r => ⟨let ⟨v, hv⟩ := r.1; ⟨q, v, hq, hv⟩, r.2⟩) fun _ _ e => e
    · intro g h5 tk5 gs hgb hag hsz5 hk5 W5 hat
      simp only [GxR.passing_true, List.length_range] at W5
      rw [hlen] at W5 hat
      refine hQ qs H1 g _ q1 ⟨_, _, _, _, _, W5.in4_1, hat, ?_, ?_, fun s' hm => ?_⟩
      · intro b hb
        show b < h5.objs.size
        have hag' : h3.objs.size < g := hag
        rcases List.mem_cons.mp hb with z | z
        · rw [z, hsz5]
          exact Nat.lt_succ_self _
        · rcases List.mem_cons.mp z with z | z
          · rw [z, hsz5]
            exact Nat.lt_succ_of_lt hag'
          · rw [hsz5]
            exact Nat.lt_succ_of_lt (Nat.lt_trans (List.mem_range.mp z) hag')
      · intro j y hy
        obtain ⟨i, hij, q, t, hq, rfl⟩ := hy
        obtain ⟨hj, ej⟩ := List.getElem?_eq_some_iff.mp hij
        rw [List.getElem_range] at ej
        subst ej
        exact ⟨t, by rw [List.getD_eq_getElem?_getD, List.getElem?_map, hq]; rfl⟩
      · obtain ⟨more, em⟩ := hmore
        have nwr : ∀ b u, s1.heap.get? b = some u → b ∉ h3.objs.size :: [s1.heap.objs.size] := fun b u e hb => by
          have hl := Heap.lt_size e
          rcases List.mem_cons.mp hb with z | z
          · rw [z] at hl
            have h9 : (h3.objs.size : Nat) < s1.heap.objs.size := hl
            omega
          · rcases List.mem_cons.mp z with z | z
            · rw [z] at hl
              exact Nat.lt_irrefl _ hl
            · cases z
        have J := GxR.inv_tab (more := more) (h' := s'.heap) (g' := s'.gens) (d' := s'.drawn) (t' := s'.toks) I1 hP (fun b u hb e => hm.heap b u (nwr b u e) (hk5 b u (keep3 b u hb e)))
          (by rw [← em]; exact hm.heap P _ (nwr P _ hPs) (hk5 P _ hP3)) (AllBare.movedS (I1.bare.push hgb) hm)
        rw [GxR.sh_eta s1 s' hm.os] at J
        refine ⟨upd H1 P (.tbl (ps ++ more)), ⟨⟨ps ++ more, upd_same, by rw [← em]; exact ht3⟩, fun b hb => upd_ne hb⟩, J⟩
  refine ⟨lim2, ?_⟩
  cases hf : codeAmong gpos ps.toList with
  | none =>
    refine wpAny_genexprCodeX hcode (cd.code hP2 ht) (cd.tab hP2) hf fun c' h' tk hx hge hlt hco' _ htab' _ => ?_
    obtain ⟨o1, vs, f1, tf, fl, tg, inF, tx, tt, op, _, _, _, _, _, _, _, _, _, htr, _⟩ := hco'
    exact cont _ h' tk _ hx (Nat.le_trans hge (Nat.le_of_lt hlt)) htab'.2 ⟨_, rfl⟩ htr
  | some cv =>
    refine wpAny_genexprCode_hit hcode (cd.code hP2 ht) hf ?_
    exact cont cv (s1.heap.push o) s1.toks ps (Heap.ExtBut.refl _ _) (Nat.le_refl _) hP2 ⟨#[], by simp⟩ ht
/-- sum(elt for a, b in e), e a list of pairs of ints -/
def tSumP (K : PySem.W.Frag) (T : Tb) (P : Addr) (f : Int → Int → Int) (te : TE) : TE := fun σ H Q => te σ H fun v H1 => ∃ (a : Addr) (qs : List (Int × Int)), v = .ref a ∧ Pairs K H1 a qs ∧ (∀ q ∈ qs, -(2 ^ 64) < q.1 ∧ q.1 < 2 ^ 64) ∧ GxR.TabG H1 P ∧
  ((Ok T H1 ∧ ∀ j, j < qs.length → InLong ((qs.map fun (q : Int × Int) => f q.1 q.2).getD j 0) ∧ InLong (((qs.map fun (q : Int × Int) => f q.1 q.2).take (j + 1)).sum)) ∧ ∀ H2, Sm T H1 H2 → Q (.int (qs.map fun (q : Int × Int) => f q.1 q.2).sum) H2)
theorem pe_sumP {T : Tb} {c P : Addr} {elt iter : Expr} {xa xb : Str} {pa pb pt p pos gpos : Pos} {kt : Nat} {scope : Scope} {f : Int → Int → Int} {te : TE} {k : Nat} (hn : (T.map (·.1)).Nodup) (hPT : (P, (none : Option Str)) ∈ T)
    (hr : Room k X.A) (hg : Gl X "sum") (hm : X.mg "sum" = none) (hb : bootBuiltins "sum" = some (.builtin "sum")) (TB : GxR.TabB X.base X.mg c P) (hcode : X.env.code = .ref c) (S : GxR.GenS X.env scope xa) (hxb : scope.names.lookup xb = some .local) (hab : xa ≠ xb) (hi : PE X iter te) (hel : EltP X scope xa xb elt f)
    (hs : ∀ v, genFold iter X.env v = pure v)
    (he : starEach [.GeneratorExp elt [⟨.Tuple [.Name xa pa, .Name xb pb] kt pt, iter, [], 0⟩] scope gpos] X.env = (false, eval (.GeneratorExp elt [⟨.Tuple [.Name xa pa, .Name xb pb] kt pt, iter, [], 0⟩] scope gpos) X.env) :: starEach [] X.env := by rfl) :
    PE X (.Call (.Name "sum" p) [.GeneratorExp elt [⟨.Tuple [.Name xa pa, .Name xb pb] kt pt, iter, [], 0⟩] scope gpos] [] pos) (tSumP X.K T P f te) := by
  refine ⟨fun pins s σ H Q I h => ?_⟩
  refine wpAny_Call_Name_kw (ld_blt I hg hm hb ?_)
  refine PyProof.Rows.callWith_builtin1 ?_ he (by rfl)
  rw [he]
  show wpAny _ _ (spliced ((false, eval (.GeneratorExp elt [⟨.Tuple [.Name xa pa, .Name xb pb] kt pt, iter, [], 0⟩] scope gpos) X.env) :: backTo pos (starEach [] X.env))) _ _ s
  refine Calls.spliced_cons (gen_pairs (R := fun qs H1 => (Ok T H1 ∧ ∀ j, j < qs.length → InLong ((qs.map fun (q : Int × Int) => f q.1 q.2).getD j 0) ∧ InLong (((qs.map fun (q : Int × Int) => f q.1 q.2).take (j + 1)).sum)) ∧ ∀ H2, Sm T H1 H2 → Q (.int (qs.map fun (q : Int × Int) => f q.1 q.2).sum) H2) hr TB hcode S hxb hab hi hel hs I h fun qs H1 g s5 hR hG => ?_)
  obtain ⟨fp, wr, G, F, St, W, hst, hfp, hval, hI⟩ := hG
  refine Calls.spliced_nil ?_
  refine call_sum_walkS (W.self 0 _ _ _ hst ⟨g, fp, wr, G, _, F, St, (fun i => (qs.map fun (q : Int × Int) => f q.1 q.2).getD i 0), rfl, W, hst, hfp, hval, fun j hj => ⟨(hR.1.2 j hj).1, by rw [preSum_getD]; exact (hR.1.2 j hj).2⟩, fun s' t' hmv => ?_⟩)
  obtain ⟨H2, hT, J⟩ := hI s' hmv
  refine ⟨.int _, H2, J, ⟨t', rfl⟩, ?_⟩
  rw [preSum_getD, show qs.length = (qs.map fun (q : Int × Int) => f q.1 q.2).length by rw [List.length_map], List.take_length]
  exact hR.2 H2 (sm_tabbed hn hPT (hR.1.1 _ hPT) hT)
end
def genB (scope : Scope) (x : Str) : Bool := decide (scope.kind = .function) && !scope.isCoroutine && (scope.names.all fun y => !decide (y.2 = .cell) && !decide (y.2 = .free)) && decide (scope.names.lookup (".0" : Str) = some .local) && decide (scope.names.lookup x = some .local)
theorem gens_by {env : Env} {scope : Scope} {x : Str} (h : genB scope x = true) : GxR.GenS env scope x := by
  unfold genB at h
  simp only [Bool.and_eq_true, Bool.not_eq_true', decide_eq_true_eq, decide_eq_false_iff_not, List.all_eq_true] at h
  obtain ⟨⟨⟨⟨h1, h2⟩, h3⟩, h4⟩, h5⟩ := h
  exact ⟨h1, h2, fun y hy => (h3 y hy).1, h4, h5, fun y hy e => absurd e (h3 y hy).2⟩

/-! ### elements of generator expressions, in the model's own words -/
section
variable {X : Cx} {scope : Scope} {xa xb : Str} {p1 p2 p3 : Pos}
theorem ldl {M : Model} {s : Shared} {env : Env} {m : Str → Option Value} {x : Str} {pos : Pos} {v : Value} {Q : Value → Shared → Prop} {A : Around} {E : Value → Shared → Prop} (hk : env.scope.kind = .function) (hl : env.kindOf x = some .local) (hn : s.heap.Ns env.locals m) (hv : m x = some v) (h : Q v s)
    (hd : (x == ("__debug__" : Str)) = false := by decide) : wpAny M A (eval (.Name x pos) env) Q E s := wpAny_Name (wpAny_loadName_local hk hl hn hv h) hd
theorem elt_first (hk : scope.kind = .function) (hl : scope.names.lookup xa = some .local) (hd : (xa == ("__debug__" : Str)) = false := by decide) : EltP X scope xa xb (.Name xa p1) (fun i _ => i) := by
  intro cenv A' E' i j t u s₂ m₂ hs hA hb hn hma hmb
  exact ldl (by rw [hs]; exact hk) (show cenv.scope.names.lookup xa = some .local by rw [hs]; exact hl) hn hma ⟨⟨t, rfl⟩, GxR.keeps_refl _⟩ hd
theorem elt_mul (hk : scope.kind = .function) (hl : scope.names.lookup xa = some .local) (hl2 : scope.names.lookup xb = some .local) (hd : (xa == ("__debug__" : Str)) = false := by decide) (hd2 : (xb == ("__debug__" : Str)) = false := by decide) :
    EltP X scope xa xb (.BinOp (.Name xa p1) .Mult (.Name xb p2) p3) (fun i j => i * j) := by
  intro cenv A' E' i j t u s₂ m₂ hs hA hb hn hma hmb
  refine wpAny_BinOp ?_
  refine ldl (by rw [hs]; exact hk) (show cenv.scope.names.lookup xa = some .local by rw [hs]; exact hl) hn hma ?_ hd
  refine ldl (by rw [hs]; exact hk) (show cenv.scope.names.lookup xb = some .local by rw [hs]; exact hl2) hn hmb ?_ hd2
  exact mul_int ⟨⟨_, rfl⟩, GxR.keeps_tok _ _⟩ (show CMul i j from .inl hb).ok
end
/-- isinstance(x, T) of an int at the name x -/
theorem isi_int {prog : Program} {w : World} {K : PySem.W.Frag} {A : Around} {E : Value → Shared → Prop} {s : Shared} {env : Env} {m mg mb : Str → Option Value} {x T : Str} {Ts : String} {i : Int} {t : Tok} {b : Bool} {q1 q2 q3 q4 : Pos} {Q : Value → Shared → Prop}
    (KX : K.In s.heap) (hk : env.scope.kind = .function) (hl : env.kindOf x = some .local) (hn : s.heap.Ns env.locals m) (hv : m x = some (.int i t)) (hg : s.heap.Ns env.globals mg) (hb : s.heap.Ns env.builtins mb) (hbb : ∀ y : Str, y ≠ "__name__" → mb y = bootBuiltins y)
    (gi : env.kindOf "isinstance" = some .globalImplicit) (gT : env.kindOf T = some .globalImplicit) (mi : mg "isinstance" = none) (mT : mg T = none) (hT : bootBuiltins T = some (.type Ts)) (hTn : T ≠ "__name__") (kt : kitB "int" Ts = some b)
    (h : ∀ tk, Q (.bool b) { s with toks := tk }) (hd : (x == ("__debug__" : Str)) = false) (hdT : (T == ("__debug__" : Str)) = false)
    (he1 : starEach [.Name x q2, .Name T q3] env = (false, eval (.Name x q2) env) :: starEach [.Name T q3] env := by rfl) (he2 : starEach [.Name T q3] env = [(false, eval (.Name T q3) env)] := by rfl) :
    wpAny (model prog w) A (eval (.Call (.Name "isinstance" q1) [.Name x q2, .Name T q3] [] q4) env) Q E s := by
  refine wpAny_Call_Name_kw (Calls.Name_function_global hk gi (Calls.loadGlobal_builtin hg mi hb ((hbb "isinstance" (by decide)).trans (by decide +kernel : bootBuiltins "isinstance" = some (.builtin "isinstance"))) ?_))
  refine PyProof.Rows.callWith_builtin1 ?_ he1 (by rw [he2]; rfl)
  rw [he1, he2]
  show wpAny _ _ (spliced ((false, eval (.Name x q2) env) :: (false, eval (.Name T q3) env) :: [])) _ _ s
  refine Calls.spliced_cons (ldl hk hl hn hv (Calls.spliced_cons (Calls.Name_function_global hk gT (Calls.loadGlobal_builtin hg mT hb ((hbb T hTn).trans hT) (Calls.spliced_nil ?_)) hdT)) hd)
  exact PySem.W.kia_one PySem.W.kitx_int KX True.intro (kit_ty kt) (fun z => nomatch z) h
/-- the text of is_number -/
def numBody (n0 n1 n2 n3 n4 n5 n6 n7 n8 n9 n10 : Pos) : List Stmt := [.Return (some (.BoolOp .And [.Call (.Name "isinstance" n0) [.Name "thing" n1, .Name "int" n2] [] n3, .UnaryOp .Not (.Call (.Name "isinstance" n4) [.Name "thing" n5, .Name "bool" n6] [] n7) n8] n9)) n10]
def numArgs (p : Pos) : Arguments := { posonlyargs := [], args := [{ arg := "thing", annotation := none, pos := p }], vararg := none, kwonlyargs := [], kw_defaults := [], kwarg := none, defaults := [] }
def numScope : Scope := { kind := .function, names := [(PySem.Str.ofString "thing", .local), (PySem.Str.ofString "isinstance", .globalImplicit), (PySem.Str.ofString "int", .globalImplicit), (PySem.Str.ofString "bool", .globalImplicit)], isGenerator := false, isCoroutine := false, more := [] }
/-- what of is_number's text the walk needs -/
def NumAt (K : PySem.W.Frag) (f : Addr) : Prop := ∃ (oc : Value) (od : Option Addr) (kV doc pm : Value) (an : Option Addr) (cdv ct : Value) (osl : Array (Option Value)) (p n0 n1 n2 n3 n4 n5 n6 n7 n8 n9 n10 : Pos),
  K.lookup f = some ⟨oc, od, .func (PySem.W.fnOf "is_number" "is_number" (numArgs p) (numBody n0 n1 n2 n3 n4 n5 n6 n7 n8 n9 n10) numScope .none kV doc pm an cdv ct), osl⟩ ∧ PySem.W.codeIn K cdv "is_number" = true
theorem num_call {prog : Program} {w : World} {K : PySem.W.Frag} {mg mb : Str → Option Value} {A : Around} {E : Value → Shared → Prop} {s : Shared} {f : Addr} {i : Int} {t : Tok} {Q : Value → Shared → Prop} (N : NumAt K f) (KX : K.In s.heap) (hlim : s.heap.NoLimit) (hg : s.heap.Ns mainGlobals mg)
    (hb : s.heap.Ns builtinsNs mb) (hbb : ∀ y : Str, y ≠ "__name__" → mb y = bootBuiltins y) (mi : mg "isinstance" = none) (m1 : mg "int" = none) (m2 : mg "bool" = none) (hroom : A.depth < recursionLimit) (hq : ∀ s', Keeps s s' → Q (.bool true) s') :
    wpAny (model prog w) A (call (.ref f) [.int i t]) Q E s := by
  obtain ⟨oc, od, kV, doc, pm, an, cdv, ct, osl, p, n0, n1, n2, n3, n4, n5, n6, n7, n8, n9, n10, lk, hcd⟩ := N
  refine wpAny_call ?_
  refine Att.call_fn (binds := [("thing", .int i t)]) KX hlim lk hcd hroom (BindsTo.of_eq (by first | rfl | with_unfolding_all rfl)) (by first | rfl | decide | with_unfolding_all rfl) (fun s₁ IC => ?_) rfl rfl rfl
  obtain ⟨h₁, tk₁, rfl⟩ := IC.toInCall.same
  have kp : ∀ b o, s.heap.get? b = some o → h₁.get? b = some o := IC.toInCall.keep
  have hn := IC.toInCall.ns
  show wpAny _ _ (execs _ _) _ _ _
  refine wpAny_execs_cons (wpAny_Return_some ?_)
  refine BoolOp_and ?_
  refine isi_int (mg := mg) (mb := mb) (b := true) (KX.keeps kp) rfl rfl hn (by first | rfl | with_unfolding_all rfl | kernel_rfl) (hg.keeps kp) (hb.keeps kp) hbb rfl rfl mi m1 (by decide +kernel : bootBuiltins "int" = some (.type "int")) (by decide) kb_int_int (fun tk => ?_) (by decide) (by decide)
  refine wpAny_truthy_bool ?_
  show wpAny _ _ (eval (.BoolOp .And [.UnaryOp .Not (.Call (.Name "isinstance" n4) [.Name "thing" n5, .Name "bool" n6] [] n7) n8] n9) _) _ _ _
  refine BoolOp_one (UnaryOp_ ?_)
  refine isi_int (mg := mg) (mb := mb) (b := false) (KX.keeps kp) rfl rfl hn (by first | rfl | with_unfolding_all rfl | kernel_rfl) (hg.keeps kp) (hb.keeps kp) hbb rfl rfl mi m2 (by decide +kernel : bootBuiltins "bool" = some (.type "bool")) (by decide) kb_int_bool (fun tk => ?_) (by decide) (by decide)
  refine not_of (wpAny_truthy_bool ?_)
  exact hq _ ⟨h₁, tk, rfl, kp⟩
/-- the text of is_within -/
def withBody (n0 n1 n2 n3 n4 n5 n6 n7 n8 : Pos) : List Stmt := [.Return (some (.BoolOp .And [.Call (.Name "is_number" n0) [.Name "thing" n1] [] n2, .Compare (.Name "least" n3) [.LtE, .LtE] [.Name "thing" n4, .Name "most" n5] n6] n7)) n8]
def withArgs (p1 p2 p3 : Pos) : Arguments := { posonlyargs := [], args := [{ arg := "thing", annotation := none, pos := p1 }, { arg := "least", annotation := none, pos := p2 }, { arg := "most", annotation := none, pos := p3 }], vararg := none, kwonlyargs := [], kw_defaults := [], kwarg := none, defaults := [] }
def withScope : Scope := { kind := .function, names := [(PySem.Str.ofString "thing", .local), (PySem.Str.ofString "least", .local), (PySem.Str.ofString "most", .local), (PySem.Str.ofString "is_number", .globalImplicit)], isGenerator := false, isCoroutine := false, more := [] }
def WithAt (K : PySem.W.Frag) (f : Addr) : Prop := ∃ (oc : Value) (od : Option Addr) (kV doc pm : Value) (an : Option Addr) (cdv ct : Value) (osl : Array (Option Value)) (p1 p2 p3 n0 n1 n2 n3 n4 n5 n6 n7 n8 : Pos),
  K.lookup f = some ⟨oc, od, .func (PySem.W.fnOf "is_within" "is_within" (withArgs p1 p2 p3) (withBody n0 n1 n2 n3 n4 n5 n6 n7 n8) withScope .none kV doc pm an cdv ct), osl⟩ ∧ PySem.W.codeIn K cdv "is_within" = true
theorem with_call {prog : Program} {w : World} {K : PySem.W.Frag} {mg mb : Str → Option Value} {A : Around} {E : Value → Shared → Prop} {s : Shared} {f fn : Addr} {i l n : Int} {t tl tn : Tok} {Q : Value → Shared → Prop} (Wt : WithAt K f) (N : NumAt K fn) (kN : PySem.W.keepIn K (.ref fn) = true) (gN : mg "is_number" = some (.ref fn)) (KX : K.In s.heap) (hlim : s.heap.NoLimit) (hg : s.heap.Ns mainGlobals mg)
    (hb : s.heap.Ns builtinsNs mb) (hbb : ∀ y : Str, y ≠ "__name__" → mb y = bootBuiltins y) (mi : mg "isinstance" = none) (m1 : mg "int" = none) (m2 : mg "bool" = none) (hroom : A.depth + 1 < recursionLimit) (hq : ∀ s', Keeps s s' → Q (.bool (decide (l ≤ i) && decide (i ≤ n))) s') :
    wpAny (model prog w) A (call (.ref f) [.int i t, .int l tl, .int n tn]) Q E s := by
  obtain ⟨oc, od, kV, doc, pm, an, cdv, ct, osl, p1, p2, p3, n0, n1, n2, n3, n4, n5, n6, n7, n8, lk, hcd⟩ := Wt
  refine wpAny_call ?_
  refine Att.call_fn (binds := [("thing", .int i t), ("least", .int l tl), ("most", .int n tn)]) KX hlim lk hcd (by omega) (BindsTo.of_eq (by first | rfl | with_unfolding_all rfl)) (by first | rfl | decide | with_unfolding_all rfl) (fun s₁ IC => ?_) rfl rfl rfl
  obtain ⟨h₁, tk₁, rfl⟩ := IC.toInCall.same
  have kp : ∀ b o, s.heap.get? b = some o → h₁.get? b = some o := IC.toInCall.keep
  have hn := IC.toInCall.ns
  have hlim1 : h₁.NoLimit := hlim.keeps kp
  have hg1 := hg.keeps kp
  show wpAny _ _ (execs _ _) _ _ _
  refine wpAny_execs_cons (wpAny_Return_some ?_)
  refine BoolOp_and ?_
  refine wpAny_Call_Name_kw (Calls.Name_function_global rfl rfl (Calls.loadGlobal_global hg1 gN ?_))
  refine PySem.W.callWith_K (h₀ := h₁) (KX.keeps kp) kN ?_ (by rfl) (by rfl)
  show wpAny _ _ (spliced ((false, eval (.Name "thing" n1) _) :: [])) _ _ _
  refine Calls.spliced_cons (ldl (v := .int i t) rfl rfl hn (by first | rfl | with_unfolding_all rfl | kernel_rfl) (Calls.spliced_nil ⟨KX.keeps kp, ?_⟩) (by decide))
  refine num_call N (KX.keeps kp) hlim1 hg1 (hb.keeps kp) hbb mi m1 m2 (by show A.depth + 1 < _; omega) (fun s' hks => ?_)
  obtain ⟨h', tk', rfl, hkp⟩ := hks
  refine wpAny_truthy_bool ?_
  show wpAny _ _ (eval (.BoolOp .And [.Compare (.Name "least" n3) [.LtE, .LtE] [.Name "thing" n4, .Name "most" n5] n6] n7) _) _ _ _
  refine BoolOp_one ?_
  have kp2 : ∀ b o, s.heap.get? b = some o → h'.get? b = some o := fun b o e => hkp b o (kp b o e)
  refine Compare_chain (ldl (v := .int l tl) rfl rfl (hn.keeps hkp) (by first | rfl | with_unfolding_all rfl | kernel_rfl) (chain_link (ldl (v := .int i t) rfl rfl (hn.keeps hkp) (by first | rfl | with_unfolding_all rfl | kernel_rfl) (le_int (wpAny_truthy_bool ?_)) (by decide))) (by decide)) (by with_unfolding_all rfl)
  by_cases h1 : l ≤ i
  · rw [if_pos (decide_eq_true h1)]
    refine chain_last (ldl (v := .int n tn) rfl rfl (hn.keeps hkp) (by first | rfl | with_unfolding_all rfl | kernel_rfl) ?_ (by decide))
    refine le_int ?_
    have := hq ⟨h', s.gens, s.drawn, tk', s.os⟩ ⟨h', tk', rfl, kp2⟩
    rw [decide_eq_true h1, Bool.true_and] at this
    exact this
  · rw [if_neg (fun z => h1 (of_decide_eq_true z))]
    have := hq ⟨h', s.gens, s.drawn, tk', s.os⟩ ⟨h', tk', rfl, kp2⟩
    rw [decide_eq_false h1, Bool.false_and] at this
    show _
    rw [decide_eq_false h1]
    exact this
/-- is_within(x, 1, MOST) -/
theorem elt_num {X : Cx} {scope : Scope} {x M : Str} {f fn : Addr} {n : Int} {tn : Tok} {q0 q1 q2 q3 q4 : Pos} {k : Nat} (hr : Room k X.A) (Wt : WithAt X.K f) (kW : PySem.W.keepIn X.K (.ref f) = true) (gW : X.mg "is_within" = some (.ref f)) (N : NumAt X.K fn) (kp : PySem.W.keepIn X.K (.ref fn) = true) (gf : X.mg "is_number" = some (.ref fn)) (gM : X.mg M = some (.int n tn)) (hglob : X.env.globals = mainGlobals)
    (mi : X.mg "isinstance" = none) (m1 : X.mg "int" = none) (m2 : X.mg "bool" = none) (hk : scope.kind = .function) (hl : scope.names.lookup x = some .local) (hf : scope.names.lookup ("is_within" : Str) = some .globalImplicit) (hM : scope.names.lookup M = some .globalImplicit)
    (hd : (x == ("__debug__" : Str)) = false := by decide) (hdM : (M == ("__debug__" : Str)) = false := by decide) :
    EltI X scope x (.Call (.Name "is_within" q0) [.Name x q1, .Constant (.int 1) 0 q2, .Name M q3] [] q4) (fun i y => y = .bool (decide (1 ≤ i) && decide (i ≤ n))) := by
  intro cenv A' E' i t s₂ m₂ hs hG hB hA hD hU KX hlim hg hbl hn hm
  obtain ⟨mb, hb, hbb⟩ := hbl
  have hk' : cenv.scope.kind = .function := by rw [hs]; exact hk
  have hl' : cenv.kindOf x = some .local := show cenv.scope.names.lookup x = some .local by rw [hs]; exact hl
  have hf' : cenv.kindOf "is_within" = some .globalImplicit := show cenv.scope.names.lookup ("is_within" : Str) = _ by rw [hs]; exact hf
  have hM' : cenv.kindOf M = some .globalImplicit := show cenv.scope.names.lookup M = _ by rw [hs]; exact hM
  have hg' : s₂.heap.Ns cenv.globals X.mg := by rw [hG, hglob]; exact hg
  refine wpAny_Call_Name_kw (Calls.Name_function_global hk' hf' (Calls.loadGlobal_global hg' gW ?_))
  refine PySem.W.callWith_K (h₀ := s₂.heap) KX kW ?_ (by rfl) (by rfl)
  show wpAny _ _ (spliced ((false, eval (.Name x q1) cenv) :: (false, eval (.Constant (.int 1) 0 q2) cenv) :: (false, eval (.Name M q3) cenv) :: [])) _ _ s₂
  refine Calls.spliced_cons (ldl hk' hl' hn hm (Calls.spliced_cons (wpAny_Constant_int (Calls.spliced_cons (Calls.Name_function_global hk' hM' (Calls.loadGlobal_global hg' gM (Calls.spliced_nil ⟨KX, ?_⟩)) hdM)))) hd)
  exact with_call Wt N kp gf KX hlim hg hb hbb mi m1 m2 (by have := hr.dp; omega) (fun s' hks => ⟨rfl, hks⟩)

/-! ### x(lambda: body), the tables kept -/
theorem sm_lam {T : Tb} {H H' : Hp} {P : Addr} {q : Str} (hn : (T.map (·.1)).Nodup) (hP : (P, some q) ∈ T) (ht : LamX.TabS H P q) (h1 : LamX.TabS H' P q) (h2 : ∀ b o, b ≠ P → H b = some o → H' b = some o) : Sm T H H' := by
  obtain ⟨ps, e, _⟩ := ht
  have ne : ∀ b o, H b = some o → nTbl o → b ≠ P := fun b o q n z => by
    rw [z, e] at q
    cases q
    exact n
  refine ⟨fun b o q n => h2 b o (ne b o q n) q, fun k p hp => ?_, fun l hl => ?_⟩
  · by_cases hb : p.1 = P
    · have ep : p = (P, some q) := by
        obtain ⟨i, hi, e1⟩ := List.getElem_of_mem hp
        obtain ⟨j, hj, e2⟩ := List.getElem_of_mem hP
        have hij : i = j := by
          have a1 : (T.map (·.1))[i]? = some P := by rw [List.getElem?_map, List.getElem?_eq_getElem hi, e1]; exact congrArg some hb
          have a2 : (T.map (·.1))[j]? = some P := by rw [List.getElem?_map, List.getElem?_eq_getElem hj, e2]; rfl
          exact nd_ix hn a1 a2
        subst hij
        rw [← e1, e2]
      rw [ep]
      exact h1
    · have z := k p hp
      obtain ⟨P', w⟩ := p
      have hb : P' ≠ P := hb
      cases w with
      | none =>
        obtain ⟨ps', a1, a2⟩ := (show GxR.TabG H P' from z)
        exact ⟨ps', h2 _ _ hb a1, a2⟩
      | some w =>
        obtain ⟨ps', a1, a2, a3⟩ := (show LamX.TabS H P' w from z)
        refine ⟨ps', h2 _ _ hb a1, a2, fun pos cv hc => ?_⟩
        obtain ⟨c, e1, e2⟩ := a3 pos cv hc
        exact ⟨c, e1, h2 c _ (ne c _ e2 (by unfold LamX.CodeO; trivial)) e2⟩
  · by_cases z : l = P
    · obtain ⟨ps', a1, _⟩ := h1
      rw [z, a1] at hl
      cases hl
    · cases q' : H l with
      | none => rfl
      | some o =>
        rw [h2 l o z q'] at hl
        cases hl
section
variable {X : Cx} {pins : List (Addr × Obj)} {σ : L2.St} {H : Hp} {s : Shared}
/-- the lambda is made: its code object is new, or found in the table; all else stays -/
theorem lam_make3 {c P : Addr} {params : Arguments} {body : Expr} {scope : Scope} {pos : Pos} {E : Value → Shared → Prop} {Q : Value → Shared → Prop} (I : Inv X pins σ H s) (TB : LamX.TabB X.base X.mg c P) (hcode : X.env.code = .ref c)
    (hT : LamX.TabS H P (X.env.qual ++ "<lambda>")) (hdef : defaultsOf params X.env = ([], [])) (hfree : ∀ y ∈ scope.names, y.2 = .free → ∃ c, X.env.cells.lookup y.1 = some c)
    (h : ∀ (f c' : Addr) (pm ctv : Value) (H1 : Hp) (s' : Shared), Inv X pins σ H1 s' → (∀ b o, b ≠ P → H b = some o → H1 b = some o) → LamX.TabS H1 P (X.env.qual ++ "<lambda>") →
      s'.heap.get? f = some (PySem.W.kla_obj "<lambda>" (X.env.qual ++ "<lambda>") params body scope (cloFrom X.env.cells scope.names []) pm c' ctv) → H1 f = none → f ∉ frs X.stack → H1 c' = some (LamX.CodeO c' (X.env.qual ++ "<lambda>")) → Q (.ref f) s') :
    wpAny (model X.prog X.w) X.A (eval (.Lambda params body scope pos) X.env) Q E s := by
  obtain ⟨ps, hP, ht, ha⟩ := hT
  refine PySem.W.kla_eval hdef ?_
  have bP : s.heap.BuiltinsAt X.mg P := TB.bm.keeps I.bk
  have hP' : s.heap.get? P = some { cls := .none, data := .fields ps } := I.hok P _ hP
  have nofr : ∀ f, s.heap.objs.size ≤ f → f ∉ frs X.stack := fun f hf z => by
    rcases List.mem_cons.mp (I.stkSub _ z) with e | e
    · have h1 := I.lt
      rw [← e] at h1
      exact Nat.lt_irrefl _ (Nat.lt_of_lt_of_le h1 hf)
    · exact I.nofs hf e
  cases hc : codeAmong pos ps.toList with
  | none =>
    refine PySem.W.kla_makeFunction (mg := X.mg) (c := c) (P := P) (ps := ps) (closure_ok hfree) I.ok.glob (I.mod.glob.keeps I.bk) hcode (TB.code.keeps I.bk) hP' ht hc TB.gP bP fun c' ctv h' tk hx hge hlt hrec htb => ?_
    obtain ⟨c2, oc, vs, t, e2, hoc, hd, hv⟩ := hrec
    cases e2
    have hsz : s.heap.objs.size ≤ h'.objs.size := Nat.le_trans hge (Nat.le_of_lt hlt)
    have nC : H c' = none := I.hok.fresh hge
    have I1 := LamX.inv_table (t' := tk) (more := #[rawInt pos.line, rawInt pos.col, .ref c']) (h' := h'.push (PySem.W.kla_obj "<lambda>" (X.env.qual ++ "<lambda>") params body scope (cloFrom X.env.cells scope.names []) ((X.mg "__name__").getD .none) c' ctv)) I hP
      (fun b o hb e => Heap.get?_push_of_some _ (hx b o hb e)) (Heap.get?_push_of_some _ htb) hge ⟨oc, vs, t, Heap.get?_push_of_some _ hoc, hd, hv⟩
    have hE : ∀ b o, b ≠ P → H b = some o → upd (upd H P (.tbl (ps ++ #[rawInt pos.line, rawInt pos.col, .ref c']))) c' (LamX.CodeO c' (X.env.qual ++ "<lambda>")) b = some o := fun b o hb e => by
      rw [upd_ne (ne_of_none e nC), upd_ne hb]
      exact e
    have eL : (ps ++ #[rawInt pos.line, rawInt pos.col, .ref c']).toList = ps.toList ++ [rawInt pos.line, rawInt pos.col, .ref c'] := by simp
    refine h h'.objs.size c' ((X.mg "__name__").getD .none) ctv _ _ I1 hE ?_ (Heap.get?_push_size _ rfl) ?_ (nofr _ hsz) upd_same
    · refine ⟨_, by rw [upd_ne (ne_of_none hP nC), upd_same], by rw [eL]; exact PySem.TriplesOk_snoc _ _ _ _ ht, fun p' cv hcv => ?_⟩
      rw [eL] at hcv
      rcases LamX.among_app _ ht hcv with z | z
      · obtain ⟨c0, e1, e2⟩ := ha p' cv z
        refine ⟨c0, e1, hE _ _ (fun z => ?_) e2⟩
        rw [z, hP] at e2
        unfold LamX.CodeO at e2
        cases e2
      · exact ⟨c', z, upd_same⟩
    · have n1 : h'.objs.size ≠ c' := Nat.ne_of_gt hlt
      have n2 : h'.objs.size ≠ P := Nat.ne_of_gt (Nat.lt_of_lt_of_le (Heap.lt_size hP') hsz)
      rw [upd_ne n1, upd_ne n2]
      exact I.hok.fresh hsz
  | some cv =>
    obtain ⟨c', e, hco⟩ := ha pos cv hc
    subst e
    refine PySem.W.kla_makeFunctionHit (mg := X.mg) (c := c) (P := P) (ps := ps) (closure_ok hfree) I.ok.glob (I.mod.glob.keeps I.bk) hcode (TB.code.keeps I.bk) hP' ht hc bP fun ctv h' tk hx hsz => ?_
    have I1 : Inv X pins σ H { s with heap := h'.push (PySem.W.kla_obj "<lambda>" (X.env.qual ++ "<lambda>") params body scope (cloFrom X.env.cells scope.names []) ((X.mg "__name__").getD .none) c' ctv), toks := tk } := I.kept fun b o e => Heap.get?_push_of_some _ (hx b o e)
    exact h h'.objs.size c' ((X.mg "__name__").getD .none) ctv H _ I1 (fun _ _ _ e => e) ⟨ps, hP, ht, ha⟩ (Heap.get?_push_size _ rfl) (I.hok.fresh hsz) (nofr _ hsz) hco
/-- the def that is given the lambda: as LamX.GivesTo -/
def tLm (T : Tb) (P : Addr) (q : Str) (TT : (XK → Hp → VK → Prop) → Hp → VK → Prop) (t : XK → TE) : TE := fun σ H Q => LamX.TabS H P q ∧ ∀ H1, Sm T H H1 → TT (fun E H' Q' => t E σ H' Q') H1 Q
theorem pe_lam {T : Tb} {TT : (XK → Hp → VK → Prop) → Hp → VK → Prop} {x a : Str} {g c P : Addr} {k : Nat} {pg : Arguments} {bg : List Stmt} {sg : Scope} {dV kV doc pm cdv ct oc : Value} {an od : Option Addr} {osl : Array (Option Value)} {Ng : List Str}
    {params : Arguments} {body : Expr} {scope : Scope} {t : XK → TE} {p lpos pos : Pos} (hn : (T.map (·.1)).Nodup) (hg : Gl X x) (hm : X.mg x = some (.ref g)) (hk : PySem.W.keepIn X.K (.ref g) = true)
    (lk : X.K.lookup g = some ⟨oc, od, .func (PySem.W.fnOf x x pg bg sg dV kV doc pm an cdv ct), osl⟩) (hcg : PySem.W.codeIn X.K cdv x = true) (hb : L2.Binds X.K (PySem.W.fnOf x x pg bg sg dV kV doc pm an cdv ct) [a] []) (Sg : FnScope Ng [a] sg) (hNg : Ng[0]? = some a) (hva : Vis sg a)
    (hG : LamX.GivesTo X Ng x sg g cdv bg a (X.env.qual ++ "<lambda>") TT)
    (TB : LamX.TabB X.base X.mg c P) (hcode : X.env.code = .ref c) (hmT : (P, some (X.env.qual ++ "<lambda>")) ∈ T) (hr : Room (k + 2) X.A) (L : LamX.LamS X.env.scope scope) (hdef : defaultsOf params X.env = ([], []))
    (hbind : ∀ (q : Str) (cl : List (Str × Addr)) (pm cv ctv : Value), bindArgs (PySem.W.kla_fn "<lambda>" q params body scope cl pm cv ctv) ⟨[], []⟩ = pure [])
    (hbody : ∀ (A : Around) (outer : List Env) (s : Shared) (H : Hp) (E : XK) (f c' : Addr), Room k (A.deeper (LamX.lamEnv X scope s.heap.objs.size f c')) → PE (LamX.lamCx X A outer s H E scope f c') body (t E))
    (hdb : (x == ("__debug__" : Str)) = false := by decide) (hd : (a == ("__debug__" : Str)) = false := by decide) (hcd : (a == ("__classdict__" : Str)) = false := by decide) :
    PE X (.Call (.Name x p) [.Lambda params body scope lpos] [] pos) (tLm T P (X.env.qual ++ "<lambda>") TT t) := by
  refine ⟨fun pins s σ H Q I h => ?_⟩
  obtain ⟨hT, h⟩ := h
  refine wpAny_Call_Name_kw (ld_glob I hg hm ?_ hdb)
  refine PySem.W.callWith_K (h₀ := X.base) I.ok.mod.kin hk ?_ (by rfl) (by rfl)
  show wpAny _ _ (spliced ((false, eval (.Lambda params body scope lpos) X.env) :: backTo pos (starEach [] X.env))) _ _ s
  refine Calls.spliced_cons (lam_make3 I TB hcode hT hdef (L.has I.ok) fun f c' pm' ctv H1 s' I1 eN T1 hf hfn hfr hco => ?_)
  refine Calls.spliced_nil ⟨I1.kIn, ?_⟩
  have rc : codeAny (model X.prog X.w) X.A (.call (.ref g) ⟨[.ref f], []⟩) (CR C8.CX0 X.stack X.prog X.w H1 s' Q C8.E0) s' := by
    refine LamX.run_ofS (N := Ng) (ps := [a]) (us := [.ref f]) (vs := [.ref f]) lk hcg Sg hr I1.env0 (hb s' [.ref f] I1.kIn rfl) (.cons rfl .nil) rfl fun hr' => ?_
    obtain ⟨t', ht', hq'⟩ := hG f c' s' H1 Q (fun E H' Q' => t E σ H' Q') (fun W pn xe E p1 p2 tk hW => LamX.pe_act (i := 0) I1 L hf hfn hfr (hbind _ _ _ _ _) tk hW hr' (fun A outer s H hr2 => hbody A outer s H E f c' hr2) hNg hva hd hcd) hco (h H1 (sm_lam hn hmT hT T1 eN))
    exact ⟨t', ht'.nox, hq'⟩
  refine wpAny_call (codeAny_mono rc fun r s2 hq => ?_)
  cases r with
  | error e => exact (show False from hq).elim
  | ok fl =>
    cases fl with
    | ret u => exact I1.after hq
    | next => exact False.elim hq
    | brk => exact False.elim hq
    | cont => exact False.elim hq
/-- word(asked): try: return ("told", asked()) / except PailError as e: return (e.word,) -/
def TTw (K : PySem.W.Frag) (CP : Addr) : (XK → Hp → VK → Prop) → Hp → VK → Prop := fun tl H Q =>
  tl (fun cls d H' => ∃ word, Rf K CP word cls d H' ∧ ∀ p, H' p = none → Q (.ref p) (upd H' p (.tup [.str word]))) H (fun v H' => ([V.str "told", v] : List V).length ≤ sizeLine ∧ ∀ p, H' p = none → Q (.ref p) (upd H' p (.tup [.str "told", v])))
theorem word_gives {x a e n q : Str} {sg : Scope} {g CP : Addr} {cdg : Value} {Ng : List Str} {i j0 j1 j2 : Nat} {p1 p2 p3 p4 p5 p6 p7 p8 p9 q1 q2 q3 : Pos} (hnd : Ng.Nodup) (hi : Ng[i]? = some n) (hln : sg.names.lookup n = some .local) (hge : sg.names.lookup e = some .globalImplicit) (hme : X.mg e = some (.ref CP)) (hde : (e == ("__debug__" : Str)) = false)
    (hdn : (n == ("__debug__" : Str)) = false) (hcn : (n == ("__classdict__" : Str)) = false) (hlen : ∀ f : Addr, (L2.start Ng [V.ref f])[0]? = some (some (V.ref f))) :
    LamX.GivesTo X Ng x sg g cdg [.Try [.Return (some (.Tuple [.Constant (.str "told") j0 p1, .Call (.Name a p2) [] [] p3] j1 p4)) p5] [.ExceptHandler (some (.Name e p6)) (some n) [.Return (some (.Tuple [.Attribute (.Name n q1) "word" q2] j2 q3)) p7] p8] [] [] p9] a q (TTw X.K CP) := by
  intro f c' s H Q tl act hc h
  have hgl : Gl (cxOf C8.CX0 X.prog X.w X.K X.mg X.base Ng x sg g cdg X.A X.stack s H C8.E0).nox e := hge
  refine ⟨_, pss_one (ps_try_as (X := (cxOf C8.CX0 X.prog X.w X.K X.mg X.base Ng x sg g cdg X.A X.stack s H C8.E0).nox) (i := i) (c := .ref CP)
      (tb := fun W D σ H => ∃ Ech : XK, (∀ cls d (σ' : L2.St) H', Ech cls d H' → σ'.length = Ng.length → W cls d σ' H') ∧ σ[0]? = some (some (.ref f)) ∧ H c' = some (LamX.CodeO c' q) ∧ tl Ech H (fun v H' => ([V.str "told", v] : List V).length ≤ sizeLine ∧ ∀ p, H' p = none → D.rt (.ref p) (upd H' p (.tup [.str "told", v]))))
      (ts := fun b cls d => tRet (tTup (tCons (tXw X.K b cls d (tVar i)) tNil)))
      rfl rfl hnd hi hln ⟨hgl, hde, .inl hme⟩ LamX.takes0 (fun W pn xe tk _ => ?_) (fun b oe cls d pn hz hf => pss_one (ps_ret (pe_tup (pa_cons (pe_xw hz hf (pe_var hi (.inl hln) hdn hcn)) pa_nil))))), ?_⟩
  · refine ⟨fun pins s' σ H' D I h' => ?_⟩
    obtain ⟨Ech, hW, h1, h2, h3⟩ := h'
    have tk2 : Takes ((cxOf C8.CX0 X.prog X.w X.K X.mg X.base Ng x sg g cdg X.A X.stack s H C8.E0).tr pn xe) (fun cls d σ' H' => σ'.length = Ng.length → W cls d σ' H') :=
      fun u s' ⟨a, B, sI, pins, σ, H, cls, d, e, I, nb, up, sky, na, os, ag, w⟩ => tk u s' ⟨a, B, sI, pins, σ, H, cls, d, e, I, nb, up, sky, na, os, ag, w I.len⟩
    have hp := act _ pn xe Ech p2 p3 tk2 (fun cls d σ' H' he hl => hW cls d σ' H' he hl)
    have hq := pss_one (ps_ret (pos := p5) (pe_tup (x1 := j1) (pos := p4) (pa_cons (pe_str (x := "told") (j := j0) (pos := p1)) (pa_cons hp pa_nil))))
    exact hq.run pins s' σ H' D I ⟨h1, h2, h3⟩
  · refine ⟨fun cls d H' => ∃ word, Rf X.K CP word cls d H' ∧ ∀ p, H' p = none → Q (.ref p) (upd H' p (.tup [.str word])), fun cls d σ' H' hE hl => ?_, hlen f, hc, h⟩
    obtain ⟨word, ⟨C, dd, rfl, rfl, xf, nw, ex, hdd⟩, hq⟩ := hE
    refine ⟨true, ex, fun _ b hb => ?_, fun z => by cases z⟩
    have hil : i < σ'.length := by
      rw [hl]
      exact (List.getElem?_eq_some_iff.mp hi).1
    exact ⟨.ref b, List.getElem?_set_self hil, rfl, C, dd, .str word, rfl, xf, nw, rfl, hdd, by show 1 ≤ sizeLine; decide, fun p hp => hq p hp⟩
end
/-- the law's own word: what a call tells, or the word of its refusal -/
structure Word (K : PySem.W.Frag) (mg : Str → Option Value) (CP : Addr) : Prop where
  ex : ∃ (g : Addr) (fd : FuncData), Fun K "_law_word" "_law_word" s_l_word g fd ∧ mg "_law_word" = some (.ref g) ∧ Binds K fd ["_law_asked"] [] ∧ mg "PailError" = some (.ref CP)
theorem pe_word {X : Cx} {T : Tb} {CP c P : Addr} {k : Nat} {params : Arguments} {body : Expr} {scope : Scope} {t : XK → TE} {p lpos pos : Pos} (W : Word X.K X.mg CP) (hn : (T.map (·.1)).Nodup) (hg : Gl X "_law_word") (TB : LamX.TabB X.base X.mg c P) (hcode : X.env.code = .ref c)
    (hmT : (P, some (X.env.qual ++ "<lambda>")) ∈ T) (hr : Room (k + 2) X.A) (L : LamX.LamS X.env.scope scope) (hdef : defaultsOf params X.env = ([], []))
    (hbind : ∀ (q : Str) (cl : List (Str × Addr)) (pm cv ctv : Value), bindArgs (PySem.W.kla_fn "<lambda>" q params body scope cl pm cv ctv) ⟨[], []⟩ = pure [])
    (hbody : ∀ (A : Around) (outer : List Env) (s : Shared) (H : Hp) (E : XK) (f c' : Addr), Room k (A.deeper (LamX.lamEnv X scope s.heap.objs.size f c')) → PE (LamX.lamCx X A outer s H E scope f c') body (t E)) :
    PE X (.Call (.Name "_law_word" p) [.Lambda params body scope lpos] [] pos) (tLm T P (X.env.qual ++ "<lambda>") (TTw X.K CP) t) := by
  obtain ⟨g, fd, F, hm, hb, hP⟩ := W.ex
  have kp := F.kp
  obtain ⟨oc, od, kV, doc, pm, an, cdv, ct, osl, rfl, lk, hcg⟩ := F.ex
  exact pe_lam hn hg hm kp lk hcg hb sc_l_word rfl (.inl rfl) (word_gives (i := 1) (n := "e") (e := "PailError") (a := "_law_asked") sc_l_word.nd rfl rfl rfl hP (by decide) (by decide) (by decide) (fun _ => rfl)) TB hcode hmT hr L hdef hbind hbody

def Bd (n : Nat) (x : Am) : Prop := x.1.natAbs < 2 ^ n ∧ x.2.natAbs < 2 ^ n
theorem Bd.mono {n m : Nat} {x : Am} (h : Bd n x) (e : n ≤ m) : Bd m x := ⟨Nat.lt_of_lt_of_le h.1 (Nat.pow_le_pow_right (by decide) e), Nat.lt_of_lt_of_le h.2 (Nat.pow_le_pow_right (by decide) e)⟩
def plusA (x y : Am) : Am := amt (x.1 * y.2 + y.1 * x.2) (x.2 * y.2)
def minusA (x y : Am) : Am := amt (x.1 * y.2 - y.1 * x.2) (x.2 * y.2)
def timesA (x y : Am) : Am := amt (x.1 * y.1) (x.2 * y.2)
def overA (x y : Am) : Am := amt (x.1 * y.2) (x.2 * y.1)
def belowA (x y : Am) : Bool := decide (x.1 * y.2 < y.1 * x.2)
def spBin (pre : Am → Am → Prop) (g : Am → Am → Am) (K : PySem.W.Frag) (T : Tb) : Sp := fun vs H Q _ => ∃ a b x y, vs = [.ref a, .ref b] ∧ SqT K H a (tv x) ∧ SqT K H b (tv y) ∧ (Bd 4000 x ∧ Bd 4000 y) ∧ pre x y ∧
  ∀ p H', Sm T H H' → H p = none → H' p = some (.tup (tv (g x y))) → Q (.ref p) H'
abbrev sp_p_plus : PySem.W.Frag → Tb → Sp := spBin (fun x y => 0 < x.2 ∧ 0 < y.2) plusA
abbrev sp_p_minus : PySem.W.Frag → Tb → Sp := spBin (fun x y => 0 < x.2 ∧ 0 < y.2) minusA
abbrev sp_p_times : PySem.W.Frag → Tb → Sp := spBin (fun x y => 0 < x.2 ∧ 0 < y.2) timesA
abbrev sp_p_over : PySem.W.Frag → Tb → Sp := spBin (fun x y => 0 < x.2 ∧ 0 < y.2 ∧ y.1 ≠ 0) overA
def sp_p_below (K : PySem.W.Frag) (T : Tb) : Sp := fun vs H Q _ => ∃ a b x y, vs = [.ref a, .ref b] ∧ SqT K H a (tv x) ∧ SqT K H b (tv y) ∧ (Bd 4000 x ∧ Bd 4000 y) ∧ Q (.bl (belowA x y)) H
theorem wm {i j : Int} (hi : i.natAbs < 2 ^ 4000) (hj : j.natAbs < 2 ^ 4000) : CMulW i j := wide_mul hi hj (by decide) (by decide) (by decide)
theorem wl {i j : Int} (hi : i.natAbs < 2 ^ 4000) (hj : j.natAbs < 2 ^ 4000) : (i * j).natAbs < 2 ^ 8900 := Nat.lt_trans (wide_lt hi hj) (Nat.pow_lt_pow_right (by decide) (by decide))

theorem ok_p_below {f : Addr} {fd : FuncData} (F : Fun K "below" "below" s_p_below f fd) : FnOk P w K mg base CX0 1 f fd ["one", "other"] (sp_p_below K T) := by
  refine F.ok sc_p_below (fun vs H Q E h => ?_) (fun cdv A outer s H vs Q E hr h => ?_)
  · obtain ⟨a, b, x, y, rfl, _⟩ := h
    rfl
  · obtain ⟨a, b, x, y, rfl, ha, hb, ⟨bx, by_⟩, q⟩ := h
    refine ⟨_, (pss_one (ps_ret (pe_cmpR op_lt (pe_op op_mulW (pe_ix ix_tup (pv 0) pe_int (fun _ _ => rfl)) (pe_ix ix_tup (pv 1) pe_int (fun _ _ => rfl))) (pe_op op_mulW (pe_ix ix_tup (pv 1) pe_int (fun _ _ => rfl)) (pe_ix ix_tup (pv 0) pe_int (fun _ _ => rfl))) (nomark _)))), ?_⟩
    refine ⟨_, rfl, a, _, 0, .int x.1, rfl, rfl, ha, atI_nat (j := 0) rfl, _, rfl, b, _, 1, .int y.2, rfl, rfl, hb, atI_nat (j := 1) rfl, _, _, rfl, rfl, wm bx.1 by_.2, ?_⟩
    exact ⟨_, rfl, b, _, 0, .int y.1, rfl, rfl, hb, atI_nat (j := 0) rfl, _, rfl, a, _, 1, .int x.2, rfl, rfl, ha, atI_nat (j := 1) rfl, _, _, rfl, rfl, wm by_.1 bx.2, _, _, rfl, rfl, q⟩

theorem ok_PailError {f : Addr} {fd : FuncData} (F : Fun K "__init__" "PailError.__init__" s_p_PailError___init__ f fd) (mV : mg "ValueError" = none) (vV : PySem.W.findCls K (.type "ValueError") (.type "type") "__init__" = some (.val (.builtin "ValueError.__init__"))) :
    FnOk P w K mg base CX0 1 f fd ["self", "word"] (spInit2 K) := by
  refine F.ok sc_p_PailError___init__ (fun vs H Q E h => ?_) (fun cdv A outer s H vs Q E hr h => ?_)
  · obtain ⟨a, C, w, rfl, _⟩ := h
    rfl
  · obtain ⟨a, C, w, rfl, oc, nw, ea, q⟩ := h
    refine ⟨_, (pss_cons (ps_expr (pe_veinit (by rfl) mV vV (pa_cons (pv 0) (pa_cons (pv 1) pa_nil))))
      (pss_one (ps_ost (pv 0) (pv 1)))), ?_⟩
    refine ⟨_, rfl, _, rfl, a, C, [.str w], rfl, by show 1 ≤ 1000; decide, oc, ea, ?_⟩
    exact ⟨_, rfl, _, rfl, a, C, rfl, oc, nw, .inl ⟨ea, fun dx n ne => q dx n ne⟩⟩
theorem ok_BadWay {f fP CP : Addr} {fd fdP : FuncData} {mc : Value} (F : Fun K "__init__" "BadWay.__init__" s_p_BadWay___init__ f fd) (cr : ClX.CRead K CP mc) (hat : PySem.W.findCls K (.ref CP) mc "__init__" = some (.val (.ref fP))) (FP : FnOk P w K mg base CX0 1 fP fdP ["self", "word"] (spInit2 K))
    (gP : mg "PailError" = some (.ref CP)) (kP : PySem.W.keepIn K (.ref fP) = true) (bP : Binds K fdP ["self", "word"] []) : FnOk P w K mg base CX0 2 f fd ["self"] (spInit "bad way" K) := by
  refine F.ok sc_p_BadWay___init__ (fun vs H Q E h => ?_) (fun cdv A outer s H vs Q E hr h => ?_)
  · obtain ⟨a, C, rfl, _⟩ := h
    rfl
  · obtain ⟨a, C, rfl, oc, nw, ea, q⟩ := h
    refine ⟨_, (pss_one (ps_expr (pe_clsfn cr hat FP hr (by rfl) gP kP bP (pa_cons (pv 0) (pa_cons pe_str pa_nil))))), ?_⟩
    exact ⟨_, rfl, a, C, "bad way", rfl, oc, nw, ea, q⟩
theorem ok_BadPlace {f fP CP : Addr} {fd fdP : FuncData} {mc : Value} (F : Fun K "__init__" "BadPlace.__init__" s_p_BadPlace___init__ f fd) (cr : ClX.CRead K CP mc) (hat : PySem.W.findCls K (.ref CP) mc "__init__" = some (.val (.ref fP))) (FP : FnOk P w K mg base CX0 1 fP fdP ["self", "word"] (spInit2 K))
    (gP : mg "PailError" = some (.ref CP)) (kP : PySem.W.keepIn K (.ref fP) = true) (bP : Binds K fdP ["self", "word"] []) : FnOk P w K mg base CX0 2 f fd ["self"] (spInit "bad place" K) := by
  refine F.ok sc_p_BadPlace___init__ (fun vs H Q E h => ?_) (fun cdv A outer s H vs Q E hr h => ?_)
  · obtain ⟨a, C, rfl, _⟩ := h
    rfl
  · obtain ⟨a, C, rfl, oc, nw, ea, q⟩ := h
    refine ⟨_, (pss_one (ps_expr (pe_clsfn cr hat FP hr (by rfl) gP kP bP (pa_cons (pv 0) (pa_cons pe_str pa_nil))))), ?_⟩
    exact ⟨_, rfl, a, C, "bad place", rfl, oc, nw, ea, q⟩

def wOk (q : Am) : Bool := (decide (1 ≤ q.1) && decide (q.1 ≤ 9)) && (decide (1 ≤ q.2) && decide (q.2 ≤ 9))
def wayB (qs : List Am) : Bool := (decide (1 ≤ qs.length) && decide (qs.length ≤ 6)) && qs.all wOk
def labourM (qs : List Am) : Int := (qs.map fun (q : Int × Int) => q.1 * q.2).sum
def stepsM (qs : List Am) : Int := (qs.map fun (q : Int × Int) => q.1).sum
theorem wOk_b {q : Am} (h : wOk q = true) : 1 ≤ q.1 ∧ q.1 ≤ 9 ∧ 1 ≤ q.2 ∧ q.2 ≤ 9 := by
  unfold wOk at h
  simp only [Bool.and_eq_true, decide_eq_true_eq] at h
  exact ⟨h.1.1, h.1.2, h.2.1, h.2.2⟩
theorem wayB_b {qs : List Am} (h : wayB qs = true) : 1 ≤ qs.length ∧ qs.length ≤ 6 ∧ ∀ q ∈ qs, 1 ≤ q.1 ∧ q.1 ≤ 9 ∧ 1 ≤ q.2 ∧ q.2 ≤ 9 := by
  unfold wayB at h
  simp only [Bool.and_eq_true, decide_eq_true_eq, List.all_eq_true] at h
  exact ⟨h.1.1, h.1.2, fun q hq => wOk_b (h.2 q hq)⟩
theorem sum_bd {c : Int} (hc : 0 ≤ c) : ∀ (l : List Int), (∀ z ∈ l, 0 ≤ z ∧ z ≤ c) → 0 ≤ l.sum ∧ l.sum ≤ c * (l.length : Int)
  | [], _ => by simp
  | z :: l, h => by
    have i := sum_bd hc l fun y hy => h y (List.mem_cons_of_mem _ hy)
    have j := h z List.mem_cons_self
    rw [List.sum_cons, List.length_cons]
    have e : c * ((l.length + 1 : Nat) : Int) = c * (l.length : Int) + c := by rw [Int.natCast_add, Int.mul_add]; simp
    rw [e]
    omega
theorem long_of {l : List Int} (h : ∀ z ∈ l, 0 ≤ z ∧ z ≤ 81) (hl : l.length ≤ 6) : ∀ j, j < l.length → InLong (l.getD j 0) ∧ InLong ((l.take (j + 1)).sum) := fun j hj => by
  constructor
  · rw [List.getD_eq_getElem?_getD, List.getElem?_eq_getElem hj]
    have := h _ (List.getElem_mem hj)
    show -(2 ^ 63) ≤ l[j] ∧ l[j] < 2 ^ 63
    omega
  · have s := sum_bd (c := 81) (by decide) (l.take (j + 1)) fun z hz => h z (List.mem_of_mem_take hz)
    have : ((l.take (j + 1)).length : Int) ≤ 6 := by rw [List.length_take]; omega
    show -(2 ^ 63) ≤ (l.take (j + 1)).sum ∧ (l.take (j + 1)).sum < 2 ^ 63
    omega
theorem pairs_of {K : PySem.W.Frag} {H : Hp} {a : Addr} {vs : List V} {qs : List Am} (hS : SqL K H a vs) (hd : DpAll K H vs (qs.map amD)) : Pairs K H a qs := by
  refine ⟨vs, hS, ?_, fun i p e => ?_⟩
  · rw [dpa_len hd, List.length_map]
  · obtain ⟨v, e1, e2⟩ := dpa_get hd (i := i) (d := amD p) (by rw [List.getElem?_map, e]; rfl)
    obtain ⟨b, rfl, hb⟩ := pd_at e2
    exact ⟨b, e1, hb⟩
def sp_p_is_stretch (K : PySem.W.Frag) (T : Tb) : Sp := fun vs H Q _ => ∃ b q, vs = [.ref b] ∧ SqT K H b (tv q) ∧ Ok T H ∧ ∀ H', Sm T H H' → Q (.bl (wOk q)) H'
theorem ok_p_is_stretch {f : Addr} {fd : FuncData} {u_MOST_STEPS_OR_TOIL : Value} {c PT : Addr} (F : FunC K "is_stretch" "is_stretch" s_p_is_stretch f fd c) (hnT : (T.map (·.1)).Nodup) (hPT : (PT, (none : Option Str)) ∈ T) (TB : GxR.TabB base mg c PT) (B : Bn mg) (C_MOST_STEPS_OR_TOIL : RelV (.int 9) u_MOST_STEPS_OR_TOIL ∧ mg "MOST_STEPS_OR_TOIL" = some u_MOST_STEPS_OR_TOIL) {fW fN : Addr} (Wt : WithAt K fW) (kW : PySem.W.keepIn K (.ref fW) = true) (gW : mg "is_within" = some (.ref fW)) (N : NumAt K fN) (kN : PySem.W.keepIn K (.ref fN) = true) (gN : mg "is_number" = some (.ref fN)) : FnOk P w K mg base CX0 1 f fd ["thing"] (sp_p_is_stretch K T) := by
  obtain ⟨⟨tM, rfl⟩, gM⟩ := C_MOST_STEPS_OR_TOIL
  refine F.ok sc_p_is_stretch (fun vs H Q E h => ?_) (fun A outer s H vs Q E hr h => ?_)
  · obtain ⟨b, q, rfl, _⟩ := h
    rfl
  · obtain ⟨b, q, rfl, hS, hok, k⟩ := h
    refine ⟨_, (pss_cons (ps_if (PW.pt (pw_or (pt_not (pt_val (pe_callB call_isi (by rfl) B.isinstance_ (by decide +kernel) (pa_cons (pv 0) (pa_cons (pe_bltn (v := .ty "tuple") (by rfl) B.tuple_ (by decide +kernel) rfl) pa_nil))))) (pw_or1 (pt_cmpR op_ne (pe_callB call_len_seq (by rfl) B.len_ (by decide +kernel) (pa_cons (pv 0) pa_nil)) pe_int (nomark _))))) (pss_one (ps_ret pe_bl)) pss_nil)
      (pss_one (ps_ret (pe_allI hnT hPT hr (by rfl) B.all_ (by decide +kernel) TB rfl (gens_by (by decide +kernel)) (pv 0) (elt_num hr Wt kW gW N kN gN gM rfl B.isinstance_ B.int_ B.bool_ rfl rfl rfl rfl) (fun _ => rfl))))), ?_⟩
    refine ⟨_, rfl, _, _, _, _, true, rfl, .ty "tuple", tyx_of (amD_dp hS), kit_ty kb_tuple_tuple, _, rfl, iteF ?_⟩
    refine ⟨_, rfl, b, _, rfl, .inr hS, rfl, _, rfl, iteF ?_⟩
    refine ⟨_, rfl, b, [q.1, q.2], rfl, hS, hok _ hPT, hok, fun H2 s2 => ?_⟩
    have e : ([q.1, q.2].all fun i => decide (1 ≤ i) && decide (i ≤ 9)) = wOk q := by
      unfold wOk
      rw [List.all_cons, List.all_cons, List.all_nil, Bool.and_true]
    rw [e]
    exact k H2 s2
def sp_p_check_way (K : PySem.W.Frag) (T : Tb) (CP : Addr) : Sp := fun vs H Q E => ∃ a us qs, vs = [.ref a] ∧ SqL K H a us ∧ DpAll K H us (qs.map amD) ∧ qs.length ≤ 1000 ∧ Ok T H ∧ (wayB qs = true → ∀ H', Sm T H H' → Q .non H') ∧
  (wayB qs = false → ∀ cls d H', Sm T H H' → Rf K CP "bad way" cls d H' → E cls d H')
theorem ok_p_check_way {f : Addr} {fd : FuncData} {u_MOST_STRETCHES : Value} (F : Fun K "check_way" "check_way" s_p_check_way f fd) (B : Bn mg) (C_MOST_STRETCHES : RelV (.int 6) u_MOST_STRETCHES ∧ mg "MOST_STRETCHES" = some u_MOST_STRETCHES) {CP : Addr} (R_BadWay : Err P w K mg base CP "BadWay" "bad way") (F_p_is_stretch : Fn P w K mg base 1 "is_stretch" ["thing"] (sp_p_is_stretch K T)) : FnOk P w K mg base (L2.CX P w) 4 f fd ["way"] (sp_p_check_way K T CP) := by
  refine F.okX sc_p_check_way (fun vs H Q E h => ?_) (fun cdv A outer s H vs Q E hr h => ?_)
  · obtain ⟨a, us, qs, rfl, _⟩ := h
    rfl
  · obtain ⟨a, us, qs, rfl, hS, hd, hl, hok, k1, k2⟩ := h
    obtain ⟨⟨tM, rfl⟩, gM⟩ := id C_MOST_STRETCHES
    refine ⟨_, (pss_cons (ps_if (pt_not (pt_chain op_le op_le pe_int (pe_callB call_len_seq (by rfl) B.len_ (by decide +kernel) (pa_cons (pv 0) pa_nil)) (pe_glob (by rfl) C_MOST_STRETCHES.2 C_MOST_STRETCHES.1))) (pss_one (ps_raise rfl (takes_of rfl rfl rfl rfl) (pmk_err R_BadWay (hr.mono (by decide)) (by rfl)))) pss_nil)
      (pss_one (ps_for (passes_of rfl) rfl (pi_list (pv 0)) (pg_name (i := 1) sc_p_check_way.nd rfl (.inl rfl))
      (pss_one (ps_if (pt_not (pt_val (pe_fn F_p_is_stretch (hr.mono (by decide)) (pa_cons (pv 1) pa_nil)))) (pss_one (ps_raise rfl (takes_of rfl rfl rfl rfl) (pmk_err R_BadWay (hr.mono (by decide)) (by rfl)))) pss_nil))))), ?_⟩
    have el : us.length = qs.length := by rw [dpa_len hd, List.length_map]
    have bad : wayB qs = false → ∀ (H1 : Hp), Sm T H H1 → tErr K CP "bad way" [] H1 (fun cls d H' => E cls d H') := fun hb H1 s1 cls dd hn rf => k2 hb cls (some dd) _ (s1.trans (same_upd hn)) rf
    refine ⟨_, rfl, a, us, rfl, .inl hS, _, _, rfl, rfl, _, rfl, ?_⟩
    by_cases h1 : (1 : Int) ≤ (us.length : Int)
    · rw [decide_eq_true h1]
      refine iteT ?_
      refine ⟨_, _, rfl, rfl, _, rfl, ?_⟩
      by_cases h2 : (us.length : Int) ≤ 6
      · rw [decide_eq_true h2]
        refine iteF ?_
        refine ⟨_, rfl, a, rfl, ⟨_, hS⟩, for_list (K := K) (a := a) (xs := us) (fun i σ H3 => Sm T H H3 ∧ (qs.take i).all wOk = true ∧ ∃ x, σ = [some (.ref a), x]) ⟨Sm.refl, by rw [List.take_zero]; rfl, _, rfl⟩ (fun i σ H3 _ ⟨s3, _⟩ => s3.seq hS) ?_ ?_⟩
        · rintro i v σ H3 hi ⟨s3, ha, x, rfl⟩
          have hil : i < qs.length := by rw [← el]; exact (List.getElem?_eq_some_iff.mp hi).1
          obtain ⟨v', e1, e2⟩ := dpa_get hd (i := i) (d := amD qs[i]) (by rw [List.getElem?_map, List.getElem?_eq_getElem hil]; rfl)
          rw [hi] at e1
          cases e1
          obtain ⟨b, rfl, hb⟩ := pd_at e2
          refine ⟨_, rfl, b, qs[i], rfl, same_tup s3 hb, s3.ok hok, fun H4 s4 => ⟨_, rfl, ?_⟩⟩
          cases hw : wOk qs[i] with
          | true =>
            refine iteF ?_
            refine ⟨s3.trans s4, ?_, _, rfl⟩
            rw [List.take_add_one, List.all_append, ha, List.getElem?_eq_getElem hil]
            show (true && ([qs[i]].all wOk)) = true
            rw [List.all_cons, hw]
            rfl
          | false =>
            refine iteT ?_
            refine bad ?_ H4 (s3.trans s4)
            unfold wayB
            rw [Bool.and_eq_false_iff]
            refine .inr ?_
            rw [List.all_eq_false]
            exact ⟨_, List.getElem_mem hil, by rw [hw]; decide⟩
        · rintro σ H3 ⟨s3, ha, x, rfl⟩
          refine k1 ?_ H3 s3
          rw [el, List.take_length] at ha
          unfold wayB
          rw [ha, Bool.and_true, Bool.and_eq_true]
          exact ⟨decide_eq_true (by omega), decide_eq_true (by omega)⟩
      · rw [decide_eq_false h2]
        refine iteT ?_
        refine bad ?_ H Sm.refl
        unfold wayB
        rw [Bool.and_eq_false_iff, Bool.and_eq_false_iff]
        exact .inl (.inr (decide_eq_false (by omega)))
    · rw [decide_eq_false h1]
      refine iteF ?_
      refine ⟨_, rfl, iteT ?_⟩
      refine bad ?_ H Sm.refl
      unfold wayB
      rw [Bool.and_eq_false_iff, Bool.and_eq_false_iff]
      exact .inl (.inl (decide_eq_false (by omega)))
def sp_p_labour (K : PySem.W.Frag) (T : Tb) (CP : Addr) : Sp := fun vs H Q E => ∃ a us qs, vs = [.ref a] ∧ SqL K H a us ∧ DpAll K H us (qs.map amD) ∧ qs.length ≤ 1000 ∧ Ok T H ∧ (wayB qs = true → ∀ H', Sm T H H' → Q (.int (labourM qs)) H') ∧
  (wayB qs = false → ∀ cls d H', Sm T H H' → Rf K CP "bad way" cls d H' → E cls d H')
theorem ok_p_labour {f : Addr} {fd : FuncData} {c PT : Addr} (F : FunC K "labour" "labour" s_p_labour f fd c) (hnT : (T.map (·.1)).Nodup) (hPT : (PT, (none : Option Str)) ∈ T) (TB : GxR.TabB base mg c PT) (B : Bn mg) {CP : Addr} (F_p_check_way : Fx P w K mg base 4 "check_way" ["way"] (sp_p_check_way K T CP)) : FnOk P w K mg base (L2.CX P w) 5 f fd ["way"] (sp_p_labour K T CP) := by
  refine F.okX sc_p_labour (fun vs H Q E h => ?_) (fun A outer s H vs Q E hr h => ?_)
  · obtain ⟨a, us, qs, rfl, _⟩ := h
    rfl
  · obtain ⟨a, us, qs, rfl, hS, hd, hl, hok, k1, k2⟩ := h
    refine ⟨_, (pss_cons (ps_expr (pe_fx F_p_check_way (hr.mono (by decide)) (takes_of rfl rfl rfl rfl) (pa_cons (pv 0) pa_nil)))
      (pss_one (ps_ret (pe_sumP hnT hPT hr (by rfl) B.sum_ (by decide +kernel) TB rfl (gens_by (by decide +kernel)) rfl (by decide) (pv 0) (elt_mul rfl rfl rfl) (fun _ => rfl))))), ?_⟩
    refine ⟨_, rfl, a, us, qs, rfl, hS, hd, hl, hok, fun hw H1 s1 => ?_, k2⟩
    have hb := wayB_b hw
    refine ⟨_, rfl, a, qs, rfl, (pairs_of hS hd).keep s1, fun q hq => by have := hb.2.2 q hq; omega, s1.ok hok _ hPT, ⟨s1.ok hok, ?_⟩, fun H2 s2 => k1 hw H2 (s1.trans s2)⟩
    have := long_of (l := qs.map fun (q : Int × Int) => q.1 * q.2) (fun z hz => ?_) (by rw [List.length_map]; exact hb.2.1)
    · rw [List.length_map] at this
      exact this
    · obtain ⟨q, hq, rfl⟩ := List.mem_map.mp hz
      have c := hb.2.2 q hq
      exact ⟨Int.mul_nonneg (by omega) (by omega), (Int.mul_le_mul c.2.1 c.2.2.2 (by omega) (by omega) : q.1 * q.2 ≤ 9 * 9)⟩

def sp_p_steps (K : PySem.W.Frag) (T : Tb) (CP : Addr) : Sp := fun vs H Q E => ∃ a us qs, vs = [.ref a] ∧ SqL K H a us ∧ DpAll K H us (qs.map amD) ∧ qs.length ≤ 1000 ∧ Ok T H ∧ (wayB qs = true → ∀ H', Sm T H H' → Q (.int (stepsM qs)) H') ∧
  (wayB qs = false → ∀ cls d H', Sm T H H' → Rf K CP "bad way" cls d H' → E cls d H')
theorem ok_p_steps {f : Addr} {fd : FuncData} {c PT : Addr} (F : FunC K "steps" "steps" s_p_steps f fd c) (hnT : (T.map (·.1)).Nodup) (hPT : (PT, (none : Option Str)) ∈ T) (TB : GxR.TabB base mg c PT) (B : Bn mg) {CP : Addr} (F_p_check_way : Fx P w K mg base 4 "check_way" ["way"] (sp_p_check_way K T CP)) : FnOk P w K mg base (L2.CX P w) 5 f fd ["way"] (sp_p_steps K T CP) := by
  refine F.okX sc_p_steps (fun vs H Q E h => ?_) (fun A outer s H vs Q E hr h => ?_)
  · obtain ⟨a, us, qs, rfl, _⟩ := h
    rfl
  · obtain ⟨a, us, qs, rfl, hS, hd, hl, hok, k1, k2⟩ := h
    refine ⟨_, (pss_cons (ps_expr (pe_fx F_p_check_way (hr.mono (by decide)) (takes_of rfl rfl rfl rfl) (pa_cons (pv 0) pa_nil)))
      (pss_one (ps_ret (pe_sumP hnT hPT hr (by rfl) B.sum_ (by decide +kernel) TB rfl (gens_by (by decide +kernel)) rfl (by decide) (pv 0) (elt_first rfl rfl) (fun _ => rfl))))), ?_⟩
    refine ⟨_, rfl, a, us, qs, rfl, hS, hd, hl, hok, fun hw H1 s1 => ?_, k2⟩
    have hb := wayB_b hw
    refine ⟨_, rfl, a, qs, rfl, (pairs_of hS hd).keep s1, fun q hq => by have := hb.2.2 q hq; omega, s1.ok hok _ hPT, ⟨s1.ok hok, ?_⟩, fun H2 s2 => k1 hw H2 (s1.trans s2)⟩
    have := long_of (l := qs.map fun (q : Int × Int) => q.1) (fun z hz => ?_) (by rw [List.length_map]; exact hb.2.1)
    · rw [List.length_map] at this
      exact this
    · obtain ⟨q, hq, rfl⟩ := List.mem_map.mp hz
      have c := hb.2.2 q hq
      omega
def sp_p_check_within (K : PySem.W.Frag) (T : Tb) (CP : Addr) : Sp := fun vs H Q E => ∃ b x e, vs = [.ref b, .int e] ∧ SqT K H b (tv x) ∧ Bd 4000 x ∧ e.natAbs < 2 ^ 4000 ∧ ((belowA x (0, 1) || belowA (e, 1) x) = false → ∀ H', Sm T H H' → Q .non H') ∧
  ((belowA x (0, 1) || belowA (e, 1) x) = true → ∀ cls d H', Sm T H H' → Rf K CP "bad place" cls d H' → E cls d H')
theorem ok_p_check_within {f : Addr} {fd : FuncData} {a_NOUGHT : Addr} (F : Fun K "check_within" "check_within" s_p_check_within f fd) (g_NOUGHT : mg "NOUGHT" = some (.ref a_NOUGHT)) (s_NOUGHT : ∀ H, SqT K H a_NOUGHT [.int 0, .int 1]) {CP : Addr} (R_BadPlace : Err P w K mg base CP "BadPlace" "bad place") (F_p_below : Fn P w K mg base 1 "below" ["one", "other"] (sp_p_below K T)) : FnOk P w K mg base (L2.CX P w) 4 f fd ["where", "end"] (sp_p_check_within K T CP) := by
  refine F.okX sc_p_check_within (fun vs H Q E h => ?_) (fun cdv A outer s H vs Q E hr h => ?_)
  · obtain ⟨b, x, e, rfl, _⟩ := h
    rfl
  · obtain ⟨b, x, e, rfl, hS, bx, he, k1, k2⟩ := h
    refine ⟨_, (pss_one (ps_if (PW.pt (pw_or (pt_val (pe_fn F_p_below (hr.mono (by decide)) (pa_cons (pv 0) (pa_cons (pe_glob (v := .ref a_NOUGHT) (by rfl) g_NOUGHT rfl) pa_nil)))) (pw_or1 (pt_val (pe_fn F_p_below (hr.mono (by decide)) (pa_cons (pe_tup (pa_cons (pv 1) (pa_cons pe_int pa_nil))) (pa_cons (pv 0) pa_nil))))))) (pss_one (ps_raise rfl (takes_of rfl rfl rfl rfl) (pmk_err R_BadPlace (hr.mono (by decide)) (by rfl)))) pss_nil)), ?_⟩
    have b0 : Bd 4000 (0, 1) := ⟨by show (0 : Int).natAbs < 2 ^ 4000; exact Nat.two_pow_pos _, by show (1 : Int).natAbs < 2 ^ 4000; exact Nat.one_lt_two_pow (by decide)⟩
    have be : Bd 4000 (e, 1) := ⟨he, b0.2⟩
    have bad : (belowA x (0, 1) || belowA (e, 1) x) = true → ∀ (H1 : Hp), Sm T H H1 → tErr K CP "bad place" [] H1 (fun cls d H' => E cls d H') := fun hb H1 s1 cls dd hn rf => k2 hb cls (some dd) _ (s1.trans (same_upd hn)) rf
    refine ⟨_, rfl, b, a_NOUGHT, x, (0, 1), rfl, hS, s_NOUGHT H, ⟨bx, b0⟩, _, rfl, ?_⟩
    cases h1 : belowA x (0, 1) with
    | true =>
      refine iteT (iteT ?_)
      exact bad (by rw [h1]; rfl) H Sm.refl
    | false =>
      refine iteF ?_
      refine ⟨_, rfl, by show 2 ≤ sizeLine; decide, fun t nt => ?_⟩
      have s1 := same_upd (T := T) (o := HO.tup [.int e, .int 1]) nt
      refine ⟨_, rfl, t, b, (e, 1), x, rfl, SqT.of upd_same, same_tup s1 hS, ⟨be, bx⟩, _, rfl, ?_⟩
      cases h2 : belowA (e, 1) x with
      | true =>
        refine iteT ?_
        exact bad (by rw [h1, h2]; rfl) _ s1
      | false =>
        refine iteF ?_
        exact k1 (by rw [h1, h2]; rfl) _ s1


def spBad (K : PySem.W.Frag) (T : Tb) (CP : Addr) : Sp := fun vs H _ E => ∃ a us qs b, vs = [.ref a, .ref b] ∧ SqL K H a us ∧ DpAll K H us (qs.map amD) ∧ qs.length ≤ 1000 ∧ Ok T H ∧ wayB qs = false ∧ ∀ cls d H', Sm T H H' → Rf K CP "bad way" cls d H' → E cls d H'
abbrev sp_p_place_at : PySem.W.Frag → Tb → Addr → Sp := spBad
abbrev sp_p_step_at : PySem.W.Frag → Tb → Addr → Sp := spBad
abbrev sp_p_stretch_at : PySem.W.Frag → Tb → Addr → Sp := spBad
theorem ok_p_place_at {f : Addr} {fd : FuncData} (F : Fun K "place_at" "place_at" s_p_place_at f fd) {CP : Addr} (F_p_steps : Fx P w K mg base 5 "steps" ["way"] (sp_p_steps K T CP)) (F_p_check_within : Fx P w K mg base 4 "check_within" ["where", "end"] (sp_p_check_within K T CP)) : FnOk P w K mg base (L2.CX P w) 6 f fd ["way", "step"] (sp_p_place_at K T CP) := by
  refine F.okX sc_p_place_at (fun vs H Q E h => ?_) (fun cdv A outer s H vs Q E hr h => ?_)
  · obtain ⟨a, us, qs, b, rfl, _⟩ := h
    rfl
  · obtain ⟨a, us, qs, b, rfl, hS, hd, hl, hok, hw, k2⟩ := h
    refine ⟨_, (pss_cons (ps_expr (pe_fx F_p_check_within (hr.mono (by decide)) (takes_of rfl rfl rfl rfl) (pa_cons (pv 1) (pa_cons (pe_fx F_p_steps (hr.mono (by decide)) (takes_of rfl rfl rfl rfl) (pa_cons (pv 0) pa_nil)) pa_nil))))
      pss_never), ?_⟩
    exact ⟨_, rfl, _, rfl, a, us, qs, rfl, hS, hd, hl, hok, fun h => absurd (hw.symm.trans h) (by decide), fun _ => k2⟩
theorem ok_p_step_at {f : Addr} {fd : FuncData} (F : Fun K "step_at" "step_at" s_p_step_at f fd) {CP : Addr} (F_p_labour : Fx P w K mg base 5 "labour" ["way"] (sp_p_labour K T CP)) (F_p_check_within : Fx P w K mg base 4 "check_within" ["where", "end"] (sp_p_check_within K T CP)) : FnOk P w K mg base (L2.CX P w) 6 f fd ["way", "place"] (sp_p_step_at K T CP) := by
  refine F.okX sc_p_step_at (fun vs H Q E h => ?_) (fun cdv A outer s H vs Q E hr h => ?_)
  · obtain ⟨a, us, qs, b, rfl, _⟩ := h
    rfl
  · obtain ⟨a, us, qs, b, rfl, hS, hd, hl, hok, hw, k2⟩ := h
    refine ⟨_, (pss_cons (ps_expr (pe_fx F_p_check_within (hr.mono (by decide)) (takes_of rfl rfl rfl rfl) (pa_cons (pv 1) (pa_cons (pe_fx F_p_labour (hr.mono (by decide)) (takes_of rfl rfl rfl rfl) (pa_cons (pv 0) pa_nil)) pa_nil))))
      pss_never), ?_⟩
    exact ⟨_, rfl, _, rfl, a, us, qs, rfl, hS, hd, hl, hok, fun h => absurd (hw.symm.trans h) (by decide), fun _ => k2⟩
theorem ok_p_stretch_at {f : Addr} {fd : FuncData} (F : Fun K "stretch_at" "stretch_at" s_p_stretch_at f fd) {CP : Addr} (F_p_labour : Fx P w K mg base 5 "labour" ["way"] (sp_p_labour K T CP)) (F_p_check_within : Fx P w K mg base 4 "check_within" ["where", "end"] (sp_p_check_within K T CP)) : FnOk P w K mg base (L2.CX P w) 6 f fd ["way", "place"] (sp_p_stretch_at K T CP) := by
  refine F.okX sc_p_stretch_at (fun vs H Q E h => ?_) (fun cdv A outer s H vs Q E hr h => ?_)
  · obtain ⟨a, us, qs, b, rfl, _⟩ := h
    rfl
  · obtain ⟨a, us, qs, b, rfl, hS, hd, hl, hok, hw, k2⟩ := h
    refine ⟨_, (pss_cons (ps_expr (pe_fx F_p_check_within (hr.mono (by decide)) (takes_of rfl rfl rfl rfl) (pa_cons (pv 1) (pa_cons (pe_fx F_p_labour (hr.mono (by decide)) (takes_of rfl rfl rfl rfl) (pa_cons (pv 0) pa_nil)) pa_nil))))
      pss_never), ?_⟩
    exact ⟨_, rfl, _, rfl, a, us, qs, rfl, hS, hd, hl, hok, fun h => absurd (hw.symm.trans h) (by decide), fun _ => k2⟩

/-! ### the end of a law whose program raises, with tables of code objects -/
theorem walk_tabs {l : PySem.W.OpenLaw} {n k : Nat} {q : Program} {loose : List Str} {XP : (Str → Option Value) → Heap → Prop} {YP : World → Heap → Prop} {d : DefRec} {K : Params → PySem.W.Frag} {CX : World → CXT} {x : Str}
    (hn : l.most = some n) (hn2 : n ≤ sizeLine) (hdf : d.params.defaults = []) (hr : Room k callerA) (hY : ∀ (w : World) (h : Heap), YP w h → (K w.params).In h)
    (F : ∀ (w : World) (mg : Str → Option Value) (fa : Addr) (h : Heap), YP w h → (K w.params).In h → h.Ns mainGlobals mg → mg d.name = some (.ref fa) →
      (∀ (y : Str) (c P : Addr), ((recsOf q).any fun e => e.name == y) = true → PySem.W.tabIn (K w.params) y = some (c, P) → PySem.W.CodeHd h c P ∧ h.get? P = some { cls := .none, data := .fields #[] }) → LamX.LawAtS l w (K w.params) (CX w) k n x mg fa h)
    (hCX : ∀ (w : World) (H : Hp) (s : Shared) (e : Value) (s' : Shared), CX w [] H s (fun _ _ _ => False) e s' → False) :
    PySem.W.WalkO q loose XP YP l.row.toRowW d [] (fun f vs => PySem.call f vs) := by
  refine Att.attach_callB hn hdf fun w s₀ s₁ mg mb fa o pm cd doc a vs ns G Y ho hd hcd hmg hobj hints hlen hbits hg => ?_
  have KX := hY w _ Y
  have tabs : ∀ (y : Str) (c P : Addr), ((recsOf q).any fun e => e.name == y) = true → PySem.W.tabIn (K w.params) y = some (c, P) → PySem.W.CodeHd s₁.heap c P ∧ s₁.heap.get? P = some { cls := .none, data := .fields #[] } := fun y c P ha ht => by
    cases hf : (recsOf q).find? (fun e => e.name == y) with
    | none =>
      obtain ⟨e, he, hy⟩ := List.any_eq_true.mp ha
      exact absurd hy (List.find?_eq_none.mp hf e he)
    | some e => exact PySem.W.tab_of G.T KX hf ht
  obtain ⟨fd, cs, sp, hT, nT, C, hb, hsp, hF⟩ := F w mg fa _ Y KX G.T.g hmg tabs
  exact LamX.law_callTs KX G.T.g G.T.b G.T.builtins G.T.nolimit hg hT nT C G.T.bmain hobj hints (Nat.le_trans hlen hn2) hr hF hb (fun H hH hS => hsp H a ns hlen hbits hH hS) fun H e s' => hCX w H s₁ e s'
theorem tab_in {K : PySem.W.Frag} {y : Str} {f c P : Addr} {o : Obj} {fd : FuncData} {e : Value} {dd : Option Addr} {vs : Array Value} {sl : Array (Option Value)} (h1 : PySem.W.nsIn K mainGlobals y = some (some (.ref f))) (h2 : K.lookup f = some o) (h3 : o.data = .func fd) (h4 : fd.code = .ref c)
    (h5 : K.lookup c = some ⟨e, dd, .fields vs, sl⟩) (h6 : vs[11]? = some (.ref P)) : PySem.W.tabIn K y = some (c, P) := by
  obtain ⟨o1, o2, o3, o4⟩ := o
  obtain rfl : o3 = .func fd := h3
  unfold PySem.W.tabIn
  simp only [h1, h2, h4, h5, h6]
theorem okG0 {H : Hp} {P : Addr} (h : H P = some (.tbl #[])) : OkP H (P, none) := ⟨#[], h, by first | trivial | constructor⟩
theorem okS0 {H : Hp} {P : Addr} {q : Str} (h : H P = some (.tbl #[])) : OkP H (P, some q) := ⟨#[], h, by first | trivial | constructor, fun pos cv e => by cases e⟩
theorem tup_const {K : PySem.W.Frag} {a : Addr} {od : Option Addr} {xs : List V} {its : Array Value} {n : Nat} {sl : Array (Option Value)} (h : K.lookup a = some ⟨.type "tuple", od, .seq its n, sl⟩) (hs : its.size ≤ sizeLine) (hv : Vals xs its.toList) : ∀ H, SqT K H a xs := fun _ => .inr ⟨_, its, n, h, rfl, rfl, hs, hv⟩
theorem gx_lam {base : Heap} {mg : Str → Option Value} {c P : Addr} (h : LamX.TabB base mg c P) : GxR.TabB base mg c P := ⟨h.code, h.bm, h.gP⟩

theorem num_of {K : PySem.W.Frag} {f : Addr} {fd : FuncData} (F : Fun K "is_number" "is_number" s_p_is_number f fd) : NumAt K f := by
  obtain ⟨oc, od, kV, doc, pm, an, cdv, ct, osl, rfl, lk, hcg⟩ := F.ex
  exact ⟨oc, od, kV, doc, pm, an, cdv, ct, osl, _, _, _, _, _, _, _, _, _, _, _, _, lk, hcg⟩
theorem with_of {K : PySem.W.Frag} {f : Addr} {fd : FuncData} (F : Fun K "is_within" "is_within" s_p_is_within f fd) : WithAt K f := by
  obtain ⟨oc, od, kV, doc, pm, an, cdv, ct, osl, rfl, lk, hcg⟩ := F.ex
  exact ⟨oc, od, kV, doc, pm, an, cdv, ct, osl, _, _, _, _, _, _, _, _, _, _, _, _, lk, hcg⟩

def sp_l_cell (K : PySem.W.Frag) (T : Tb) : Sp := fun vs H Q _ => ∃ (a : Addr) (ns : List Int) (k : Int), vs = [.ref a, .int k] ∧ SqL K H a (ns.map V.int) ∧ 0 ≤ k ∧ ∀ z : Int, Q (.int z) H
theorem ok_l_cell {f : Addr} {fd : FuncData} (F : Fun K "_law_cell" "_law_cell" s_l_cell f fd) (B : Bn mg) : FnOk P w K mg base CX0 1 f fd ["_law_script", "_law_k"] (sp_l_cell K T) := by
  refine F.ok sc_l_cell (fun vs H Q E h => ?_) (fun cdv A outer s H vs Q E hr h => ?_)
  · obtain ⟨a, ns, k, rfl, _⟩ := h
    rfl
  · obtain ⟨a, ns, k, rfl, hS, hk, q⟩ := h
    refine ⟨_, (pss_cons (ps_if (pt_cmpR op_lt (pv 1) (pe_callB call_len_seq (by rfl) B.len_ (by decide +kernel) (pa_cons (pv 0) pa_nil)) (nomark _)) (pss_one (ps_ret (pe_ix ix_list (pv 0) (pv 1) (fun _ _ => rfl)))) pss_nil)
      (pss_one (ps_ret (pe_op op_add (pe_op op_add (pe_op op_mul (pe_op op_mod (pe_callB (cr_sum rfl) (by rfl) B.sum_ (by decide +kernel) (pa_cons (pv 0) pa_nil)) pe_int) pe_int) (pe_op op_mul (pe_callB call_len_seq (by rfl) B.len_ (by decide +kernel) (pa_cons (pv 0) pa_nil)) pe_int)) (pe_op op_mul (pv 1) pe_int))))), ?_⟩
    refine ⟨_, rfl, _, rfl, a, _, rfl, .inl hS, _, _, rfl, rfl, _, rfl, ite2 (fun e => ?_) (fun e => ?_)⟩
    · have e' : k < ((ns.map V.int).length : Int) := of_decide_eq_true e
      rw [List.length_map] at e'
      obtain ⟨j, rfl⟩ : ∃ j : Nat, k = (j : Int) := ⟨k.toNat, by omega⟩
      have hj : j < ns.length := by omega
      refine ⟨_, rfl, _, rfl, a, _, _, .int ns[j], rfl, rfl, hS, atI_nat (by rw [List.getElem?_map, List.getElem?_eq_getElem hj]; rfl), q _⟩
    · refine ⟨_, rfl, a, ns, rfl, hS, ?_⟩
      refine ⟨_, _, rfl, rfl, (by show (0 : Int) < 1000003; decide), _, _, rfl, rfl, .inr ⟨by decide, by decide⟩, ?_⟩
      refine ⟨_, rfl, a, _, rfl, .inl hS, _, _, rfl, rfl, .inr ⟨by decide, by decide⟩, _, _, rfl, rfl, ?_⟩
      refine ⟨_, rfl, _, _, rfl, rfl, .inr ⟨by decide, by decide⟩, _, _, rfl, rfl, q _⟩

def sp_l_draws (K : PySem.W.Frag) (T : Tb) : Sp := fun vs H Q _ => ∃ (c : Int) (a : Addr) (qs : List Int), vs = [.int c, .ref a] ∧ SqL K H a (qs.map V.int) ∧ qs.length ≤ 1000 ∧ (∀ q ∈ qs, 0 < q ∧ q.natAbs < 2 ^ 100) ∧
  ∀ p H' (ds : List Int), Sm T H H' → H p = none → H' p = some (.lst (ds.map V.int)) → Drawn ds qs → Q (.ref p) H'
theorem ok_l_draws {f : Addr} {fd : FuncData} (F : Fun K "_law_draws" "_law_draws" s_l_draws f fd) : FnOk P w K mg base CX0 1 f fd ["_law_cell_here", "_law_parts"] (sp_l_draws K T) := by
  refine F.ok sc_l_draws (fun vs H Q E h => ?_) (fun cdv A outer s H vs Q E hr h => ?_)
  · obtain ⟨c, a, qs, rfl, _⟩ := h
    rfl
  · obtain ⟨c, a, qs, rfl, hS, hlen, hpos, q⟩ := h
    refine ⟨_, (pss_cons (ps_if (pt_cmpR op_lt (pv 0) (pe_op op_pow pe_int pe_int) (nomark _)) (pss_cons (ps_set (i := 2) sc_l_draws.nd rfl (.inl rfl) (pe_op op_mod (pe_op op_add (pe_op op_mul (pv 0) pe_int) pe_int) pe_int))
      (pss_cons (ps_set (i := 3) sc_l_draws.nd rfl (.inl rfl) (pe_op op_mod (pe_op op_add (pe_op op_add (pe_op op_mul (pv 2) (pv 2)) (pe_op op_mul pe_int (pv 2))) (pv 0)) pe_int))
      (pss_cons (ps_set (i := 4) sc_l_draws.nd rfl (.inl rfl) (pe_op op_mod (pe_op op_add (pe_op op_mul (pv 3) pe_int) (pv 2)) pe_int))
      (pss_one (ps_set (i := 0) sc_l_draws.nd rfl (.inl rfl) (pe_op op_add (pv 3) (pe_op op_mul pe_int (pe_op op_add (pv 4) (pe_op op_mul pe_int (pv 2)))))))))) (pss_one (ps_set (i := 0) sc_l_draws.nd rfl (.inl rfl) (pe_op op_sub (pv 0) (pe_op op_pow pe_int pe_int)))))
      (pss_cons (ps_set (i := 5) sc_l_draws.nd rfl (.inl rfl) (pe_lst pa_nil))
      (pss_cons (ps_for PassesOwn.never rfl (pi_list (pv 1)) (pg_name (i := 6) sc_l_draws.nd rfl (.inl rfl))
      (pss_cons (ps_expr (pe_bm PySem.F.plainAttrs_list PySem.F.slot_list_append PySem.F.type_list_append mt_append (pv 5) (pa_cons (pe_op op_mod (pv 0) (pv 6)) pa_nil)))
      (pss_one (ps_set (i := 0) sc_l_draws.nd rfl (.inl rfl) (pe_op op_fdivW (pv 0) (pv 6))))))
      (pss_one (ps_ret (pv 5)))))), ?_⟩
    refine seq_if (fun σ' H' => H' = H ∧ ∃ (c : Int) (x2 x3 x4 : Option V), σ' = [some (.int c), some (.ref a), x2, x3, x4, none, none]) (fun σ' H' p => ?_) (fun k => ?_)
    · obtain ⟨rfl, c, x2, x3, x4, rfl⟩ := p
      refine ⟨Nat.zero_le _, fun o no => ?_⟩
      refine ⟨_, rfl, a, rfl, ⟨_, (same_upd (T := T) no).seq hS⟩, for_list (K := K) (a := a) (xs := qs.map V.int)
        (fun i σ H3 => ∃ (c : Int) (x6 : Option V) (ds : List Int), σ = [some (.int c), some (.ref a), x2, x3, x4, some (.ref o), x6] ∧ Sm T H' H3 ∧ H3 o = some (.lst (ds.map V.int)) ∧ Drawn ds (qs.take i))
        ⟨c, none, [], rfl, same_upd no, upd_same, trivial⟩ (fun i σ H3 _ ⟨_, _, _, _, sm, _⟩ => sm.seq hS) ?_ ?_⟩
      · rintro i y σ H3 hi ⟨c, x6, ds, rfl, sm, eo, hd⟩
        rw [List.getElem?_map] at hi
        obtain ⟨qi, hq, rfl⟩ : ∃ qi, qs[i]? = some qi ∧ V.int qi = y := Option.map_eq_some_iff.mp hi
        have hqm := hpos qi (List.mem_of_getElem? hq)
        have hil : i < qs.length := (List.getElem?_eq_some_iff.mp hq).1
        refine ⟨_, rfl, .inl ⟨rfl, _, SqL.of eo⟩, _, rfl, _, rfl, _, _, rfl, rfl, hqm.1, o, _, _, rfl, rfl, eo, ?_, ?_⟩
        · rw [List.length_map, hd.length, List.length_take]
          exact szl (by omega)
        · refine ⟨_, rfl, _, rfl, _, _, rfl, rfl, wide_div hqm.1 hqm.2 (by decide) (by decide), ?_⟩
          refine ⟨_, _, ds ++ [c % qi], rfl, same_mut sm no eo, ?_, ?_⟩
          · rw [upd_same, List.map_append]
            rfl
          · rw [List.take_add_one, hq]
            exact hd.snoc (Int.emod_nonneg _ (by omega)) (Int.emod_lt_of_pos _ hqm.1)
      · rintro σ H3 ⟨c, x6, ds, rfl, sm, eo, hd⟩
        rw [List.length_map, List.take_length] at hd
        exact ⟨_, rfl, q o H3 ds sm no eo hd⟩
    · have b1 := Int.emod_nonneg (c * 48271 + 11) (show (2147483647 : Int) ≠ 0 by decide)
      have b2 := Int.emod_lt_of_pos (c * 48271 + 11) (show (0 : Int) < 2147483647 by decide)
      refine ⟨_, rfl, _, _, rfl, rfl, ⟨by decide, by decide, by decide⟩, _, _, rfl, rfl, _, rfl, ite2 (fun e => ?_) (fun e => ?_)⟩
      · refine ⟨_, rfl, _, _, rfl, rfl, .inr ⟨by decide, by decide⟩, _, _, rfl, rfl, _, _, rfl, rfl, (by show (0 : Int) < 2147483647; decide), ?_⟩
        refine ⟨_, rfl, _, rfl, _, _, rfl, rfl, .inl ⟨by omega, by omega⟩, ?_⟩
        refine ⟨_, rfl, _, _, rfl, rfl, .inl ⟨by decide, by decide⟩, _, _, rfl, rfl, _, rfl, _, _, rfl, rfl, _, _, rfl, rfl, (by show (0 : Int) < 2147483399; decide), ?_⟩
        refine ⟨_, rfl, _, _, rfl, rfl, .inr ⟨by decide, by decide⟩, _, rfl, _, _, rfl, rfl, _, _, rfl, rfl, (by show (0 : Int) < 1000000007; decide), ?_⟩
        refine ⟨_, rfl, _, rfl, _, rfl, _, _, rfl, rfl, .inl ⟨by decide, by decide⟩, _, _, rfl, rfl, _, _, rfl, rfl, .inl ⟨by decide, by decide⟩, _, _, rfl, rfl, ?_⟩
        exact k _ _ ⟨rfl, _, _, _, _, rfl⟩
      · refine ⟨_, rfl, _, _, rfl, rfl, ⟨by decide, by decide, by decide⟩, _, _, rfl, rfl, ?_⟩
        exact k _ _ ⟨rfl, _, _, _, _, rfl⟩

def sp_l_split (K : PySem.W.Frag) (T : Tb) : Sp := fun vs H Q _ => ∃ (c : Int) (n : Nat), vs = [.int c, .int n] ∧ n ≤ 100 ∧
  ∀ p H' (zs : List Int), Sm T H H' → H p = none → H' p = some (.lst (zs.map V.int)) → zs.length = n → Q (.ref p) H'
theorem ok_l_split {f : Addr} {fd : FuncData} (F : Fun K "_law_split" "_law_split" s_l_split f fd) (B : Bn mg) : FnOk P w K mg base CX0 1 f fd ["_law_cell_here", "_law_many_here"] (sp_l_split K T) := by
  refine F.ok sc_l_split (fun vs H Q E h => ?_) (fun cdv A outer s H vs Q E hr h => ?_)
  · obtain ⟨c, n, rfl, _⟩ := h
    rfl
  · obtain ⟨c, n, rfl, hn, q⟩ := h
    refine ⟨_, (pss_cons (ps_set (i := 2) sc_l_split.nd rfl (.inl rfl) (pe_lst pa_nil))
      (pss_cons (ps_set (i := 3) sc_l_split.nd rfl (.inl rfl) (pe_cmpR op_ge (pv 0) (pe_op op_pow pe_int pe_int) (nomark _)))
      (pss_cons (ps_for PassesOwn.never rfl (pi_range1 (by rfl) B.range_ (pa_cons (pv 1) pa_nil)) (pg_name (i := 4) sc_l_split.nd rfl (.inl rfl))
      (pss_one (ps_if (pt_val (pv 3)) (pss_cons (ps_expr (pe_bm PySem.F.plainAttrs_list PySem.F.slot_list_append PySem.F.type_list_append mt_append (pv 2) (pa_cons (pe_op op_add (pe_op op_pow pe_int pe_int) (pe_op op_mod (pv 0) (pe_op op_pow pe_int pe_int))) pa_nil)))
      (pss_one (ps_set (i := 0) sc_l_split.nd rfl (.inl rfl) (pe_op op_fdivW (pv 0) (pe_op op_pow pe_int pe_int))))) (pss_one (ps_expr (pe_bm PySem.F.plainAttrs_list PySem.F.slot_list_append PySem.F.type_list_append mt_append (pv 2) (pa_cons (pe_op op_add (pe_op op_mul (pv 0) (pe_op op_add (pe_op op_mul pe_int (pv 4)) pe_int)) (pe_op op_mul pe_int (pv 4))) pa_nil)))))))
      (pss_one (ps_ret (pv 2)))))), ?_⟩
    refine ⟨Nat.zero_le _, fun o no => ?_⟩
    refine ⟨_, rfl, _, _, rfl, rfl, ⟨by decide, by decide, by decide⟩, _, _, rfl, rfl, ?_⟩
    refine ⟨_, rfl, n, rfl, by omega, by omega, for_range (lo := 0) (n := n)
      (fun i σ H3 => ∃ (c : Int) (b : Bool) (x4 : Option V) (zs : List Int), σ = [some (.int c), some (.int n), some (.ref o), some (.bl b), x4] ∧ Sm T H H3 ∧ H3 o = some (.lst (zs.map V.int)) ∧ zs.length = i)
      ⟨c, _, none, [], rfl, same_upd no, upd_same, rfl⟩ ?_ ?_⟩
    · rintro i σ H3 hi ⟨c, b, x4, zs, rfl, sm, eo, hl⟩
      have hs : (zs.map V.int).length < sizeLine := by
        rw [List.length_map]
        exact szl (by omega)
      refine ⟨_, rfl, _, rfl, ?_⟩
      cases b with
      | true =>
        refine iteT ?_
        refine ⟨_, rfl, .inl ⟨rfl, _, SqL.of eo⟩, _, _, rfl, rfl, ⟨by decide, by decide, by decide⟩, _, rfl, _, _, rfl, rfl, ⟨by decide, by decide, by decide⟩, _, _, rfl, rfl, (by show (0 : Int) < 10 ^ 30; decide), _, _, rfl, rfl, o, _, _, rfl, rfl, eo, hs, ?_⟩
        refine ⟨_, rfl, _, _, rfl, rfl, ⟨by decide, by decide, by decide⟩, _, _, rfl, rfl, wide_div (b := 200) (by show (0 : Int) < 10 ^ 30; decide) (by decide) (by decide) (by decide), ?_⟩
        refine ⟨_, true, _, zs ++ [10 ^ (18 : Int).toNat + c % 10 ^ (30 : Int).toNat], rfl, same_mut sm no eo, ?_, ?_⟩
        · rw [upd_same, List.map_append]
          rfl
        · rw [List.length_append, hl]
          rfl
      | false =>
        refine iteF ?_
        refine ⟨_, rfl, .inl ⟨rfl, _, SqL.of eo⟩, _, rfl, _, rfl, _, _, rfl, rfl, .inl ⟨by decide, by decide⟩, _, _, rfl, rfl, _, _, rfl, rfl, .inr ⟨by omega, by omega⟩, _, rfl, _, _, rfl, rfl, .inl ⟨by decide, by decide⟩, _, _, rfl, rfl, o, _, _, rfl, rfl, eo, hs, ?_⟩
        refine ⟨_, false, _, zs ++ [c * (2 * (0 + (i : Int)) + 3) + 7919 * (0 + (i : Int))], rfl, same_mut sm no eo, ?_, ?_⟩
        · rw [upd_same, List.map_append]
          rfl
        · rw [List.length_append, hl]
          rfl
    · rintro σ H3 ⟨c, b, x4, zs, rfl, sm, eo, hl⟩
      exact ⟨_, rfl, q o H3 zs sm no eo hl⟩

def sp_l_many (K : PySem.W.Frag) (T : Tb) : Sp := fun vs H Q _ => ∃ (a : Addr) (ns : List Int) (k : Int), vs = [.ref a, .int k] ∧ SqL K H a (ns.map V.int) ∧ 0 ≤ k ∧ k ≤ 63 ∧ ∀ m : Nat, m ≤ 63 → Q (.int m) H
theorem ok_l_many {f : Addr} {fd : FuncData} (F : Fun K "_law_many" "_law_many" s_l_many f fd) (B : Bn mg) : FnOk P w K mg base CX0 1 f fd ["_law_script", "_law_few"] (sp_l_many K T) := by
  refine F.ok sc_l_many (fun vs H Q E h => ?_) (fun cdv A outer s H vs Q E hr h => ?_)
  · obtain ⟨a, ns, k, rfl, _⟩ := h
    rfl
  · obtain ⟨a, ns, k, rfl, hS, h0, h1, q⟩ := h
    refine ⟨_, (pss_one (ps_ret (pe_callB (call_max2 rfl) (by rfl) B.max_ (by decide +kernel) (pa_cons (pv 1) (pa_cons (pe_callB (call_min2 rfl) (by rfl) B.min_ (by decide +kernel) (pa_cons (pe_callB call_len_seq (by rfl) B.len_ (by decide +kernel) (pa_cons (pv 0) pa_nil)) (pa_cons pe_int pa_nil))) pa_nil))))), ?_⟩
    refine ⟨_, rfl, _, rfl, a, _, rfl, .inl hS, _, _, rfl, _, _, rfl, ?_⟩
    rw [List.length_map]
    have e : ∃ m : Nat, m ≤ 63 ∧ (if (if (63 : Int) < (ns.length : Int) then 63 else (ns.length : Int)) > k then (if (63 : Int) < (ns.length : Int) then 63 else (ns.length : Int)) else k) = (m : Int) := by
      refine ⟨(if (if (63 : Int) < (ns.length : Int) then 63 else (ns.length : Int)) > k then (if (63 : Int) < (ns.length : Int) then 63 else (ns.length : Int)) else k).toNat, ?_, ?_⟩ <;> (split <;> (try split) <;> omega)
    obtain ⟨m, hm, em⟩ := e
    rw [em]
    exact q m hm


def sp_l_same_n (n : Nat) (K : PySem.W.Frag) (T : Tb) : Sp := fun vs H Q _ => ∃ x y d, vs = [x, y] ∧ Dp K H x d ∧ Dp K H y d ∧ depOk n d = true ∧ ∀ H', Sm T H H' → Q (.bl true) H'
abbrev sp_l_same (K : PySem.W.Frag) (T : Tb) : Sp := sp_l_same_n 5 K T
theorem ok_l_same_n {f : Addr} {fd : FuncData} (F : Fun K "_law_same" "_law_same" s_l_same f fd) (B : Bn mg) (g : mg "_law_same" = some (.ref f)) (b : Binds K fd ["_law_found", "_law_due"] []) :
    ∀ n, FnOk P w K mg base CX0 (n + 1) f fd ["_law_found", "_law_due"] (sp_l_same_n n K T)
  | 0 => by
    refine F.ok sc_l_same (fun vs H Q E h => ?_) (fun cdv A outer s H vs Q E hr h => ?_)
    · obtain ⟨x, y, d, rfl, _⟩ := h
      rfl
    · obtain ⟨x, y, d, rfl, hx, hy, hd, q⟩ := h
      have tx := tyx_of hx
      have ty := tyx_of hy
      have q0 := q H Sm.refl
      refine ⟨_, (pss_cons (ps_if (pt_cmpR op_isN (pv 1) pe_non (nomark _)) (pss_one (ps_ret (pe_cmpR op_isN (pv 0) pe_non (nomark _)))) pss_nil)
      (pss_cons (ps_if (PW.pt (pw_or (pt_val (pe_callB call_isi (by rfl) B.isinstance_ (by decide +kernel) (pa_cons (pv 1) (pa_cons (pe_bltn (v := .ty "bool") (by rfl) B.bool_ (by decide +kernel) rfl) pa_nil)))) (pw_or1 (pt_val (pe_callB call_isi (by rfl) B.isinstance_ (by decide +kernel) (pa_cons (pv 0) (pa_cons (pe_bltn (v := .ty "bool") (by rfl) B.bool_ (by decide +kernel) rfl) pa_nil))))))) (pss_one (ps_ret (pe_and (pe_callB call_isi (by rfl) B.isinstance_ (by decide +kernel) (pa_cons (pv 1) (pa_cons (pe_bltn (v := .ty "bool") (by rfl) B.bool_ (by decide +kernel) rfl) pa_nil))) (pe_and (pe_callB call_isi (by rfl) B.isinstance_ (by decide +kernel) (pa_cons (pv 0) (pa_cons (pe_bltn (v := .ty "bool") (by rfl) B.bool_ (by decide +kernel) rfl) pa_nil))) (pe_one (pe_cmpR op_eq (pv 0) (pv 1) (nomark _))))))) pss_nil)
      (pss_cons (ps_if (pt_val (pe_callB call_isi (by rfl) B.isinstance_ (by decide +kernel) (pa_cons (pv 1) (pa_cons (pe_bltn (v := .ty "int") (by rfl) B.int_ (by decide +kernel) rfl) pa_nil)))) (pss_one (ps_ret (pe_and (pe_callB call_isi (by rfl) B.isinstance_ (by decide +kernel) (pa_cons (pv 0) (pa_cons (pe_bltn (v := .ty "int") (by rfl) B.int_ (by decide +kernel) rfl) pa_nil))) (pe_one (pe_cmpR op_eq (pv 0) (pv 1) (nomark _)))))) pss_nil)
      (pss_cons (ps_if (pt_val (pe_callB call_isi (by rfl) B.isinstance_ (by decide +kernel) (pa_cons (pv 1) (pa_cons (pe_bltn (v := .ty "str") (by rfl) B.str_ (by decide +kernel) rfl) pa_nil)))) (pss_one (ps_ret (pe_and (pe_callB call_isi (by rfl) B.isinstance_ (by decide +kernel) (pa_cons (pv 0) (pa_cons (pe_bltn (v := .ty "str") (by rfl) B.str_ (by decide +kernel) rfl) pa_nil))) (pe_one (pe_cmpR op_eq (pv 0) (pv 1) (nomark _)))))) pss_nil)
      (pss_cons (ps_if (PW.pt (pw_or (pt_cmpR op_ne (pe_callB call_isi (by rfl) B.isinstance_ (by decide +kernel) (pa_cons (pv 1) (pa_cons (pe_bltn (v := .ty "tuple") (by rfl) B.tuple_ (by decide +kernel) rfl) pa_nil))) (pe_callB call_isi (by rfl) B.isinstance_ (by decide +kernel) (pa_cons (pv 0) (pa_cons (pe_bltn (v := .ty "tuple") (by rfl) B.tuple_ (by decide +kernel) rfl) pa_nil))) (nomark _)) (pw_or1 (pt_cmpR op_ne (pe_callB call_isi (by rfl) B.isinstance_ (by decide +kernel) (pa_cons (pv 1) (pa_cons (pe_bltn (v := .ty "list") (by rfl) B.list_ (by decide +kernel) rfl) pa_nil))) (pe_callB call_isi (by rfl) B.isinstance_ (by decide +kernel) (pa_cons (pv 0) (pa_cons (pe_bltn (v := .ty "list") (by rfl) B.list_ (by decide +kernel) rfl) pa_nil))) (nomark _))))) (pss_one (ps_ret pe_bl)) pss_nil)
      (pss_one ps_never)))))), ?_⟩
      cases d with
      | none =>
        cases hx; cases hy
        exact ⟨_, rfl, rfl, _, rfl, iteT ⟨_, rfl, rfl, q0⟩⟩
      | bool b =>
        cases hx; cases hy
        refine ⟨_, rfl, rfl, _, rfl, iteF ?_⟩
        refine ⟨_, rfl, _, _, _, _, true, rfl, .ty "bool", ty, kit_ty kb_bool_bool, _, rfl, iteT (iteT ?_)⟩
        refine ⟨_, rfl, _, _, _, _, true, rfl, .ty "bool", ty, kit_ty kb_bool_bool, _, rfl, iteT ?_⟩
        refine ⟨_, rfl, _, _, _, _, true, rfl, .ty "bool", tx, kit_ty kb_bool_bool, _, rfl, iteT ?_⟩
        refine ⟨_, rfl, _, rfl, rfl, ?_⟩
        rw [decide_eq_true rfl]
        exact q0
      | int i =>
        cases hx; cases hy
        refine ⟨_, rfl, rfl, _, rfl, iteF ?_⟩
        refine ⟨_, rfl, _, _, _, _, false, rfl, .ty "bool", ty, kit_ty kb_int_bool, _, rfl, iteF ?_⟩
        refine ⟨_, rfl, _, _, _, _, false, rfl, .ty "bool", tx, kit_ty kb_int_bool, _, rfl, iteF ?_⟩
        refine ⟨_, rfl, _, _, _, _, true, rfl, .ty "int", ty, kit_ty kb_int_int, _, rfl, iteT ?_⟩
        refine ⟨_, rfl, _, _, _, _, true, rfl, .ty "int", tx, kit_ty kb_int_int, _, rfl, iteT ?_⟩
        refine ⟨_, rfl, _, rfl, rfl, ?_⟩
        rw [decide_eq_true rfl]
        exact q0
      | str z =>
        cases hx; cases hy
        refine ⟨_, rfl, rfl, _, rfl, iteF ?_⟩
        refine ⟨_, rfl, _, _, _, _, false, rfl, .ty "bool", ty, kit_ty kb_str_bool, _, rfl, iteF ?_⟩
        refine ⟨_, rfl, _, _, _, _, false, rfl, .ty "bool", tx, kit_ty kb_str_bool, _, rfl, iteF ?_⟩
        refine ⟨_, rfl, _, _, _, _, false, rfl, .ty "int", ty, kit_ty kb_str_int, _, rfl, iteF ?_⟩
        refine ⟨_, rfl, _, _, _, _, true, rfl, .ty "str", ty, kit_ty kb_str_str, _, rfl, iteT ?_⟩
        refine ⟨_, rfl, _, _, _, _, true, rfl, .ty "str", tx, kit_ty kb_str_str, _, rfl, iteT ?_⟩
        refine ⟨_, rfl, _, rfl, rfl, ?_⟩
        rw [decide_eq_true rfl]
        exact q0
      | list ds => cases hd
      | tuple ds => cases hd
      | dict _ => cases hd
  | n + 1 => by
    have F_l_same : Fn P w K mg base (n + 1) "_law_same" ["_law_found", "_law_due"] (sp_l_same_n n K T) := Fn.mk' (ok_l_same_n F B g b n) g F.kp b
    refine F.ok sc_l_same (fun vs H Q E h => ?_) (fun cdv A outer s H vs Q E hr h => ?_)
    · obtain ⟨x, y, d, rfl, _⟩ := h
      rfl
    · obtain ⟨x, y, d, rfl, hx, hy, hd, q⟩ := h
      have tx := tyx_of hx
      have ty := tyx_of hy
      have q0 := q H Sm.refl
      refine ⟨_, (pss_cons (ps_if (pt_cmpR op_isN (pv 1) pe_non (nomark _)) (pss_one (ps_ret (pe_cmpR op_isN (pv 0) pe_non (nomark _)))) pss_nil)
      (pss_cons (ps_if (PW.pt (pw_or (pt_val (pe_callB call_isi (by rfl) B.isinstance_ (by decide +kernel) (pa_cons (pv 1) (pa_cons (pe_bltn (v := .ty "bool") (by rfl) B.bool_ (by decide +kernel) rfl) pa_nil)))) (pw_or1 (pt_val (pe_callB call_isi (by rfl) B.isinstance_ (by decide +kernel) (pa_cons (pv 0) (pa_cons (pe_bltn (v := .ty "bool") (by rfl) B.bool_ (by decide +kernel) rfl) pa_nil))))))) (pss_one (ps_ret (pe_and (pe_callB call_isi (by rfl) B.isinstance_ (by decide +kernel) (pa_cons (pv 1) (pa_cons (pe_bltn (v := .ty "bool") (by rfl) B.bool_ (by decide +kernel) rfl) pa_nil))) (pe_and (pe_callB call_isi (by rfl) B.isinstance_ (by decide +kernel) (pa_cons (pv 0) (pa_cons (pe_bltn (v := .ty "bool") (by rfl) B.bool_ (by decide +kernel) rfl) pa_nil))) (pe_one (pe_cmpR op_eq (pv 0) (pv 1) (nomark _))))))) pss_nil)
      (pss_cons (ps_if (pt_val (pe_callB call_isi (by rfl) B.isinstance_ (by decide +kernel) (pa_cons (pv 1) (pa_cons (pe_bltn (v := .ty "int") (by rfl) B.int_ (by decide +kernel) rfl) pa_nil)))) (pss_one (ps_ret (pe_and (pe_callB call_isi (by rfl) B.isinstance_ (by decide +kernel) (pa_cons (pv 0) (pa_cons (pe_bltn (v := .ty "int") (by rfl) B.int_ (by decide +kernel) rfl) pa_nil))) (pe_one (pe_cmpR op_eq (pv 0) (pv 1) (nomark _)))))) pss_nil)
      (pss_cons (ps_if (pt_val (pe_callB call_isi (by rfl) B.isinstance_ (by decide +kernel) (pa_cons (pv 1) (pa_cons (pe_bltn (v := .ty "str") (by rfl) B.str_ (by decide +kernel) rfl) pa_nil)))) (pss_one (ps_ret (pe_and (pe_callB call_isi (by rfl) B.isinstance_ (by decide +kernel) (pa_cons (pv 0) (pa_cons (pe_bltn (v := .ty "str") (by rfl) B.str_ (by decide +kernel) rfl) pa_nil))) (pe_one (pe_cmpR op_eq (pv 0) (pv 1) (nomark _)))))) pss_nil)
      (pss_cons (ps_if (PW.pt (pw_or (pt_cmpR op_ne (pe_callB call_isi (by rfl) B.isinstance_ (by decide +kernel) (pa_cons (pv 1) (pa_cons (pe_bltn (v := .ty "tuple") (by rfl) B.tuple_ (by decide +kernel) rfl) pa_nil))) (pe_callB call_isi (by rfl) B.isinstance_ (by decide +kernel) (pa_cons (pv 0) (pa_cons (pe_bltn (v := .ty "tuple") (by rfl) B.tuple_ (by decide +kernel) rfl) pa_nil))) (nomark _)) (pw_or1 (pt_cmpR op_ne (pe_callB call_isi (by rfl) B.isinstance_ (by decide +kernel) (pa_cons (pv 1) (pa_cons (pe_bltn (v := .ty "list") (by rfl) B.list_ (by decide +kernel) rfl) pa_nil))) (pe_callB call_isi (by rfl) B.isinstance_ (by decide +kernel) (pa_cons (pv 0) (pa_cons (pe_bltn (v := .ty "list") (by rfl) B.list_ (by decide +kernel) rfl) pa_nil))) (nomark _))))) (pss_one (ps_ret pe_bl)) pss_nil)
      (pss_one (ps_ret (pe_and (pe_cmpR op_eq (pe_callB call_len_seq (by rfl) B.len_ (by decide +kernel) (pa_cons (pv 0) pa_nil)) (pe_callB call_len_seq (by rfl) B.len_ (by decide +kernel) (pa_cons (pv 1) pa_nil)) (nomark _)) (pe_one (pe_callB (cr_all rfl) (by rfl) B.all_ (by decide +kernel) (pa_cons (pe_lc (own := [("_law_k", 2)]) (g := (gName 2)) (tt := tYes) (by rfl) sc_l_same.nd (pi_range1 (by rfl) B.range_ (pa_cons (pe_callB call_len_seq (by rfl) B.len_ (by decide +kernel) (pa_cons (pv 1) pa_nil)) pa_nil)) (blkOk_by (own := [("_law_k", 2)]) (N := ["_law_found", "_law_due", "_law_k"]) (sc := (defScope s_l_same)) (by decide +kernel)) (fun _ _ _ _ _ => (pg_name (i := 2) sc_l_same.nd rfl (.inl rfl))) (fun _ _ _ _ _ => pts_nil) (fun _ _ _ _ _ => (pe_fn F_l_same hr (pa_cons (pe_ix (r := rIx K) ix_seq (pv 0) (pv 2) (fun _ _ => rfl)) (pa_cons (pe_ix (r := rIx K) ix_seq (pv 1) (pv 2) (fun _ _ => rfl)) pa_nil))))) pa_nil))))))))))), ?_⟩
      cases d with
      | none =>
        cases hx; cases hy
        exact ⟨_, rfl, rfl, _, rfl, iteT ⟨_, rfl, rfl, q0⟩⟩
      | bool b =>
        cases hx; cases hy
        refine ⟨_, rfl, rfl, _, rfl, iteF ?_⟩
        refine ⟨_, rfl, _, _, _, _, true, rfl, .ty "bool", ty, kit_ty kb_bool_bool, _, rfl, iteT (iteT ?_)⟩
        refine ⟨_, rfl, _, _, _, _, true, rfl, .ty "bool", ty, kit_ty kb_bool_bool, _, rfl, iteT ?_⟩
        refine ⟨_, rfl, _, _, _, _, true, rfl, .ty "bool", tx, kit_ty kb_bool_bool, _, rfl, iteT ?_⟩
        refine ⟨_, rfl, _, rfl, rfl, ?_⟩
        rw [decide_eq_true rfl]
        exact q0
      | int i =>
        cases hx; cases hy
        refine ⟨_, rfl, rfl, _, rfl, iteF ?_⟩
        refine ⟨_, rfl, _, _, _, _, false, rfl, .ty "bool", ty, kit_ty kb_int_bool, _, rfl, iteF ?_⟩
        refine ⟨_, rfl, _, _, _, _, false, rfl, .ty "bool", tx, kit_ty kb_int_bool, _, rfl, iteF ?_⟩
        refine ⟨_, rfl, _, _, _, _, true, rfl, .ty "int", ty, kit_ty kb_int_int, _, rfl, iteT ?_⟩
        refine ⟨_, rfl, _, _, _, _, true, rfl, .ty "int", tx, kit_ty kb_int_int, _, rfl, iteT ?_⟩
        refine ⟨_, rfl, _, rfl, rfl, ?_⟩
        rw [decide_eq_true rfl]
        exact q0
      | str z =>
        cases hx; cases hy
        refine ⟨_, rfl, rfl, _, rfl, iteF ?_⟩
        refine ⟨_, rfl, _, _, _, _, false, rfl, .ty "bool", ty, kit_ty kb_str_bool, _, rfl, iteF ?_⟩
        refine ⟨_, rfl, _, _, _, _, false, rfl, .ty "bool", tx, kit_ty kb_str_bool, _, rfl, iteF ?_⟩
        refine ⟨_, rfl, _, _, _, _, false, rfl, .ty "int", ty, kit_ty kb_str_int, _, rfl, iteF ?_⟩
        refine ⟨_, rfl, _, _, _, _, true, rfl, .ty "str", ty, kit_ty kb_str_str, _, rfl, iteT ?_⟩
        refine ⟨_, rfl, _, _, _, _, true, rfl, .ty "str", tx, kit_ty kb_str_str, _, rfl, iteT ?_⟩
        refine ⟨_, rfl, _, rfl, rfl, ?_⟩
        rw [decide_eq_true rfl]
        exact q0
      | list ds =>
        cases hx with
        | @lst ax xs _ sx ax_ =>
        cases hy with
        | @lst ay ys _ sy ay_ =>
        refine ⟨_, rfl, rfl, _, rfl, iteF ?_⟩
        refine ⟨_, rfl, _, _, _, _, false, rfl, .ty "bool", ty, kit_ty kb_list_bool, _, rfl, iteF ?_⟩
        refine ⟨_, rfl, _, _, _, _, false, rfl, .ty "bool", tx, kit_ty kb_list_bool, _, rfl, iteF ?_⟩
        refine ⟨_, rfl, _, _, _, _, false, rfl, .ty "int", ty, kit_ty kb_list_int, _, rfl, iteF ?_⟩
        refine ⟨_, rfl, _, _, _, _, false, rfl, .ty "str", ty, kit_ty kb_list_str, _, rfl, iteF ?_⟩
        refine ⟨_, rfl, _, _, _, _, false, rfl, .ty "tuple", ty, kit_ty kb_list_tuple, _, rfl, _, _, _, _, false, rfl, .ty "tuple", tx, kit_ty kb_list_tuple, rfl, _, rfl, iteF ?_⟩
        refine ⟨_, rfl, _, _, _, _, true, rfl, .ty "list", ty, kit_ty kb_list_list, _, rfl, _, _, _, _, true, rfl, .ty "list", tx, kit_ty kb_list_list, rfl, _, rfl, iteF ?_⟩
        have hd' : (decide (ds.length ≤ 9000) && ds.all (depOk n)) = true := hd
        rw [Bool.and_eq_true] at hd'
        have hle : ds.length ≤ 9000 := of_decide_eq_true hd'.1
        have lx := dpa_len ax_
        have ly := dpa_len ay_
        refine ⟨_, rfl, ax, xs, rfl, .inl sx, _, rfl, ay, ys, rfl, .inl sy, rfl, _, rfl, ?_⟩
        rw [lx, ly, decide_eq_true rfl]
        refine iteT ?_
        refine ⟨_, rfl, ay, ys, rfl, .inl sy, _, rfl, by rw [ly]; omega, by rw [ly]; omega, fun D hD => lc_range (lo := 0) (n := ys.length)
          (Qd := _) (fun i H' => Sm T H H' ∧ H' D = some (.lst (List.replicate i (V.bl true)))) ⟨same_upd hD, upd_same⟩ ?_ ?_⟩
        · rintro i H' hi ⟨sm, eD⟩
          rw [ly] at hi
          obtain ⟨vx, ex, dx⟩ := dpa_get ax_ (List.getElem?_eq_getElem hi)
          obtain ⟨vy, ey, dy⟩ := dpa_get ay_ (List.getElem?_eq_getElem hi)
          refine ⟨rfl, tyes_i ?_⟩
          refine ⟨_, rfl, _, rfl, .inl ⟨ax, xs, _, vx, rfl, rfl, sm.seq sx, at_of (j := i) (by omega) ex, ?_⟩⟩
          refine ⟨_, rfl, _, rfl, .inl ⟨ay, ys, _, vy, rfl, rfl, sm.seq sy, at_of (j := i) (by omega) ey, ?_⟩⟩
          refine ⟨vx, vy, ds[i], rfl, dp_same sm _ _ dx, dp_same sm _ _ dy, List.all_eq_true.mp hd'.2 _ (List.getElem_mem hi), fun H2 s2 => ⟨_, s2.k eD, ?_, same_mut (sm.trans s2) hD (s2.lst eD), ?_⟩⟩
          · rw [List.length_replicate]
            exact szl (by omega)
          · rw [upd_same, ← List.replicate_succ']
        · rintro H' ⟨sm, eD⟩
          rw [ly] at eD
          refine ⟨D, List.replicate ds.length true, rfl, SqL.of (by rw [eD, List.map_replicate]), ?_⟩
          rw [rep_all]
          exact q H' sm
      | tuple ds =>
        cases hx with
        | @tup ax xs _ sx ax_ =>
        cases hy with
        | @tup ay ys _ sy ay_ =>
        refine ⟨_, rfl, rfl, _, rfl, iteF ?_⟩
        refine ⟨_, rfl, _, _, _, _, false, rfl, .ty "bool", ty, kit_ty kb_tuple_bool, _, rfl, iteF ?_⟩
        refine ⟨_, rfl, _, _, _, _, false, rfl, .ty "bool", tx, kit_ty kb_tuple_bool, _, rfl, iteF ?_⟩
        refine ⟨_, rfl, _, _, _, _, false, rfl, .ty "int", ty, kit_ty kb_tuple_int, _, rfl, iteF ?_⟩
        refine ⟨_, rfl, _, _, _, _, false, rfl, .ty "str", ty, kit_ty kb_tuple_str, _, rfl, iteF ?_⟩
        refine ⟨_, rfl, _, _, _, _, true, rfl, .ty "tuple", ty, kit_ty kb_tuple_tuple, _, rfl, _, _, _, _, true, rfl, .ty "tuple", tx, kit_ty kb_tuple_tuple, rfl, _, rfl, iteF ?_⟩
        refine ⟨_, rfl, _, _, _, _, false, rfl, .ty "list", ty, kit_ty kb_tuple_list, _, rfl, _, _, _, _, false, rfl, .ty "list", tx, kit_ty kb_tuple_list, rfl, _, rfl, iteF ?_⟩
        have hd' : (decide (ds.length ≤ 9000) && ds.all (depOk n)) = true := hd
        rw [Bool.and_eq_true] at hd'
        have hle : ds.length ≤ 9000 := of_decide_eq_true hd'.1
        have lx := dpa_len ax_
        have ly := dpa_len ay_
        refine ⟨_, rfl, ax, xs, rfl, .inr sx, _, rfl, ay, ys, rfl, .inr sy, rfl, _, rfl, ?_⟩
        rw [lx, ly, decide_eq_true rfl]
        refine iteT ?_
        refine ⟨_, rfl, ay, ys, rfl, .inr sy, _, rfl, by rw [ly]; omega, by rw [ly]; omega, fun D hD => lc_range (lo := 0) (n := ys.length)
          (Qd := _) (fun i H' => Sm T H H' ∧ H' D = some (.lst (List.replicate i (V.bl true)))) ⟨same_upd hD, upd_same⟩ ?_ ?_⟩
        · rintro i H' hi ⟨sm, eD⟩
          rw [ly] at hi
          obtain ⟨vx, ex, dx⟩ := dpa_get ax_ (List.getElem?_eq_getElem hi)
          obtain ⟨vy, ey, dy⟩ := dpa_get ay_ (List.getElem?_eq_getElem hi)
          refine ⟨rfl, tyes_i ?_⟩
          refine ⟨_, rfl, _, rfl, .inr (.inl ⟨ax, xs, _, vx, rfl, rfl, same_tup sm sx, at_of (j := i) (by omega) ex, ?_⟩)⟩
          refine ⟨_, rfl, _, rfl, .inr (.inl ⟨ay, ys, _, vy, rfl, rfl, same_tup sm sy, at_of (j := i) (by omega) ey, ?_⟩)⟩
          refine ⟨vx, vy, ds[i], rfl, dp_same sm _ _ dx, dp_same sm _ _ dy, List.all_eq_true.mp hd'.2 _ (List.getElem_mem hi), fun H2 s2 => ⟨_, s2.k eD, ?_, same_mut (sm.trans s2) hD (s2.lst eD), ?_⟩⟩
          · rw [List.length_replicate]
            exact szl (by omega)
          · rw [upd_same, ← List.replicate_succ']
        · rintro H' ⟨sm, eD⟩
          rw [ly] at eD
          refine ⟨D, List.replicate ds.length true, rfl, SqL.of (by rw [eD, List.map_replicate]), ?_⟩
          rw [rep_all]
          exact q H' sm
      | dict _ => cases hd
theorem ok_l_same {f : Addr} {fd : FuncData} (F : Fun K "_law_same" "_law_same" s_l_same f fd) (B : Bn mg) (g : mg "_law_same" = some (.ref f)) (b : Binds K fd ["_law_found", "_law_due"] []) :
    FnOk P w K mg base CX0 6 f fd ["_law_found", "_law_due"] (sp_l_same K T) := ok_l_same_n F B g b 5

theorem Drawn.get : ∀ {ds qs : List Int} {i : Nat} {q : Int}, Drawn ds qs → qs[i]? = some q → ∃ d, ds[i]? = some d ∧ 0 ≤ d ∧ d < q
  | [], [], i, q, _, e => by simp at e
  | [], _ :: _, _, _, h, _ => h.elim
  | _ :: _, [], _, _, h, _ => h.elim
  | d :: _, _ :: _, 0, q, h, e => by
    obtain rfl := Option.some.inj e
    exact ⟨d, rfl, h.1.1, h.1.2⟩
  | _ :: ds, _ :: qs, i + 1, q, h, e => Drawn.get (ds := ds) (qs := qs) h.2 e
theorem at_map {ds : List Int} {i : Nat} {d z : Int} (hz : z = (i : Int)) (h : ds[i]? = some d) : atI (ds.map V.int) z = some (.int d) := by
  subst hz
  exact at_of (j := i) rfl (by rw [List.getElem?_map, h]; rfl)

def sp_l_way (K : PySem.W.Frag) (T : Tb) : Sp := fun vs H Q _ => ∃ c : Int, vs = [.int c] ∧ ∀ o H' us qs, Sm T H H' → H o = none → H' o = some (.lst us) → DpAll K H' us (qs.map amD) → wayB qs = true → Q (.ref o) H'
theorem ok_l_way {f : Addr} {fd : FuncData} (F : Fun K "_law_way" "_law_way" s_l_way f fd) (B : Bn mg) (F_l_draws : Fn P w K mg base 1 "_law_draws" ["_law_cell_here", "_law_parts"] (sp_l_draws K T)) : FnOk P w K mg base CX0 2 f fd ["_law_cell_here"] (sp_l_way K T) := by
  refine F.ok sc_l_way (fun vs H Q E h => ?_) (fun cdv A outer s H vs Q E hr h => ?_)
  · obtain ⟨c, rfl, _⟩ := h
    rfl
  · obtain ⟨c, rfl, q⟩ := h
    refine ⟨_, (pss_cons (ps_set (i := 1) sc_l_way.nd rfl (.inr rfl) (pe_fn F_l_draws (hr.mono (by decide)) (pa_cons (pv 0) (pa_cons (pe_op op_cat (pe_lst (pa_cons pe_int (pa_cons pe_int (pa_cons pe_int pa_nil)))) (pe_lc (own := [("_law_k", 4)]) (g := (gName 4)) (tt := tYes) (by rfl) sc_l_way.nd (pi_range1 (by rfl) B.range_ (pa_cons pe_int pa_nil)) (blkOk_by (own := [("_law_k", 4)]) (N := ["_law_cell_here", "_law_drawn", "_law_cap", "_law_many_here", "_law_k"]) (sc := (defScope s_l_way)) (by decide +kernel)) (fun _ _ _ _ _ => (pg_name (i := 4) sc_l_way.nd rfl (.inl rfl))) (fun _ _ _ _ _ => pts_nil) (fun _ _ _ _ _ => pe_int))) pa_nil))))
      (pss_cons (ps_set (i := 2) sc_l_way.nd rfl (.inr rfl) (pe_ix ix_list (pe_lst (pa_cons pe_int (pa_cons pe_int (pa_cons pe_int pa_nil)))) (pe_ix ix_list (pv 1) pe_int (fun _ _ => rfl)) (fun _ _ => rfl)))
      (pss_cons (ps_set (i := 3) sc_l_way.nd rfl (.inl rfl) (pe_ix ix_list (pe_lst (pa_cons (pe_op op_add (pe_ix ix_list (pv 1) pe_int (fun _ _ => rfl)) pe_int) (pa_cons pe_int (pa_cons (pe_op op_add pe_int (pe_op op_mod (pe_ix ix_list (pv 1) pe_int (fun _ _ => rfl)) pe_int)) pa_nil)))) (pe_ix ix_list (pv 1) pe_int (fun _ _ => rfl)) (fun _ _ => rfl)))
      (pss_one (ps_ret (pe_lc (own := [("_law_k", 4)]) (g := (gName 4)) (tt := tYes) (by rfl) sc_l_way.nd (pi_range1 (by rfl) B.range_ (pa_cons (pv 3) pa_nil)) (blkOk_by (own := [("_law_k", 4)]) (N := ["_law_cell_here", "_law_drawn", "_law_cap", "_law_many_here", "_law_k"]) (sc := (defScope s_l_way)) (by decide +kernel)) (fun _ _ _ _ _ => (pg_name (i := 4) sc_l_way.nd rfl (.inl rfl))) (fun _ _ _ _ _ => pts_nil) (fun _ _ _ _ _ => (pe_tup (pa_cons (pe_op op_add pe_int (pe_op op_mod (pe_ix (r := rIxL K) ix_list (pv 1) (pe_op op_add pe_int (pe_op op_mul pe_int (pv 4))) (fun _ _ => rfl)) (pv 2))) (pa_cons (pe_op op_add pe_int (pe_op op_mod (pe_ix (r := rIxL K) ix_list (pv 1) (pe_op op_add pe_int (pe_op op_mul pe_int (pv 4))) (fun _ _ => rfl)) (pv 2))) pa_nil)))))))))), ?_⟩
    refine ⟨_, rfl, by show 3 ≤ sizeLine; decide, fun l1 nl1 => ?_⟩
    refine ⟨_, rfl, by decide, by decide, fun D hD => lc_range (lo := 0) (n := 12) (Qd := _) (fun i H' => Sm T (upd H l1 (.lst [.int 6, .int 3, .int 3])) H' ∧ H' D = some (.lst (List.replicate i (V.int 9)))) ⟨same_upd hD, upd_same⟩ ?_ ?_⟩
    · rintro i H' hi ⟨sm, eD⟩
      refine ⟨rfl, tyes_i ?_⟩
      refine ⟨_, eD, by rw [List.length_replicate]; exact szl (by omega), same_mut sm hD eD, ?_⟩
      rw [upd_same, ← List.replicate_succ']
    · rintro H1 ⟨s1, e1⟩
      refine ⟨l1, D, _, _, rfl, rfl, s1.k upd_same, e1, by show 15 ≤ sizeLine; decide, fun l2 nl2 => ?_⟩
      refine ⟨c, l2, [6, 3, 3, 9, 9, 9, 9, 9, 9, 9, 9, 9, 9, 9, 9], rfl, SqL.of upd_same, by decide, by decide, fun p3 H3 ds s3 np3 e3 hd => ?_⟩
      have s03 : Sm T H H3 := (same_upd nl1).trans (s1.trans ((same_upd nl2).trans s3))
      obtain ⟨d0, g0, h00, h01⟩ := hd.get (i := 0) rfl
      obtain ⟨d1, g1, h10, h11⟩ := hd.get (i := 1) rfl
      obtain ⟨d2, g2, h20, h21⟩ := hd.get (i := 2) rfl
      refine ⟨by show 3 ≤ sizeLine; decide, fun l4 nl4 => ?_⟩
      have e4 := (same_upd (T := T) (o := HO.lst [V.int 9, V.int 3, V.int 5]) nl4).k e3
      have hcap : ∃ cap : Int, 1 ≤ cap ∧ cap ≤ 9 ∧ atI [V.int 9, V.int 3, V.int 5] d1 = some (.int cap) := by
        rcases (by omega : d1 = 0 ∨ d1 = 1 ∨ d1 = 2) with rfl | rfl | rfl
        · exact ⟨9, by omega, by omega, atI_nat (j := 0) rfl⟩
        · exact ⟨3, by omega, by omega, atI_nat (j := 1) rfl⟩
        · exact ⟨5, by omega, by omega, atI_nat (j := 2) rfl⟩
      obtain ⟨cap, c1, c9, hcap⟩ := hcap
      refine ⟨_, rfl, p3, _, 1, .int d1, rfl, rfl, SqL.of e4, at_map (i := 1) rfl g1, l4, _, _, _, rfl, rfl, SqL.of upd_same, hcap, ?_⟩
      refine ⟨_, rfl, p3, _, 0, .int d0, rfl, rfl, SqL.of e4, at_map (i := 0) rfl g0, _, _, rfl, rfl, ?_⟩
      refine ⟨_, rfl, p3, _, 0, .int d0, rfl, rfl, SqL.of e4, at_map (i := 0) rfl g0, _, _, rfl, rfl, (by show (0 : Int) < 3; decide), _, _, rfl, rfl, ?_⟩
      refine ⟨by show 3 ≤ sizeLine; decide, fun l5 nl5 => ?_⟩
      have e5 := (same_upd (T := T) (o := HO.lst [V.int (d0 + 1), V.int 1, V.int (1 + d0 % 3)]) nl5).k e4
      have hm : ∃ m : Nat, 1 ≤ m ∧ m ≤ 6 ∧ atI [V.int (d0 + 1), V.int 1, V.int (1 + d0 % 3)] d2 = some (.int (m : Int)) := by
        rcases (by omega : d2 = 0 ∨ d2 = 1 ∨ d2 = 2) with rfl | rfl | rfl
        · refine ⟨(d0 + 1).toNat, by omega, by omega, ?_⟩
          rw [Int.toNat_of_nonneg (by omega)]
          exact atI_nat (j := 0) rfl
        · exact ⟨1, by omega, by omega, atI_nat (j := 1) rfl⟩
        · refine ⟨(1 + d0 % 3).toNat, by omega, by omega, ?_⟩
          rw [Int.toNat_of_nonneg (by omega)]
          exact atI_nat (j := 2) rfl
      obtain ⟨m, m1, m6, hm⟩ := hm
      refine ⟨_, rfl, p3, _, 2, .int d2, rfl, rfl, SqL.of e5, at_map (i := 2) rfl g2, l5, _, _, _, rfl, rfl, SqL.of upd_same, hm, ?_⟩
      have s05 : Sm T H (upd (upd H3 l4 (.lst [V.int 9, V.int 3, V.int 5])) l5 (.lst [V.int (d0 + 1), V.int 1, V.int (1 + d0 % 3)])) := s03.trans ((same_upd nl4).trans (same_upd nl5))
      refine ⟨_, rfl, m, rfl, by omega, by omega, fun D2 hD2 => lc_range (lo := 0) (n := m) (Qd := _) (fun i H' => Sm T (upd (upd H3 l4 (.lst [V.int 9, V.int 3, V.int 5])) l5 (.lst [V.int (d0 + 1), V.int 1, V.int (1 + d0 % 3)])) H' ∧ ∃ us qs, H' D2 = some (.lst us) ∧ DpAll K H' us (qs.map amD) ∧ qs.length = i ∧ qs.all wOk = true) ⟨same_upd hD2, [], [], upd_same, .nil, rfl, rfl⟩ ?_ ?_⟩
      · rintro i H' hi ⟨sm, us, qs, eD2, hd2, hl, ha⟩
        have e6 : H' p3 = some (.lst (ds.map V.int)) := sm.k e5
        have hx : ∃ x, ds[3 + 2 * i]? = some x ∧ 0 ≤ x ∧ x < 9 := hd.get (q := 9) (by rcases (by omega : i = 0 ∨ i = 1 ∨ i = 2 ∨ i = 3 ∨ i = 4 ∨ i = 5) with rfl | rfl | rfl | rfl | rfl | rfl <;> rfl)
        have hy : ∃ x, ds[4 + 2 * i]? = some x ∧ 0 ≤ x ∧ x < 9 := hd.get (q := 9) (by rcases (by omega : i = 0 ∨ i = 1 ∨ i = 2 ∨ i = 3 ∨ i = 4 ∨ i = 5) with rfl | rfl | rfl | rfl | rfl | rfl <;> rfl)
        obtain ⟨x, gx, x0, x9⟩ := hx
        obtain ⟨y, gy, y0, y9⟩ := hy
        have hx0 := Int.emod_nonneg x (show cap ≠ 0 by omega)
        have hx1 := Int.emod_lt_of_pos x (show 0 < cap by omega)
        have hy0 := Int.emod_nonneg y (show cap ≠ 0 by omega)
        have hy1 := Int.emod_lt_of_pos y (show 0 < cap by omega)
        refine ⟨rfl, tyes_i ?_⟩
        refine ⟨_, rfl, _, rfl, _, _, rfl, rfl, .inl ⟨by decide, by decide⟩, _, _, rfl, rfl, p3, _, _, .int x, rfl, rfl, SqL.of e6, at_map (i := 3 + 2 * i) (by omega) gx, _, rfl, _, _, rfl, rfl, (by omega), _, _, rfl, rfl, ?_⟩
        refine ⟨_, rfl, _, rfl, _, _, rfl, rfl, .inl ⟨by decide, by decide⟩, _, _, rfl, rfl, p3, _, _, .int y, rfl, rfl, SqL.of e6, at_map (i := 4 + 2 * i) (by omega) gy, _, rfl, _, _, rfl, rfl, (by omega), _, _, rfl, rfl, ?_⟩
        refine ⟨by show 2 ≤ sizeLine; decide, fun t nt => ?_⟩
        have st := same_upd (T := T) (o := HO.tup (tv (1 + x % cap, 1 + y % cap))) nt
        have eD3 := st.k eD2
        have lu : us.length = i := by rw [dpa_len hd2, List.length_map, hl]
        refine ⟨us, eD3, szl (by omega), same_mut (sm.trans st) hD2 eD3, us ++ [.ref t], qs ++ [(1 + x % cap, 1 + y % cap)], upd_same, ?_, ?_, ?_⟩
        · refine pds_mut eD3 ?_
          rw [List.map_append]
          exact dpa_app (dpa_same st _ _ hd2) (.cons (tup_dp upd_same) .nil)
        · rw [List.length_append, hl]
          rfl
        · rw [List.all_append, ha, Bool.true_and, List.all_cons, List.all_nil, Bool.and_true]
          unfold wOk
          simp only [Bool.and_eq_true, decide_eq_true_eq]
          omega
      · rintro H6 ⟨s6, us, qs, eD2, hd2, hl, ha⟩
        have free : H D2 = none := s05.free _ hD2
        refine q D2 H6 us qs (s05.trans s6) free eD2 hd2 ?_
        unfold wayB
        rw [ha, hl, Bool.and_true, Bool.and_eq_true]
        exact ⟨decide_eq_true m1, decide_eq_true m6⟩


def sp_l_labour (K : PySem.W.Frag) (T : Tb) : Sp := fun vs H Q _ => ∃ a us qs, vs = [.ref a] ∧ SqL K H a us ∧ DpAll K H us (qs.map amD) ∧ (∀ q ∈ qs, wOk q = true) ∧ Q (.int (labourM qs)) H
theorem ok_l_labour {f : Addr} {fd : FuncData} (F : Fun K "_law_labour" "_law_labour" s_l_labour f fd) (B : Bn mg) : FnOk P w K mg base CX0 1 f fd ["_law_way_here"] (sp_l_labour K T) := by
  refine F.ok sc_l_labour (fun vs H Q E h => ?_) (fun cdv A outer s H vs Q E hr h => ?_)
  · obtain ⟨a, us, qs, rfl, _⟩ := h
    rfl
  · obtain ⟨a, us, qs, rfl, hS, hd, hw, q⟩ := h
    refine ⟨_, (pss_cons (ps_set (i := 1) sc_l_labour.nd rfl (.inl rfl) pe_int)
      (pss_cons (ps_for PassesOwn.never rfl (pi_list (pv 0)) (pg_tup rfl (pgs_cons (pg_name (i := 2) sc_l_labour.nd rfl (.inl rfl)) (pgs_cons (pg_name (i := 3) sc_l_labour.nd rfl (.inl rfl)) pgs_nil)))
      (pss_one (ps_for PassesOwn.never rfl (pi_range1 (by rfl) B.range_ (pa_cons (pv 2) pa_nil)) (pg_name (i := 4) sc_l_labour.nd rfl (.inl rfl))
      (pss_one (ps_set (i := 1) sc_l_labour.nd rfl (.inl rfl) (pe_op op_add (pv 1) (pv 3)))))))
      (pss_one (ps_ret (pv 1))))), ?_⟩
    have el : us.length = qs.length := by rw [dpa_len hd, List.length_map]
    refine ⟨_, rfl, a, rfl, ⟨_, hS⟩, for_list (K := K) (a := a) (xs := us) (fun i σ H3 => H3 = H ∧ ∃ x1 x2 x3, σ = [some (.ref a), some (.int (labourM (qs.take i))), x1, x2, x3]) ⟨rfl, _, _, _, rfl⟩ (fun i σ H3 _ ⟨e, _⟩ => by rw [e]; exact hS) ?_ ?_⟩
    · rintro i v σ H3 hi ⟨rfl, x1, x2, x3, rfl⟩
      have hil : i < qs.length := by rw [← el]; exact (List.getElem?_eq_some_iff.mp hi).1
      obtain ⟨v', e1, e2⟩ := dpa_get hd (i := i) (d := amD qs[i]) (by rw [List.getElem?_map, List.getElem?_eq_getElem hil]; rfl)
      rw [hi] at e1
      cases e1
      obtain ⟨b, rfl, hb⟩ := pd_at e2
      have c := wOk_b (hw qs[i] (List.getElem_mem hil))
      have et : labourM (qs.take (i + 1)) = labourM (qs.take i) + qs[i].1 * qs[i].2 := by
        unfold labourM
        rw [List.take_add_one, List.getElem?_eq_getElem hil, List.map_append, List.sum_append]
        simp
      refine ⟨b, _, rfl, hb, rfl, _, _, rfl, _, _, rfl, rfl, ?_⟩
      refine ⟨_, rfl, qs[i].1.toNat, by rw [Int.toNat_of_nonneg (by omega)], by omega, by omega, for_range (lo := 0) (n := qs[i].1.toNat) (fun j σ H4 => H4 = H3 ∧ ∃ x1, σ = [some (.ref a), some (.int (labourM (qs.take i) + (j : Int) * qs[i].2)), some (.int qs[i].1), some (.int qs[i].2), x1]) ⟨rfl, x3, by simp⟩ ?_ ?_⟩
      · rintro j σ H4 hj ⟨rfl, x1, rfl⟩
        refine ⟨_, rfl, _, rfl, _, _, rfl, rfl, rfl, some (.int (0 + (j : Int))), ?_⟩
        have : labourM (qs.take i) + (j : Int) * qs[i].2 + qs[i].2 = labourM (qs.take i) + ((j + 1 : Nat) : Int) * qs[i].2 := by
          rw [Int.natCast_add, Int.add_mul]
          simp [Int.add_assoc]
        rw [← this]
        rfl
      · rintro σ H4 ⟨rfl, x1, rfl⟩
        refine ⟨rfl, some (.int qs[i].1), some (.int qs[i].2), x1, ?_⟩
        rw [et, Int.toNat_of_nonneg (by omega)]
    · rintro σ H3 ⟨rfl, x1, x2, x3, rfl⟩
      refine ⟨_, rfl, ?_⟩
      rw [el, List.take_length]
      exact q

def sp_l_way_ok (K : PySem.W.Frag) (T : Tb) : Sp := fun vs H Q _ => ∃ a us qs, vs = [.ref a] ∧ SqL K H a us ∧ DpAll K H us (qs.map amD) ∧ qs.length ≤ 1000 ∧ ∀ H', Sm T H H' → Q (.bl (wayB qs)) H'
theorem ok_l_way_ok {f : Addr} {fd : FuncData} (F : Fun K "_law_way_ok" "_law_way_ok" s_l_way_ok f fd) (B : Bn mg) : FnOk P w K mg base CX0 1 f fd ["_law_way_here"] (sp_l_way_ok K T) := by
  refine F.ok sc_l_way_ok (fun vs H Q E h => ?_) (fun cdv A outer s H vs Q E hr h => ?_)
  · obtain ⟨a, us, qs, rfl, _⟩ := h
    rfl
  · obtain ⟨a, us, qs, rfl, hS, hd, hl, q⟩ := h
    refine ⟨_, (pss_one (ps_ret (pe_and (pe_chain op_le op_le pe_int (pe_callB call_len_seq (by rfl) B.len_ (by decide +kernel) (pa_cons (pv 0) pa_nil)) pe_int) (pe_one (pe_callB (cr_all rfl) (by rfl) B.all_ (by decide +kernel) (pa_cons (pe_lc (own := [("_law_count", 1), ("_law_toil", 2)]) (g := (gTup K 2 (gCons (gName 1) (gCons (gName 2) gNil)))) (tt := tYes) (by rfl) sc_l_way_ok.nd (pi_list (pv 0)) (blkOk_by (own := [("_law_count", 1), ("_law_toil", 2)]) (N := ["_law_way_here", "_law_count", "_law_toil"]) (sc := (defScope s_l_way_ok)) (by decide +kernel)) (fun _ _ _ _ _ => (pg_tup rfl (pgs_cons (pg_name (i := 1) sc_l_way_ok.nd rfl (.inl rfl)) (pgs_cons (pg_name (i := 2) sc_l_way_ok.nd rfl (.inl rfl)) pgs_nil)))) (fun _ _ _ _ _ => pts_nil) (fun _ _ _ _ _ => (pe_and (pe_chain op_le op_le pe_int (pv 1) pe_int) (pe_one (pe_chain op_le op_le pe_int (pv 2) pe_int))))) pa_nil)))))), ?_⟩
    have el : us.length = qs.length := by rw [dpa_len hd, List.length_map]
    refine ⟨_, rfl, a, us, rfl, .inl hS, _, _, rfl, rfl, _, rfl, ?_⟩
    by_cases h1 : (1 : Int) ≤ (us.length : Int)
    · rw [decide_eq_true h1]
      refine iteT ?_
      refine ⟨_, _, rfl, rfl, _, rfl, ?_⟩
      by_cases h2 : (us.length : Int) ≤ 6
      · rw [decide_eq_true h2]
        refine iteT ?_
        refine ⟨_, rfl, a, rfl, ⟨_, hS⟩, fun D hD => lc_list (K := K) (a := a) (xs := us) (Qd := _) (fun i H' => Sm T H H' ∧ H' D = some (.lst (((qs.take i).map wOk).map V.bl))) ⟨same_upd hD, upd_same⟩ (fun i H' _ ⟨sm, _⟩ => sm.seq hS) ?_ ?_⟩
        · rintro i v H' hi ⟨sm, eD⟩
          have hil : i < qs.length := by rw [← el]; exact (List.getElem?_eq_some_iff.mp hi).1
          obtain ⟨v', e1, e2⟩ := dpa_get hd (i := i) (d := amD qs[i]) (by rw [List.getElem?_map, List.getElem?_eq_getElem hil]; rfl)
          rw [hi] at e1
          cases e1
          obtain ⟨b, rfl, hb⟩ := pd_at e2
          have fin : ∀ y, wOk qs[i] = y → ∃ acc, H' D = some (.lst acc) ∧ acc.length < sizeLine ∧ (Sm T H (upd H' D (.lst (acc ++ [V.bl y]))) ∧ upd H' D (.lst (acc ++ [V.bl y])) D = some (.lst (((qs.take (i + 1)).map wOk).map V.bl))) := by
            rintro y rfl
            refine ⟨_, eD, ?_, same_mut sm hD eD, ?_⟩
            · rw [List.length_map, List.length_map, List.length_take]
              exact szl (by omega)
            · rw [upd_same, List.take_add_one, List.getElem?_eq_getElem hil, List.map_append, List.map_append]
              rfl
          refine ⟨b, _, rfl, same_tup sm hb, rfl, _, _, rfl, _, _, rfl, rfl, rfl, tyes_i ?_⟩
          refine ⟨_, rfl, _, _, rfl, rfl, _, rfl, ?_⟩
          by_cases k1 : 1 ≤ qs[i].1
          · rw [decide_eq_true k1]
            refine iteT ?_
            refine ⟨_, _, rfl, rfl, _, rfl, ?_⟩
            by_cases k2 : qs[i].1 ≤ 9
            · rw [decide_eq_true k2]
              refine iteT ?_
              refine ⟨_, rfl, _, _, rfl, rfl, _, rfl, ?_⟩
              by_cases k3 : 1 ≤ qs[i].2
              · rw [decide_eq_true k3]
                refine iteT ?_
                refine ⟨_, _, rfl, rfl, fin _ ?_⟩
                unfold wOk
                rw [decide_eq_true k1, decide_eq_true k2, decide_eq_true k3]
                rfl
              · rw [decide_eq_false k3]
                refine iteF (fin _ ?_)
                unfold wOk
                rw [decide_eq_false k3]
                simp
            · rw [decide_eq_false k2]
              refine iteF (fin _ ?_)
              unfold wOk
              rw [decide_eq_false k2]
              simp
          · rw [decide_eq_false k1]
            refine iteF ⟨_, rfl, iteF (fin _ ?_)⟩
            unfold wOk
            rw [decide_eq_false k1]
            simp
        · rintro H' ⟨sm, eD⟩
          rw [el, List.take_length] at eD
          refine ⟨D, qs.map wOk, rfl, SqL.of eD, ?_⟩
          have e : (qs.map wOk).all id = wayB qs := by
            unfold wayB
            rw [decide_eq_true (show 1 ≤ qs.length by omega), decide_eq_true (show qs.length ≤ 6 by omega), List.all_map]
            rfl
          rw [e]
          exact q H' sm
      · have e : wayB qs = false := by
          unfold wayB
          rw [Bool.and_eq_false_iff, Bool.and_eq_false_iff]
          exact .inl (.inr (decide_eq_false (by omega)))
        rw [decide_eq_false h2]
        refine iteF ?_
        have q0 := q H Sm.refl
        rw [e] at q0
        exact q0
    · have e : wayB qs = false := by
        unfold wayB
        rw [Bool.and_eq_false_iff, Bool.and_eq_false_iff]
        exact .inl (.inl (decide_eq_false (by omega)))
      rw [decide_eq_false h1]
      refine iteF ?_
      have q0 := q H Sm.refl
      rw [e] at q0
      exact ⟨_, rfl, iteF q0⟩

def sp_l_spoilt_way (K : PySem.W.Frag) (T : Tb) : Sp := fun vs H Q _ => ∃ c a us qs, vs = [.int c, .ref a] ∧ H a = some (.lst us) ∧ DpAll K H us (qs.map amD) ∧ wayB qs = true ∧
  ∀ o H' us' (qs' : List Am), Sm T H H' → H o = none → H' o = some (.lst us') → DpAll K H' us' (qs'.map amD) → qs'.length ≤ 63 → Q (.ref o) H'
theorem ok_l_spoilt_way {f : Addr} {fd : FuncData} (F : Fun K "_law_spoilt_way" "_law_spoilt_way" s_l_spoilt_way f fd) (B : Bn mg) (F_l_draws : Fn P w K mg base 1 "_law_draws" ["_law_cell_here", "_law_parts"] (sp_l_draws K T)) : FnOk P w K mg base CX0 2 f fd ["_law_cell_here", "_law_way_here"] (sp_l_spoilt_way K T) := by
  refine F.ok sc_l_spoilt_way (fun vs H Q E h => ?_) (fun cdv A outer s H vs Q E hr h => ?_)
  · obtain ⟨c, a, us, qs, rfl, _⟩ := h
    rfl
  · obtain ⟨c, a, us, qs, rfl, ha, hd, hw, q⟩ := h
    refine ⟨_, (pss_cons (ps_asg (pe_fn F_l_draws (hr.mono (by decide)) (pa_cons (pv 0) (pa_cons (pe_lst (pa_cons pe_int (pa_cons pe_int (pa_cons pe_int (pa_cons pe_int (pa_cons (pe_op op_pow pe_int pe_int) pa_nil)))))) pa_nil))) (pg_unl rfl (pgs_cons (pg_name (i := 2) sc_l_spoilt_way.nd rfl (.inl rfl)) (pgs_cons (pg_name (i := 3) sc_l_spoilt_way.nd rfl (.inl rfl)) (pgs_cons (pg_name (i := 4) sc_l_spoilt_way.nd rfl (.inl rfl)) (pgs_cons (pg_name (i := 5) sc_l_spoilt_way.nd rfl (.inl rfl)) (pgs_cons (pg_name (i := 6) sc_l_spoilt_way.nd rfl (.inl rfl)) pgs_nil)))))))
      (pss_cons (ps_if (pt_cmpR op_eq (pv 2) pe_int (nomark _)) (pss_one (ps_ret (pe_ix ix_list (pe_lst (pa_cons (pe_lst pa_nil) (pa_cons (pe_op op_rep (pv 1) pe_int) (pa_cons (pe_op op_cat (pv 1) (pe_op op_rep (pe_lst (pa_cons (pe_tup (pa_cons pe_int (pa_cons pe_int pa_nil))) pa_nil)) (pe_op op_sub pe_int (pe_callB call_len_seq (by rfl) B.len_ (by decide +kernel) (pa_cons (pv 1) pa_nil))))) (pa_cons (pe_op op_rep (pe_slice sl_list (pv 1) po_none (po_some pe_int)) pe_int) pa_nil))))) (pv 5) (fun _ _ => rfl)))) pss_nil)
      (pss_cons (ps_if (pt_cmpR op_lt (pv 2) pe_int (nomark _)) (pss_cons (ps_set (i := 3) sc_l_spoilt_way.nd rfl (.inl rfl) (pe_op op_mod (pv 3) (pe_callB call_len_seq (by rfl) B.len_ (by decide +kernel) (pa_cons (pv 1) pa_nil))))
      (pss_cons (ps_set (i := 7) sc_l_spoilt_way.nd rfl (.inl rfl) (pe_ix ix_list (pe_lst (pa_cons pe_int (pa_cons pe_int (pa_cons (pe_op op_sub (pe_un un_neg pe_int) (pv 6)) (pa_cons (pe_op op_add pe_int (pv 6)) pa_nil))))) (pv 5) (fun _ _ => rfl)))
      (pss_cons (ps_set (i := 8) sc_l_spoilt_way.nd rfl (.inl rfl) (pe_ifExp (pt_cmpR op_eq (pv 4) pe_int (nomark _)) (pe_tup (pa_cons (pv 7) (pa_cons (pe_ix ix_tup (pe_ix ix_list (pv 1) (pv 3) (fun _ _ => rfl)) pe_int (fun _ _ => rfl)) pa_nil))) (pe_tup (pa_cons (pe_ix ix_tup (pe_ix ix_list (pv 1) (pv 3) (fun _ _ => rfl)) pe_int (fun _ _ => rfl)) (pa_cons (pv 7) pa_nil)))))
      (pss_one (ps_ret (pe_op op_cat (pe_op op_cat (pe_slice sl_list (pv 1) po_none (po_some (pv 3))) (pe_lst (pa_cons (pv 8) pa_nil))) (pe_slice sl_list (pv 1) (po_some (pe_op op_add (pv 3) pe_int)) po_none))))))) pss_nil)
      (pss_one (ps_ret (pe_callTy call_list_of (by rfl) B.list_ (by decide +kernel) (pa_cons (pv 1) pa_nil))))))), ?_⟩
    have el : us.length = qs.length := by rw [dpa_len hd, List.length_map]
    have hb := wayB_b hw
    refine ⟨_, rfl, _, _, rfl, rfl, ⟨by decide, by decide, by decide⟩, by show 5 ≤ sizeLine; decide, fun l1 nl1 => ?_⟩
    refine ⟨c, l1, [8, 6, 2, 4, 10 ^ (12 : Int).toNat], rfl, SqL.of upd_same, by decide, by decide, fun p3 H3 ds s3 np3 e3 hdr => ?_⟩
    obtain ⟨kind, r1, rfl, h10, h11, hdr⟩ := hdr.cons
    obtain ⟨at_, r2, rfl, h20, h21, hdr⟩ := hdr.cons
    obtain ⟨side, r3, rfl, h30, h31, hdr⟩ := hdr.cons
    obtain ⟨odd, r4, rfl, h40, h41, hdr⟩ := hdr.cons
    obtain ⟨far, r5, rfl, h50, h51, hdr⟩ := hdr.cons
    obtain rfl := hdr.nil
    have s03 : Sm T H H3 := (same_upd nl1).trans s3
    have k7 : ∀ n : Nat, n ≤ 9 → us.length * n ≤ 54 := fun n hn => Nat.le_trans (Nat.mul_le_mul (show us.length ≤ 6 by omega) hn) (by decide)
    refine ⟨p3, _, rfl, SqL.of e3, rfl, _, _, rfl, _, _, rfl, _, _, rfl, _, _, rfl, _, _, rfl, rfl, ?_⟩
    refine ⟨_, rfl, rfl, _, rfl, ite2 (fun e => ?_) (fun e => ?_)⟩
    · refine ⟨by show 0 ≤ sizeLine; decide, fun o0 no0 => ?_⟩
      have u4 := same_upd (T := T) (o := .lst []) no0
      have s4 := s03.trans u4
      refine ⟨_, rfl, a, 7, us, rfl, rfl, s4.k ha, by decide, by decide, sz (Nat.le_trans (k7 7 (by decide)) (by decide)), fun o1 no1 => ?_⟩
      have u5 := same_upd (T := T) (o := .lst (List.replicate (7 : Int).toNat us).flatten) no1
      have s5 := s4.trans u5
      refine ⟨_, rfl, by show 2 ≤ sizeLine; decide, fun t nt => ⟨by show 1 ≤ sizeLine; decide, fun l nl => ?_⟩⟩
      have u6 := same_upd (T := T) (o := .tup [.int 1, .int 1]) nt
      have s6 := s5.trans u6
      have u7 := same_upd (T := T) (o := .lst [.ref t]) nl
      have s7 := s6.trans u7
      refine ⟨_, rfl, a, us, rfl, .inl (SqL.of (s7.k ha)), _, _, rfl, rfl, l, _, _, rfl, rfl, upd_same, by omega, by omega, by show 1 * _ ≤ sizeLine; exact sz (by omega), fun r nr => ?_⟩
      have u8 := same_upd (T := T) (o := .lst (List.replicate (7 - (us.length : Int)).toNat [V.ref t]).flatten) nr
      have s8 := s7.trans u8
      refine ⟨a, r, _, _, rfl, rfl, s8.k ha, upd_same, sz (by rw [len_rep]; show us.length + _ * 1 ≤ 10000; omega), fun o2 no2 => ?_⟩
      have u9 := same_upd (T := T) (o := .lst (us ++ (List.replicate (7 - (us.length : Int)).toNat [V.ref t]).flatten)) no2
      have s9 := s8.trans u9
      refine ⟨_, rfl, 1, rfl, a, us, rfl, SqL.of (s9.k ha), fun p np => ?_⟩
      have u10 := same_upd (T := T) (o := .lst (cutV us none (some 1))) np
      have s10 := s9.trans u10
      have lc := cutV_length us none (some 1)
      refine ⟨p, 9, _, rfl, rfl, upd_same, by decide, by decide, by show _ * 9 ≤ sizeLine; exact sz (by omega), fun o3 no3 => ?_⟩
      have u11 := same_upd (T := T) (o := .lst (List.replicate (9 : Int).toNat (cutV us none (some 1))).flatten) no3
      have s11 := s10.trans u11
      refine ⟨by show 4 ≤ sizeLine; decide, fun L nL => ?_⟩
      have u12 := same_upd (T := T) (o := .lst [.ref o0, .ref o1, .ref o2, .ref o3]) nL
      have s12 := s11.trans u12
      have hdF := dpa_same s12 _ _ hd
      rcases (by omega : odd = 0 ∨ odd = 1 ∨ odd = 2 ∨ odd = 3) with rfl | rfl | rfl | rfl
      · exact ⟨_, rfl, L, _, _, _, rfl, rfl, SqL.of upd_same, atI_nat (j := 0) rfl, q o0 _ [] [] s12 (s03.free _ no0) ((u5.trans (u6.trans (u7.trans (u8.trans (u9.trans (u10.trans (u11.trans u12))))))).k upd_same) .nil (by decide)⟩
      · refine ⟨_, rfl, L, _, _, _, rfl, rfl, SqL.of upd_same, atI_nat (j := 1) rfl, q o1 _ _ _ s12 (s4.free _ no1) ((u6.trans (u7.trans (u8.trans (u9.trans (u10.trans (u11.trans u12)))))).k upd_same) (dpa_rep hdF _) ?_⟩
        rw [len_rep]
        have := k7 7 (by decide)
        show 7 * qs.length ≤ 63
        omega
      · refine ⟨_, rfl, L, _, _, _, rfl, rfl, SqL.of upd_same, atI_nat (j := 2) rfl, q o2 _ _ (qs ++ (List.replicate (7 - (us.length : Int)).toNat [((1, 1) : Am)]).flatten) s12 (s8.free _ no2) ((u10.trans (u11.trans u12)).k upd_same) ?_ ?_⟩
        · rw [List.map_append]
          refine dpa_app hdF (dpa_rep ?_ _)
          exact .cons (tup_dp (x := (1, 1)) ((u7.trans (u8.trans (u9.trans (u10.trans (u11.trans u12))))).k upd_same)) .nil
        · rw [List.length_append, len_rep]
          show qs.length + _ * 1 ≤ 63
          omega
      · have ec : cutV us none (some 1) = us.take 1 := cut_take us 1 rfl
        refine ⟨_, rfl, L, _, _, _, rfl, rfl, SqL.of upd_same, atI_nat (j := 3) rfl, q o3 _ _ (List.replicate (9 : Int).toNat (qs.take 1)).flatten s12 (s10.free _ no3) (u12.k upd_same) ?_ ?_⟩
        · refine dpa_rep ?_ _
          have hh := dpa_take 1 hdF
          rw [← ec, ← List.map_take] at hh
          exact hh
        · rw [len_rep, List.length_take]
          show 9 * _ ≤ 63
          omega
    · refine ⟨_, rfl, _, _, rfl, rfl, _, rfl, ite2 (fun e => ?_) (fun e => ?_)⟩
      · have hup : 0 < (us.length : Int) := by omega
        have m0 := Int.emod_nonneg at_ (show (us.length : Int) ≠ 0 by omega)
        have m1 := Int.emod_lt_of_pos at_ hup
        obtain ⟨j, hj, hj2⟩ : ∃ j : Nat, at_ % (us.length : Int) = (j : Int) ∧ j < qs.length := ⟨(at_ % (us.length : Int)).toNat, by omega, by omega⟩
        refine ⟨_, rfl, _, rfl, a, us, rfl, .inl (SqL.of (s03.k ha)), _, _, rfl, rfl, hup, ?_⟩
        refine ⟨1, rfl, _, rfl, _, _, rfl, rfl, _, rfl, _, _, rfl, rfl, by show 4 ≤ sizeLine; decide, fun l4 nl4 => ?_⟩
        have u4 := same_upd (T := T) (o := .lst [.int 0, .int 10, .int (-1 - far), .int (10 + far)]) nl4
        have s4 := s03.trans u4
        have hz : ∃ z : Int, atI [V.int 0, V.int 10, V.int (-1 - far), V.int (10 + far)] odd = some (.int z) := by
          rcases (by omega : odd = 0 ∨ odd = 1 ∨ odd = 2 ∨ odd = 3) with rfl | rfl | rfl | rfl
          · exact ⟨_, atI_nat (j := 0) rfl⟩
          · exact ⟨_, atI_nat (j := 1) rfl⟩
          · exact ⟨_, atI_nat (j := 2) rfl⟩
          · exact ⟨_, atI_nat (j := 3) rfl⟩
        obtain ⟨z, hz⟩ := hz
        refine ⟨_, rfl, l4, _, _, _, rfl, rfl, SqL.of upd_same, hz, ?_⟩
        obtain ⟨v, e1, e2⟩ := dpa_get hd (i := j) (d := amD qs[j]) (by rw [List.getElem?_map, List.getElem?_eq_getElem hj2]; rfl)
        obtain ⟨b, rfl, hB⟩ := pd_at e2
        dsimp only [gName]
        refine seq_as (fun σ' H' => ∃ x2 x3 x4 x5 x6 x7 t y, σ' = [x2, some (.ref a), x3, some (.int (at_ % (us.length : Int))), x4, x5, x6, x7, some (.ref t)] ∧ Sm T H H' ∧ SqT K H' t (tv y)) (fun σ' H' p => ?_) (fun k => ?_)
        · obtain ⟨x2, x3, x4, x5, x6, x7, t, y, rfl, sp, hT⟩ := p
          refine ⟨_, rfl, _, rfl, _, rfl, a, us, rfl, SqL.of (sp.k ha), fun p1 np1 => ?_⟩
          have w1 := same_upd (T := T) (o := .lst (cutV us none (some (at_ % (us.length : Int))))) np1
          refine ⟨_, rfl, by show 1 ≤ sizeLine; decide, fun p2 np2 => ?_⟩
          have w2 := same_upd (T := T) (o := .lst [V.ref t]) np2
          have lc := cutV_length us none (some (at_ % (us.length : Int)))
          have lc2 := cutV_length us (some (at_ % (us.length : Int) + 1)) none
          refine ⟨p1, p2, _, _, rfl, rfl, w2.k upd_same, upd_same, by show _ + 1 ≤ sizeLine; exact sz (by omega), fun p4 np4 => ?_⟩
          have w4 := same_upd (T := T) (o := .lst (cutV us none (some (at_ % (us.length : Int))) ++ [V.ref t])) np4
          refine ⟨_, rfl, _, rfl, _, _, rfl, rfl, _, rfl, a, us, rfl, SqL.of ((sp.trans (w1.trans (w2.trans w4))).k ha), fun p5 np5 => ?_⟩
          have w5 := same_upd (T := T) (o := .lst (cutV us (some (at_ % (us.length : Int) + 1)) none)) np5
          refine ⟨p4, p5, _, _, rfl, rfl, w5.k upd_same, upd_same, ?_, fun p6 np6 => ?_⟩
          · rw [List.length_append]
            show _ + 1 + _ ≤ sizeLine
            exact sz (by omega)
          have w6 := same_upd (T := T) (o := .lst (cutV us none (some (at_ % (us.length : Int))) ++ [V.ref t] ++ cutV us (some (at_ % (us.length : Int) + 1)) none)) np6
          have wA := w1.trans (w2.trans (w4.trans (w5.trans w6)))
          have hdF := dpa_same (sp.trans wA) _ _ hd
          refine q p6 _ _ (qs.take j ++ [y] ++ qs.drop (j + 1)) (sp.trans wA) ((sp.trans (w1.trans (w2.trans (w4.trans w5)))).free _ np6) upd_same ?_ ?_
          · rw [List.map_append, List.map_append]
            refine dpa_app (dpa_app ?_ (.cons (amD_dp (same_tup wA hT)) .nil)) ?_
            · have hh := dpa_take j hdF
              rw [← cut_take us j hj, ← List.map_take] at hh
              exact hh
            · have hh := dpa_drop (j + 1) hdF
              rw [← cut_drop us (j + 1) (z := at_ % (us.length : Int) + 1) (by omega), ← List.map_drop] at hh
              exact hh
          · rw [List.length_append, List.length_append, List.length_take, List.length_drop]
            show _ + 1 + _ ≤ 63
            omega
        · refine ⟨_, rfl, rfl, _, rfl, ite2 (fun e => ?_) (fun e => ?_)⟩
          · refine ⟨_, rfl, _, rfl, _, rfl, a, us, _, .ref b, rfl, rfl, SqL.of (s4.k ha), at_of (j := j) hj e1, b, _, 1, .int qs[j].2, rfl, rfl, same_tup s4 hB, atI_nat (j := 1) rfl, by show 2 ≤ sizeLine; decide, fun t nt => ?_⟩
            exact k _ _ ⟨_, _, _, _, _, _, t, (z, qs[j].2), rfl, s4.trans (same_upd nt), SqT.of upd_same⟩
          · refine ⟨_, rfl, _, rfl, a, us, _, .ref b, rfl, rfl, SqL.of (s4.k ha), at_of (j := j) hj e1, b, _, 0, .int qs[j].1, rfl, rfl, same_tup s4 hB, atI_nat (j := 0) rfl, _, rfl, by show 2 ≤ sizeLine; decide, fun t nt => ?_⟩
            exact k _ _ ⟨_, _, _, _, _, _, t, (qs[j].1, z), rfl, s4.trans (same_upd nt), SqT.of upd_same⟩
      · refine ⟨_, rfl, a, us, rfl, .inl (SqL.of (s03.k ha)), fun l nl => ?_⟩
        have u4 := same_upd (T := T) (o := .lst us) nl
        exact q l _ us qs (s03.trans u4) (s03.free _ nl) upd_same (dpa_same (s03.trans u4) _ _ hd) (by omega)

def sp_LAW (K : PySem.W.Frag) (T : Tb) : Sp := fun vs H Q _ => ∃ (a : Addr) (ns : List Int), vs = [.ref a] ∧ SqL K H a (ns.map V.int) ∧ ns.length ≤ 63 ∧ (∀ z ∈ ns, Builtin.Int.intBits z ≤ 1048576) ∧ Ok T H ∧ ∀ H', Q (.bl true) H'
theorem ok_LAW {f : Addr} {fd : FuncData} {c PT : Addr} (F : FunC K "law" "law" s_LAW f fd c) (hnT : (T.map (·.1)).Nodup) (hPT : (PT, some (("law" : Str) ++ ".<locals>." ++ "<lambda>")) ∈ T) (TB : LamX.TabB base mg c PT) (B : Bn mg) {CP : Addr} (W : Word K mg CP) (F_p_labour : Fx P w K mg base 5 "labour" ["way"] (sp_p_labour K T CP)) (F_p_steps : Fx P w K mg base 5 "steps" ["way"] (sp_p_steps K T CP)) (F_p_place_at : Fx P w K mg base 6 "place_at" ["way", "step"] (sp_p_place_at K T CP)) (F_p_step_at : Fx P w K mg base 6 "step_at" ["way", "place"] (sp_p_step_at K T CP)) (F_p_stretch_at : Fx P w K mg base 6 "stretch_at" ["way", "place"] (sp_p_stretch_at K T CP)) (F_l_cell : Fn P w K mg base 1 "_law_cell" ["_law_script", "_law_k"] (sp_l_cell K T)) (F_l_split : Fn P w K mg base 1 "_law_split" ["_law_cell_here", "_law_many_here"] (sp_l_split K T)) (F_l_many : Fn P w K mg base 1 "_law_many" ["_law_script", "_law_few"] (sp_l_many K T)) (F_l_same : Fn P w K mg base 6 "_law_same" ["_law_found", "_law_due"] (sp_l_same K T)) (F_l_way : Fn P w K mg base 2 "_law_way" ["_law_cell_here"] (sp_l_way K T)) (F_l_labour : Fn P w K mg base 1 "_law_labour" ["_law_way_here"] (sp_l_labour K T)) (F_l_way_ok : Fn P w K mg base 1 "_law_way_ok" ["_law_way_here"] (sp_l_way_ok K T)) (F_l_spoilt_way : Fn P w K mg base 2 "_law_spoilt_way" ["_law_cell_here", "_law_way_here"] (sp_l_spoilt_way K T)) : FnOk P w K mg base CX0 12 f fd ["_law_script"] (sp_LAW K T) := by
  refine F.ok sc_LAW (fun vs H Q E h => ?_) (fun A outer s H vs Q E hr h => ?_)
  · obtain ⟨a, ns, rfl, _⟩ := h
    rfl
  · obtain ⟨a, ns, rfl, hS, hlen, hbits, hok, q⟩ := h
    refine ⟨_, (pss_cons (ps_for PassesOwn.never rfl (pi_range1 (by rfl) B.range_ (pa_cons (pe_fn F_l_many (hr.mono (by decide)) (pa_cons (pv 0) (pa_cons pe_int pa_nil))) pa_nil)) (pg_name (i := 1) sc_LAW.nd rfl (.inl rfl))
      (pss_cons (ps_asg (pe_fn F_l_split (hr.mono (by decide)) (pa_cons (pe_fn F_l_cell (hr.mono (by decide)) (pa_cons (pv 0) (pa_cons (pv 1) pa_nil))) (pa_cons pe_int pa_nil))) (pg_unl rfl (pgs_cons (pg_name (i := 2) sc_LAW.nd rfl (.inl rfl)) (pgs_cons (pg_name (i := 3) sc_LAW.nd rfl (.inl rfl)) pgs_nil))))
      (pss_cons (ps_set (i := 4) sc_LAW.nd rfl (.inl rfl) (pe_fn F_l_spoilt_way (hr.mono (by decide)) (pa_cons (pv 3) (pa_cons (pe_fn F_l_way (hr.mono (by decide)) (pa_cons (pv 2) pa_nil)) pa_nil))))
      (pss_cons (ps_set (i := 6) sc_LAW.nd rfl (.inr rfl) (pe_callTy call_list_of (by rfl) B.list_ (by decide +kernel) (pa_cons (pv 4) pa_nil)))
      (pss_cons (ps_set (i := 5) sc_LAW.nd rfl (.inl rfl) (pe_lst (pa_cons (pe_word (k := 9) W hnT (by rfl) TB rfl hPT (hr.mono (by decide)) (LamX.lamS_by (sc := defScope s_LAW) (by decide +kernel)) rfl (fun _ _ _ _ _ => rfl) (fun A outer s H E f c' hr => (pe_fx (E := E) F_p_labour (hr.mono (by decide)) (takes_of rfl rfl rfl rfl) (pa_cons (pv 6) pa_nil)))) pa_nil)))
      (pss_cons (ps_expr (pe_bm PySem.F.plainAttrs_list PySem.F.slot_list_append PySem.F.type_list_append mt_append (pv 5) (pa_cons (pe_word (k := 9) W hnT (by rfl) TB rfl hPT (hr.mono (by decide)) (LamX.lamS_by (sc := defScope s_LAW) (by decide +kernel)) rfl (fun _ _ _ _ _ => rfl) (fun A outer s H E f c' hr => (pe_fx (E := E) F_p_steps (hr.mono (by decide)) (takes_of rfl rfl rfl rfl) (pa_cons (pv 6) pa_nil)))) pa_nil)))
      (pss_cons (ps_if (pt_val (pe_fn F_l_way_ok (hr.mono (by decide)) (pa_cons (pv 4) pa_nil))) (pss_one (ps_if (pt_not (pt_val (pe_fn F_l_same (hr.mono (by decide)) (pa_cons (pv 5) (pa_cons (pe_lst (pa_cons (pe_tup (pa_cons pe_str (pa_cons (pe_fn F_l_labour (hr.mono (by decide)) (pa_cons (pv 4) pa_nil)) pa_nil))) (pa_cons (pe_tup (pa_cons pe_str (pa_cons (pe_callB (cr_sum rfl) (by rfl) B.sum_ (by decide +kernel) (pa_cons (pe_lc (own := [("_law_count", 7), ("_law_toil", 8)]) (g := (gTup K 2 (gCons (gName 7) (gCons (gName 8) gNil)))) (tt := tYes) (by rfl) sc_LAW.nd (pi_list (pv 4)) (blkOk_by (own := [("_law_count", 7), ("_law_toil", 8)]) (N := ["_law_script", "_law_k", "_law_first", "_law_second", "_law_way_here", "_law_found", "_law_handed", "_law_count", "_law_toil"]) (sc := (defScope s_LAW)) (by decide +kernel)) (fun _ _ _ _ _ => (pg_tup rfl (pgs_cons (pg_name (i := 7) sc_LAW.nd rfl (.inl rfl)) (pgs_cons (pg_name (i := 8) sc_LAW.nd rfl (.inl rfl)) pgs_nil)))) (fun _ _ _ _ _ => pts_nil) (fun _ _ _ _ _ => (pv 7))) pa_nil)) pa_nil))) pa_nil))) pa_nil))))) (pss_one (ps_ret pe_bl)) pss_nil)) (pss_cons (ps_expr (pe_bm PySem.F.plainAttrs_list PySem.F.slot_list_append PySem.F.type_list_append mt_append (pv 5) (pa_cons (pe_word (k := 9) W hnT (by rfl) TB rfl hPT (hr.mono (by decide)) (LamX.lamS_by (sc := defScope s_LAW) (by decide +kernel)) rfl (fun _ _ _ _ _ => rfl) (fun A outer s H E f c' hr => (pe_fx (E := E) F_p_place_at (hr.mono (by decide)) (takes_of rfl rfl rfl rfl) (pa_cons (pv 6) (pa_cons (pe_tup (pa_cons (pe_un un_neg pe_int) (pa_cons pe_int pa_nil))) pa_nil))))) pa_nil)))
      (pss_cons (ps_expr (pe_bm PySem.F.plainAttrs_list PySem.F.slot_list_append PySem.F.type_list_append mt_append (pv 5) (pa_cons (pe_word (k := 9) W hnT (by rfl) TB rfl hPT (hr.mono (by decide)) (LamX.lamS_by (sc := defScope s_LAW) (by decide +kernel)) rfl (fun _ _ _ _ _ => rfl) (fun A outer s H E f c' hr => (pe_fx (E := E) F_p_step_at (hr.mono (by decide)) (takes_of rfl rfl rfl rfl) (pa_cons (pv 6) (pa_cons (pe_tup (pa_cons (pe_op op_pow pe_int pe_int) (pa_cons pe_int pa_nil))) pa_nil))))) pa_nil)))
      (pss_cons (ps_expr (pe_bm PySem.F.plainAttrs_list PySem.F.slot_list_append PySem.F.type_list_append mt_append (pv 5) (pa_cons (pe_word (k := 9) W hnT (by rfl) TB rfl hPT (hr.mono (by decide)) (LamX.lamS_by (sc := defScope s_LAW) (by decide +kernel)) rfl (fun _ _ _ _ _ => rfl) (fun A outer s H E f c' hr => (pe_fx (E := E) F_p_stretch_at (hr.mono (by decide)) (takes_of rfl rfl rfl rfl) (pa_cons (pv 6) (pa_cons (pe_tup (pa_cons (pe_un un_neg pe_int) (pa_cons pe_int pa_nil))) pa_nil))))) pa_nil)))
      (pss_cons (ps_expr (pe_bm PySem.F.plainAttrs_list PySem.F.slot_list_append PySem.F.type_list_append mt_append (pv 5) (pa_cons (pe_word (k := 9) W hnT (by rfl) TB rfl hPT (hr.mono (by decide)) (LamX.lamS_by (sc := defScope s_LAW) (by decide +kernel)) rfl (fun _ _ _ _ _ => rfl) (fun A outer s H E f c' hr => (pe_fx (E := E) F_p_place_at (hr.mono (by decide)) (takes_of rfl rfl rfl rfl) (pa_cons (pv 6) (pa_cons (pe_tup (pa_cons pe_int (pa_cons pe_int pa_nil))) pa_nil))))) pa_nil)))
      (pss_cons (ps_expr (pe_bm PySem.F.plainAttrs_list PySem.F.slot_list_append PySem.F.type_list_append mt_append (pv 5) (pa_cons (pe_word (k := 9) W hnT (by rfl) TB rfl hPT (hr.mono (by decide)) (LamX.lamS_by (sc := defScope s_LAW) (by decide +kernel)) rfl (fun _ _ _ _ _ => rfl) (fun A outer s H E f c' hr => (pe_fx (E := E) F_p_step_at (hr.mono (by decide)) (takes_of rfl rfl rfl rfl) (pa_cons (pv 6) (pa_cons (pe_tup (pa_cons pe_int (pa_cons pe_int pa_nil))) pa_nil))))) pa_nil)))
      (pss_cons (ps_expr (pe_bm PySem.F.plainAttrs_list PySem.F.slot_list_append PySem.F.type_list_append mt_append (pv 5) (pa_cons (pe_word (k := 9) W hnT (by rfl) TB rfl hPT (hr.mono (by decide)) (LamX.lamS_by (sc := defScope s_LAW) (by decide +kernel)) rfl (fun _ _ _ _ _ => rfl) (fun A outer s H E f c' hr => (pe_fx (E := E) F_p_stretch_at (hr.mono (by decide)) (takes_of rfl rfl rfl rfl) (pa_cons (pv 6) (pa_cons (pe_tup (pa_cons pe_int (pa_cons pe_int pa_nil))) pa_nil))))) pa_nil)))
      (pss_one (ps_if (pt_not (pt_val (pe_fn F_l_same (hr.mono (by decide)) (pa_cons (pv 5) (pa_cons (pe_op op_rep (pe_lst (pa_cons (pe_tup (pa_cons pe_str pa_nil)) pa_nil)) pe_int) pa_nil))))) (pss_one (ps_ret pe_bl)) pss_nil)))))))))
      (pss_one (ps_if (pt_not (pt_val (pe_fn F_l_same (hr.mono (by decide)) (pa_cons (pv 6) (pa_cons (pv 4) pa_nil))))) (pss_one (ps_ret pe_bl)) pss_nil)))))))))
      (pss_one (ps_ret pe_bl))), ?_⟩
    refine ⟨_, rfl, a, ns, 3, rfl, hS, by decide, by decide, fun m hm => ?_⟩
    refine ⟨m, rfl, by omega, by omega, for_range (lo := 0) (n := m) (fun i σ H3 => Sm T H H3 ∧ ∃ x1 x2 x3 x4 x5 x6 x7 x8, σ = [some (.ref a), x1, x2, x3, x4, x5, x6, x7, x8]) ⟨Sm.refl, _, _, _, _, _, _, _, _, rfl⟩ ?_ ?_⟩
    · rintro i σ H1 hi ⟨s1, x1, x2, x3, x4, x5, x6, x7, x8, rfl⟩
      refine ⟨_, rfl, _, rfl, a, ns, _, rfl, s1.seq hS, by omega, fun c0 => ⟨c0, 2, rfl, by decide, fun o H2 zs s2 no eo hl => ?_⟩⟩
      obtain ⟨z1, z2, rfl⟩ : ∃ z1 z2, zs = [z1, z2] := match zs, hl with | [z1, z2], _ => ⟨z1, z2, rfl⟩
      refine ⟨o, _, rfl, SqL.of eo, rfl, _, _, rfl, _, _, rfl, rfl, ?_⟩
      refine ⟨_, rfl, _, rfl, z1, rfl, fun o3 H3 us0 qs0 s3 no3 e3 d3 w3 => ?_⟩
      refine ⟨z2, o3, us0, qs0, rfl, e3, d3, w3, fun o4 H4 us qs s4 no4 e4 d4 l4 => ?_⟩
      have s04 : Sm T H H4 := s1.trans (s2.trans (s3.trans s4))
      refine ⟨_, rfl, o4, us, rfl, .inl (SqL.of e4), fun h nh => ?_⟩
      have u5 := same_upd (T := T) (o := .lst us) nh
      have s05 := s04.trans u5
      have d5 := dpa_same u5 _ _ d4
      have e5 := u5.k e4
      refine ⟨(s05.ok hok) _ hPT, fun Ha sa => ?_⟩
      cases hw : wayB qs with
      | false =>
        refine ⟨_, rfl, h, us, qs, rfl, SqL.of (sa.k upd_same), dpa_same sa _ _ d5, by omega, (s05.trans sa).ok hok, fun z => absurd (hw.symm.trans z) (by decide), fun _ cls dd Hc sc rf => ⟨"bad way", rf, fun t1 nt1 => ?_⟩⟩
        have s6 := (sa.trans sc).trans (same_upd (o := .tup [.str "bad way"]) nt1)
        refine ⟨by show 1 ≤ sizeLine; decide, fun fo nfo => ?_⟩
        have u7 := same_upd (T := T) (o := .lst [.ref t1]) nfo
        have nB := s6.free _ nfo
        have sB := s6.trans u7
        have sA := s05.trans sB
        obtain ⟨ts, ef, df⟩ : Fd K _ fo [.tuple [.str "bad way"]] := ⟨[.ref t1], upd_same, .cons (.tup (SqT.of (u7.k upd_same)) (.cons (.str _) .nil)) .nil⟩
        clear s6 u7 nfo
        refine ⟨_, rfl, .inl ⟨rfl, _, SqL.of ef⟩, (sA.ok hok) _ hPT, fun Ha sa => ?_⟩
        have sb := sa
        refine ⟨_, rfl, h, us, qs, rfl, SqL.of ((sB.trans sb).k upd_same), dpa_same (sB.trans sb) _ _ d5, by omega, (sA.trans sb).ok hok, fun z => absurd (hw.symm.trans z) (by decide), fun _ cls dd Hc sc rf => ⟨"bad way", rf, fun t nt => ?_⟩⟩
        have sd := (sb.trans sc).trans (same_upd (o := .tup [.str "bad way"]) nt)
        have eg := sd.k ef
        refine ⟨fo, _, _, rfl, rfl, eg, (by rw [dpa_len df]; decide), ?_⟩
        replace sB := same_mut (o := .lst (ts ++ [.ref t])) (sB.trans sd) nB eg
        replace sA := s05.trans sB
        replace df := Fd.push eg (dpa_same sd _ _ df) (v := .ref t) (d := .tuple [.str "bad way"]) (.tup (SqT.of upd_same) (.cons (.str _) .nil))
        clear eg ef
        obtain ⟨ts, ef, df⟩ := df
        clear sd sc sb sa nt
        refine ⟨_, rfl, o4, us, qs, rfl, SqL.of (sB.k e5), dpa_same sB _ _ d5, by omega, fun Hk sk => ⟨_, rfl, ?_⟩⟩
        rw [hw]
        replace sB := sB.trans sk
        replace sA := s05.trans sB
        replace ef := sk.k ef
        replace df := dpa_same sk _ _ df
        refine iteF ?_
        refine ⟨_, rfl, .inl ⟨rfl, _, SqL.of ef⟩, (sA.ok hok) _ hPT, fun Ha sa => ?_⟩
        refine ⟨_, rfl, 1, rfl, by show 2 ≤ sizeLine; decide, fun b nb => ?_⟩
        have sb := sa.trans (same_upd (o := .tup [.int (-1), .int 1]) nb)
        refine ⟨h, us, qs, b, rfl, SqL.of ((sB.trans sb).k upd_same), dpa_same (sB.trans sb) _ _ d5, by omega, (sA.trans sb).ok hok, hw, fun cls dd Hc sc rf => ⟨"bad way", rf, fun t nt => ?_⟩⟩
        have sd := (sb.trans sc).trans (same_upd (o := .tup [.str "bad way"]) nt)
        have eg := sd.k ef
        refine ⟨fo, _, _, rfl, rfl, eg, (by rw [dpa_len df]; decide), ?_⟩
        replace sB := same_mut (o := .lst (ts ++ [.ref t])) (sB.trans sd) nB eg
        replace sA := s05.trans sB
        replace df := Fd.push eg (dpa_same sd _ _ df) (v := .ref t) (d := .tuple [.str "bad way"]) (.tup (SqT.of upd_same) (.cons (.str _) .nil))
        clear eg ef
        obtain ⟨ts, ef, df⟩ := df
        clear sd sc sb sa nt
        refine ⟨_, rfl, .inl ⟨rfl, _, SqL.of ef⟩, (sA.ok hok) _ hPT, fun Ha sa => ?_⟩
        refine ⟨_, rfl, _, _, rfl, rfl, ⟨by decide, by decide, by decide⟩, by show 2 ≤ sizeLine; decide, fun b nb => ?_⟩
        have sb := sa.trans (same_upd (o := .tup [.int (10 ^ (6 : Int).toNat), .int 1]) nb)
        refine ⟨h, us, qs, b, rfl, SqL.of ((sB.trans sb).k upd_same), dpa_same (sB.trans sb) _ _ d5, by omega, (sA.trans sb).ok hok, hw, fun cls dd Hc sc rf => ⟨"bad way", rf, fun t nt => ?_⟩⟩
        have sd := (sb.trans sc).trans (same_upd (o := .tup [.str "bad way"]) nt)
        have eg := sd.k ef
        refine ⟨fo, _, _, rfl, rfl, eg, (by rw [dpa_len df]; decide), ?_⟩
        replace sB := same_mut (o := .lst (ts ++ [.ref t])) (sB.trans sd) nB eg
        replace sA := s05.trans sB
        replace df := Fd.push eg (dpa_same sd _ _ df) (v := .ref t) (d := .tuple [.str "bad way"]) (.tup (SqT.of upd_same) (.cons (.str _) .nil))
        clear eg ef
        obtain ⟨ts, ef, df⟩ := df
        clear sd sc sb sa nt
        refine ⟨_, rfl, .inl ⟨rfl, _, SqL.of ef⟩, (sA.ok hok) _ hPT, fun Ha sa => ?_⟩
        refine ⟨_, rfl, 1, rfl, by show 2 ≤ sizeLine; decide, fun b nb => ?_⟩
        have sb := sa.trans (same_upd (o := .tup [.int (-1), .int 2]) nb)
        refine ⟨h, us, qs, b, rfl, SqL.of ((sB.trans sb).k upd_same), dpa_same (sB.trans sb) _ _ d5, by omega, (sA.trans sb).ok hok, hw, fun cls dd Hc sc rf => ⟨"bad way", rf, fun t nt => ?_⟩⟩
        have sd := (sb.trans sc).trans (same_upd (o := .tup [.str "bad way"]) nt)
        have eg := sd.k ef
        refine ⟨fo, _, _, rfl, rfl, eg, (by rw [dpa_len df]; decide), ?_⟩
        replace sB := same_mut (o := .lst (ts ++ [.ref t])) (sB.trans sd) nB eg
        replace sA := s05.trans sB
        replace df := Fd.push eg (dpa_same sd _ _ df) (v := .ref t) (d := .tuple [.str "bad way"]) (.tup (SqT.of upd_same) (.cons (.str _) .nil))
        clear eg ef
        obtain ⟨ts, ef, df⟩ := df
        clear sd sc sb sa nt
        refine ⟨_, rfl, .inl ⟨rfl, _, SqL.of ef⟩, (sA.ok hok) _ hPT, fun Ha sa => ?_⟩
        refine ⟨_, rfl, by show 2 ≤ sizeLine; decide, fun b nb => ?_⟩
        have sb := sa.trans (same_upd (o := .tup [.int 0, .int 1]) nb)
        refine ⟨h, us, qs, b, rfl, SqL.of ((sB.trans sb).k upd_same), dpa_same (sB.trans sb) _ _ d5, by omega, (sA.trans sb).ok hok, hw, fun cls dd Hc sc rf => ⟨"bad way", rf, fun t nt => ?_⟩⟩
        have sd := (sb.trans sc).trans (same_upd (o := .tup [.str "bad way"]) nt)
        have eg := sd.k ef
        refine ⟨fo, _, _, rfl, rfl, eg, (by rw [dpa_len df]; decide), ?_⟩
        replace sB := same_mut (o := .lst (ts ++ [.ref t])) (sB.trans sd) nB eg
        replace sA := s05.trans sB
        replace df := Fd.push eg (dpa_same sd _ _ df) (v := .ref t) (d := .tuple [.str "bad way"]) (.tup (SqT.of upd_same) (.cons (.str _) .nil))
        clear eg ef
        obtain ⟨ts, ef, df⟩ := df
        clear sd sc sb sa nt
        refine ⟨_, rfl, .inl ⟨rfl, _, SqL.of ef⟩, (sA.ok hok) _ hPT, fun Ha sa => ?_⟩
        refine ⟨_, rfl, by show 2 ≤ sizeLine; decide, fun b nb => ?_⟩
        have sb := sa.trans (same_upd (o := .tup [.int 0, .int 1]) nb)
        refine ⟨h, us, qs, b, rfl, SqL.of ((sB.trans sb).k upd_same), dpa_same (sB.trans sb) _ _ d5, by omega, (sA.trans sb).ok hok, hw, fun cls dd Hc sc rf => ⟨"bad way", rf, fun t nt => ?_⟩⟩
        have sd := (sb.trans sc).trans (same_upd (o := .tup [.str "bad way"]) nt)
        have eg := sd.k ef
        refine ⟨fo, _, _, rfl, rfl, eg, (by rw [dpa_len df]; decide), ?_⟩
        replace sB := same_mut (o := .lst (ts ++ [.ref t])) (sB.trans sd) nB eg
        replace sA := s05.trans sB
        replace df := Fd.push eg (dpa_same sd _ _ df) (v := .ref t) (d := .tuple [.str "bad way"]) (.tup (SqT.of upd_same) (.cons (.str _) .nil))
        clear eg ef
        obtain ⟨ts, ef, df⟩ := df
        clear sd sc sb sa nt
        refine ⟨_, rfl, .inl ⟨rfl, _, SqL.of ef⟩, (sA.ok hok) _ hPT, fun Ha sa => ?_⟩
        refine ⟨_, rfl, by show 2 ≤ sizeLine; decide, fun b nb => ?_⟩
        have sb := sa.trans (same_upd (o := .tup [.int 0, .int 1]) nb)
        refine ⟨h, us, qs, b, rfl, SqL.of ((sB.trans sb).k upd_same), dpa_same (sB.trans sb) _ _ d5, by omega, (sA.trans sb).ok hok, hw, fun cls dd Hc sc rf => ⟨"bad way", rf, fun t nt => ?_⟩⟩
        have sd := (sb.trans sc).trans (same_upd (o := .tup [.str "bad way"]) nt)
        have eg := sd.k ef
        refine ⟨fo, _, _, rfl, rfl, eg, (by rw [dpa_len df]; decide), ?_⟩
        replace sB := same_mut (o := .lst (ts ++ [.ref t])) (sB.trans sd) nB eg
        replace sA := s05.trans sB
        replace df := Fd.push eg (dpa_same sd _ _ df) (v := .ref t) (d := .tuple [.str "bad way"]) (.tup (SqT.of upd_same) (.cons (.str _) .nil))
        clear eg ef
        obtain ⟨ts, ef, df⟩ := df
        clear sd sc sb sa nt
        refine ⟨_, rfl, by show 1 ≤ sizeLine; decide, fun t nt => ⟨by show 1 ≤ sizeLine; decide, fun l nl => ?_⟩⟩
        have v1 := same_upd (T := T) (o := .tup [.str "bad way"]) nt
        have v2 := same_upd (T := T) (o := .lst [.ref t]) nl
        refine ⟨l, 8, _, rfl, rfl, upd_same, by decide, by decide, by show 1 * 8 ≤ sizeLine; decide, fun r nr => ?_⟩
        have v3 := same_upd (T := T) (o := .lst (List.replicate (8 : Int).toNat [V.ref t]).flatten) nr
        have vA := v1.trans (v2.trans v3)
        have dt : Dp K _ (.ref t) (.tuple [.str "bad way"]) := .tup (SqT.of ((v2.trans v3).k upd_same)) (.cons (.str _) .nil)
        refine ⟨.ref fo, .ref r, .list [.tuple [.str "bad way"], .tuple [.str "bad way"], .tuple [.str "bad way"], .tuple [.str "bad way"], .tuple [.str "bad way"], .tuple [.str "bad way"], .tuple [.str "bad way"], .tuple [.str "bad way"]], rfl, .lst (SqL.of (vA.k ef)) (dpa_same vA _ _ df),
          .lst (SqL.of upd_same) (.cons dt (.cons dt (.cons dt (.cons dt (.cons dt (.cons dt (.cons dt (.cons dt .nil)))))))), rfl, fun Hy sy => ⟨_, rfl, iteF ?_⟩⟩
        replace sB := sB.trans (vA.trans sy)
        replace sA := s05.trans sB
        have e7 := sB.k e5
        have dh : Dp K _ (.ref h) (.list (qs.map amD)) := .lst (SqL.of (sB.k upd_same)) (dpa_same sB _ _ d5)
        have dw : Dp K _ (.ref o4) (.list (qs.map amD)) := .lst (SqL.of e7) (dpa_same sB _ _ d5)
        refine ⟨_, rfl, _, rfl, .ref h, .ref o4, .list (qs.map amD), rfl, dh, dw, depOk_ams (by omega), fun Hz sz => ⟨_, rfl, iteF ?_⟩⟩
        exact ⟨sA.trans sz, _, _, _, _, _, _, _, _, rfl⟩
      | true =>
        refine ⟨_, rfl, h, us, qs, rfl, SqL.of (sa.k upd_same), dpa_same sa _ _ d5, by omega, (s05.trans sa).ok hok, fun _ Hc sc => ⟨by show 2 ≤ sizeLine; decide, fun t1 nt1 => ?_⟩, fun z => absurd (hw.symm.trans z) (by decide)⟩
        have s6 := (sa.trans sc).trans (same_upd (o := .tup [.str "told", .int (labourM qs)]) nt1)
        refine ⟨by show 1 ≤ sizeLine; decide, fun fo nfo => ?_⟩
        have u7 := same_upd (T := T) (o := .lst [.ref t1]) nfo
        have nB := s6.free _ nfo
        have sB := s6.trans u7
        have sA := s05.trans sB
        obtain ⟨ts, ef, df⟩ : Fd K _ fo [.tuple [.str "told", .int (labourM qs)]] := ⟨[.ref t1], upd_same, .cons (.tup (SqT.of (u7.k upd_same)) (.cons (.str _) (.cons (.int _) .nil))) .nil⟩
        clear s6 u7 nfo
        refine ⟨_, rfl, .inl ⟨rfl, _, SqL.of ef⟩, (sA.ok hok) _ hPT, fun Ha sa => ?_⟩
        have sb := sa
        refine ⟨_, rfl, h, us, qs, rfl, SqL.of ((sB.trans sb).k upd_same), dpa_same (sB.trans sb) _ _ d5, by omega, (sA.trans sb).ok hok, fun _ Hc sc => ⟨by show 2 ≤ sizeLine; decide, fun t nt => ?_⟩, fun z => absurd (hw.symm.trans z) (by decide)⟩
        have sd := (sb.trans sc).trans (same_upd (o := .tup [.str "told", .int (stepsM qs)]) nt)
        have eg := sd.k ef
        refine ⟨fo, _, _, rfl, rfl, eg, (by rw [dpa_len df]; show 1 < sizeLine; decide), ?_⟩
        replace sB := same_mut (o := .lst (ts ++ [.ref t])) (sB.trans sd) nB eg
        replace sA := s05.trans sB
        replace df := Fd.push eg (dpa_same sd _ _ df) (v := .ref t) (d := .tuple [.str "told", .int (stepsM qs)]) (.tup (SqT.of upd_same) (.cons (.str _) (.cons (.int _) .nil)))
        clear eg ef
        obtain ⟨ts, ef, df⟩ := df
        clear sd sc sb sa nt
        refine ⟨_, rfl, o4, us, qs, rfl, SqL.of (sB.k e5), dpa_same sB _ _ d5, by omega, fun Hk sk => ⟨_, rfl, ?_⟩⟩
        rw [hw]
        replace sB := sB.trans sk
        replace sA := s05.trans sB
        replace ef := sk.k ef
        replace df := dpa_same sk _ _ df
        refine iteT ?_
        have hb := wayB_b hw
        have hall : ∀ q ∈ qs, wOk q = true := fun q hq => by
          unfold wayB at hw
          rw [Bool.and_eq_true] at hw
          exact List.all_eq_true.mp hw.2 q hq
        have el : us.length = qs.length := by rw [dpa_len d4, List.length_map]
        refine ⟨_, rfl, _, rfl, o4, us, qs, rfl, SqL.of (sB.k e5), dpa_same sB _ _ d5, hall, by show 2 ≤ sizeLine; decide, fun t nt => ?_⟩
        have v1 := same_upd (T := T) (o := .tup [.str "told", .int (labourM qs)]) nt
        have e8 := (sB.trans v1).k e5
        have d8 := dpa_same (sB.trans v1) _ _ d5
        refine ⟨_, rfl, o4, rfl, ⟨_, SqL.of e8⟩, fun D hD => lc_list (K := K) (a := o4) (xs := us) (Qd := _) (fun i H' => Sm T _ H' ∧ H' D = some (.lst (((qs.take i).map fun (q : Int × Int) => q.1).map V.int))) ⟨same_upd hD, upd_same⟩ (fun i H' _ ⟨sm, _⟩ => sm.seq (SqL.of e8)) ?_ ?_⟩
        · rintro j v H' hi ⟨sm, eD⟩
          have hil : j < qs.length := by rw [← el]; exact (List.getElem?_eq_some_iff.mp hi).1
          obtain ⟨v', e1, e2⟩ := dpa_get d8 (i := j) (d := amD qs[j]) (by rw [List.getElem?_map, List.getElem?_eq_getElem hil]; rfl)
          rw [hi] at e1
          cases e1
          obtain ⟨b, rfl, hB⟩ := pd_at e2
          refine ⟨b, _, rfl, same_tup sm hB, rfl, _, _, rfl, _, _, rfl, rfl, rfl, tyes_i ?_⟩
          refine ⟨_, rfl, _, eD, ?_, same_mut sm hD eD, ?_⟩
          · rw [List.length_map, List.length_map, List.length_take]
            exact szl (by omega)
          · rw [upd_same, List.take_add_one, List.getElem?_eq_getElem hil, List.map_append, List.map_append]
            rfl
        · rintro H' ⟨sm, eD⟩
          rw [el, List.take_length] at eD
          refine ⟨D, _, rfl, SqL.of eD, by show 2 ≤ sizeLine; decide, fun t2 nt2 => ?_⟩
          have v2 := same_upd (T := T) (o := .tup [.str "told", .int (stepsM qs)]) nt2
          refine ⟨by show 2 ≤ sizeLine; decide, fun l nl => ?_⟩
          have v3 := same_upd (T := T) (o := .lst [.ref t, .ref t2]) nl
          have vB := sm.trans (v2.trans v3)
          have vA := v1.trans vB
          refine ⟨.ref fo, .ref l, .list [.tuple [.str "told", .int (labourM qs)], .tuple [.str "told", .int (stepsM qs)]], rfl, .lst (SqL.of (vA.k ef)) (dpa_same vA _ _ df),
            .lst (SqL.of upd_same) (.cons (.tup (SqT.of (vB.k upd_same)) (.cons (.str _) (.cons (.int _) .nil))) (.cons (.tup (SqT.of (v3.k upd_same)) (.cons (.str _) (.cons (.int _) .nil))) .nil)), rfl, fun Hy sy => ⟨_, rfl, iteF ?_⟩⟩
          replace sB := sB.trans (vA.trans sy)
          replace sA := s05.trans sB
          have e7 := sB.k e5
          have dh : Dp K _ (.ref h) (.list (qs.map amD)) := .lst (SqL.of (sB.k upd_same)) (dpa_same sB _ _ d5)
          have dw : Dp K _ (.ref o4) (.list (qs.map amD)) := .lst (SqL.of e7) (dpa_same sB _ _ d5)
          refine ⟨_, rfl, _, rfl, .ref h, .ref o4, .list (qs.map amD), rfl, dh, dw, depOk_ams (by omega), fun Hz sz => ⟨_, rfl, iteF ?_⟩⟩
          exact ⟨sA.trans sz, _, _, _, _, _, _, _, _, rfl⟩
    · rintro σ H3 ⟨s1, x1, x2, x3, x4, x5, x6, x7, x8, rfl⟩
      exact q _

end
theorem all_mk {l : PySem.W.OpenLaw} {w : World} {K : PySem.W.Frag} {h : Heap} {mg : Str → Option Value} {fa : Addr} {q : Program} (X : K.In h) (G : h.Ns mainGlobals mg) (hfa : mg "law" = some (.ref fa))
    (tabs : ∀ (y : Str) (c P : Addr), ((recsOf q).any fun e => e.name == y) = true → PySem.W.tabIn K y = some (c, P) → PySem.W.CodeHd h c P ∧ h.get? P = some { cls := .none, data := .fields #[] })
    {f1 : Addr} {od1 an1 : Option Addr} {sl1 : Array (Option Value)} {oc1 kV1 dc1 pm1 ct1 : Value} {cd1 : Value} (a1 : PySem.W.nsIn K mainGlobals "_law_word" = some (some (.ref f1))) (l1 : K.lookup f1 = some ⟨oc1, od1, .func (PySem.W.fnOf "_law_word" "_law_word" (defArgs s_l_word) (defBody s_l_word) (defScope s_l_word) .none kV1 dc1 pm1 an1 cd1 ct1), sl1⟩) (c1_ : PySem.W.codeIn K cd1 "_law_word" = true) (k1 : PySem.W.keepIn K (.ref f1) = true)
    {f2 : Addr} {od2 an2 : Option Addr} {sl2 : Array (Option Value)} {oc2 kV2 dc2 pm2 ct2 : Value} {cd2 : Value} (a2 : PySem.W.nsIn K mainGlobals "is_number" = some (some (.ref f2))) (l2 : K.lookup f2 = some ⟨oc2, od2, .func (PySem.W.fnOf "is_number" "is_number" (defArgs s_p_is_number) (defBody s_p_is_number) (defScope s_p_is_number) .none kV2 dc2 pm2 an2 cd2 ct2), sl2⟩) (c2_ : PySem.W.codeIn K cd2 "is_number" = true) (k2 : PySem.W.keepIn K (.ref f2) = true)
    {f3 : Addr} {od3 an3 : Option Addr} {sl3 : Array (Option Value)} {oc3 kV3 dc3 pm3 ct3 : Value} {cd3 : Value} (a3 : PySem.W.nsIn K mainGlobals "is_within" = some (some (.ref f3))) (l3 : K.lookup f3 = some ⟨oc3, od3, .func (PySem.W.fnOf "is_within" "is_within" (defArgs s_p_is_within) (defBody s_p_is_within) (defScope s_p_is_within) .none kV3 dc3 pm3 an3 cd3 ct3), sl3⟩) (c3_ : PySem.W.codeIn K cd3 "is_within" = true) (k3 : PySem.W.keepIn K (.ref f3) = true)
    {f4 : Addr} {od4 an4 : Option Addr} {sl4 : Array (Option Value)} {oc4 kV4 dc4 pm4 ct4 : Value} {cd4 : Value} (a4 : PySem.W.nsIn K mainGlobals "below" = some (some (.ref f4))) (l4 : K.lookup f4 = some ⟨oc4, od4, .func (PySem.W.fnOf "below" "below" (defArgs s_p_below) (defBody s_p_below) (defScope s_p_below) .none kV4 dc4 pm4 an4 cd4 ct4), sl4⟩) (c4_ : PySem.W.codeIn K cd4 "below" = true) (k4 : PySem.W.keepIn K (.ref f4) = true)
    {f5 : Addr} {od5 an5 : Option Addr} {sl5 : Array (Option Value)} {oc5 kV5 dc5 pm5 ct5 : Value} {c5 P5 : Addr} (a5 : PySem.W.nsIn K mainGlobals "is_stretch" = some (some (.ref f5))) (l5 : K.lookup f5 = some ⟨oc5, od5, .func (PySem.W.fnOf "is_stretch" "is_stretch" (defArgs s_p_is_stretch) (defBody s_p_is_stretch) (defScope s_p_is_stretch) .none kV5 dc5 pm5 an5 (.ref c5) ct5), sl5⟩) (c5_ : PySem.W.codeIn K (.ref c5) "is_stretch" = true) (k5 : PySem.W.keepIn K (.ref f5) = true)
    (r5 : ((recsOf q).any fun e => e.name == ("is_stretch" : Str)) = true) {ev5 : Value} {dv5 : Option Addr} {vv5 : Array Value} {sv5 : Array (Option Value)} (v5 : K.lookup c5 = some ⟨ev5, dv5, .fields vv5, sv5⟩) (p5 : vv5[11]? = some (.ref P5)) (n5 : K.lookup P5 = none)
    {f6 : Addr} {od6 an6 : Option Addr} {sl6 : Array (Option Value)} {oc6 kV6 dc6 pm6 ct6 : Value} {cd6 : Value} (a6 : PySem.W.nsIn K mainGlobals "check_way" = some (some (.ref f6))) (l6 : K.lookup f6 = some ⟨oc6, od6, .func (PySem.W.fnOf "check_way" "check_way" (defArgs s_p_check_way) (defBody s_p_check_way) (defScope s_p_check_way) .none kV6 dc6 pm6 an6 cd6 ct6), sl6⟩) (c6_ : PySem.W.codeIn K cd6 "check_way" = true) (k6 : PySem.W.keepIn K (.ref f6) = true)
    {f7 : Addr} {od7 an7 : Option Addr} {sl7 : Array (Option Value)} {oc7 kV7 dc7 pm7 ct7 : Value} {c7 P7 : Addr} (a7 : PySem.W.nsIn K mainGlobals "labour" = some (some (.ref f7))) (l7 : K.lookup f7 = some ⟨oc7, od7, .func (PySem.W.fnOf "labour" "labour" (defArgs s_p_labour) (defBody s_p_labour) (defScope s_p_labour) .none kV7 dc7 pm7 an7 (.ref c7) ct7), sl7⟩) (c7_ : PySem.W.codeIn K (.ref c7) "labour" = true) (k7 : PySem.W.keepIn K (.ref f7) = true)
    (r7 : ((recsOf q).any fun e => e.name == ("labour" : Str)) = true) {ev7 : Value} {dv7 : Option Addr} {vv7 : Array Value} {sv7 : Array (Option Value)} (v7 : K.lookup c7 = some ⟨ev7, dv7, .fields vv7, sv7⟩) (p7 : vv7[11]? = some (.ref P7)) (n7 : K.lookup P7 = none)
    {f8 : Addr} {od8 an8 : Option Addr} {sl8 : Array (Option Value)} {oc8 kV8 dc8 pm8 ct8 : Value} {c8 P8 : Addr} (a8 : PySem.W.nsIn K mainGlobals "steps" = some (some (.ref f8))) (l8 : K.lookup f8 = some ⟨oc8, od8, .func (PySem.W.fnOf "steps" "steps" (defArgs s_p_steps) (defBody s_p_steps) (defScope s_p_steps) .none kV8 dc8 pm8 an8 (.ref c8) ct8), sl8⟩) (c8_ : PySem.W.codeIn K (.ref c8) "steps" = true) (k8 : PySem.W.keepIn K (.ref f8) = true)
    (r8 : ((recsOf q).any fun e => e.name == ("steps" : Str)) = true) {ev8 : Value} {dv8 : Option Addr} {vv8 : Array Value} {sv8 : Array (Option Value)} (v8 : K.lookup c8 = some ⟨ev8, dv8, .fields vv8, sv8⟩) (p8 : vv8[11]? = some (.ref P8)) (n8 : K.lookup P8 = none)
    {f9 : Addr} {od9 an9 : Option Addr} {sl9 : Array (Option Value)} {oc9 kV9 dc9 pm9 ct9 : Value} {cd9 : Value} (a9 : PySem.W.nsIn K mainGlobals "check_within" = some (some (.ref f9))) (l9 : K.lookup f9 = some ⟨oc9, od9, .func (PySem.W.fnOf "check_within" "check_within" (defArgs s_p_check_within) (defBody s_p_check_within) (defScope s_p_check_within) .none kV9 dc9 pm9 an9 cd9 ct9), sl9⟩) (c9_ : PySem.W.codeIn K cd9 "check_within" = true) (k9 : PySem.W.keepIn K (.ref f9) = true)
    {f10 : Addr} {od10 an10 : Option Addr} {sl10 : Array (Option Value)} {oc10 kV10 dc10 pm10 ct10 : Value} {cd10 : Value} (a10 : PySem.W.nsIn K mainGlobals "place_at" = some (some (.ref f10))) (l10 : K.lookup f10 = some ⟨oc10, od10, .func (PySem.W.fnOf "place_at" "place_at" (defArgs s_p_place_at) (defBody s_p_place_at) (defScope s_p_place_at) .none kV10 dc10 pm10 an10 cd10 ct10), sl10⟩) (c10_ : PySem.W.codeIn K cd10 "place_at" = true) (k10 : PySem.W.keepIn K (.ref f10) = true)
    {f11 : Addr} {od11 an11 : Option Addr} {sl11 : Array (Option Value)} {oc11 kV11 dc11 pm11 ct11 : Value} {cd11 : Value} (a11 : PySem.W.nsIn K mainGlobals "step_at" = some (some (.ref f11))) (l11 : K.lookup f11 = some ⟨oc11, od11, .func (PySem.W.fnOf "step_at" "step_at" (defArgs s_p_step_at) (defBody s_p_step_at) (defScope s_p_step_at) .none kV11 dc11 pm11 an11 cd11 ct11), sl11⟩) (c11_ : PySem.W.codeIn K cd11 "step_at" = true) (k11 : PySem.W.keepIn K (.ref f11) = true)
    {f12 : Addr} {od12 an12 : Option Addr} {sl12 : Array (Option Value)} {oc12 kV12 dc12 pm12 ct12 : Value} {cd12 : Value} (a12 : PySem.W.nsIn K mainGlobals "stretch_at" = some (some (.ref f12))) (l12 : K.lookup f12 = some ⟨oc12, od12, .func (PySem.W.fnOf "stretch_at" "stretch_at" (defArgs s_p_stretch_at) (defBody s_p_stretch_at) (defScope s_p_stretch_at) .none kV12 dc12 pm12 an12 cd12 ct12), sl12⟩) (c12_ : PySem.W.codeIn K cd12 "stretch_at" = true) (k12 : PySem.W.keepIn K (.ref f12) = true)
    {f13 : Addr} {od13 an13 : Option Addr} {sl13 : Array (Option Value)} {oc13 kV13 dc13 pm13 ct13 : Value} {cd13 : Value} (a13 : PySem.W.nsIn K mainGlobals "_law_cell" = some (some (.ref f13))) (l13 : K.lookup f13 = some ⟨oc13, od13, .func (PySem.W.fnOf "_law_cell" "_law_cell" (defArgs s_l_cell) (defBody s_l_cell) (defScope s_l_cell) .none kV13 dc13 pm13 an13 cd13 ct13), sl13⟩) (c13_ : PySem.W.codeIn K cd13 "_law_cell" = true) (k13 : PySem.W.keepIn K (.ref f13) = true)
    {f14 : Addr} {od14 an14 : Option Addr} {sl14 : Array (Option Value)} {oc14 kV14 dc14 pm14 ct14 : Value} {cd14 : Value} (a14 : PySem.W.nsIn K mainGlobals "_law_draws" = some (some (.ref f14))) (l14 : K.lookup f14 = some ⟨oc14, od14, .func (PySem.W.fnOf "_law_draws" "_law_draws" (defArgs s_l_draws) (defBody s_l_draws) (defScope s_l_draws) .none kV14 dc14 pm14 an14 cd14 ct14), sl14⟩) (c14_ : PySem.W.codeIn K cd14 "_law_draws" = true) (k14 : PySem.W.keepIn K (.ref f14) = true)
    {f15 : Addr} {od15 an15 : Option Addr} {sl15 : Array (Option Value)} {oc15 kV15 dc15 pm15 ct15 : Value} {cd15 : Value} (a15 : PySem.W.nsIn K mainGlobals "_law_split" = some (some (.ref f15))) (l15 : K.lookup f15 = some ⟨oc15, od15, .func (PySem.W.fnOf "_law_split" "_law_split" (defArgs s_l_split) (defBody s_l_split) (defScope s_l_split) .none kV15 dc15 pm15 an15 cd15 ct15), sl15⟩) (c15_ : PySem.W.codeIn K cd15 "_law_split" = true) (k15 : PySem.W.keepIn K (.ref f15) = true)
    {f16 : Addr} {od16 an16 : Option Addr} {sl16 : Array (Option Value)} {oc16 kV16 dc16 pm16 ct16 : Value} {cd16 : Value} (a16 : PySem.W.nsIn K mainGlobals "_law_many" = some (some (.ref f16))) (l16 : K.lookup f16 = some ⟨oc16, od16, .func (PySem.W.fnOf "_law_many" "_law_many" (defArgs s_l_many) (defBody s_l_many) (defScope s_l_many) .none kV16 dc16 pm16 an16 cd16 ct16), sl16⟩) (c16_ : PySem.W.codeIn K cd16 "_law_many" = true) (k16 : PySem.W.keepIn K (.ref f16) = true)
    {f17 : Addr} {od17 an17 : Option Addr} {sl17 : Array (Option Value)} {oc17 kV17 dc17 pm17 ct17 : Value} {cd17 : Value} (a17 : PySem.W.nsIn K mainGlobals "_law_same" = some (some (.ref f17))) (l17 : K.lookup f17 = some ⟨oc17, od17, .func (PySem.W.fnOf "_law_same" "_law_same" (defArgs s_l_same) (defBody s_l_same) (defScope s_l_same) .none kV17 dc17 pm17 an17 cd17 ct17), sl17⟩) (c17_ : PySem.W.codeIn K cd17 "_law_same" = true) (k17 : PySem.W.keepIn K (.ref f17) = true)
    {f18 : Addr} {od18 an18 : Option Addr} {sl18 : Array (Option Value)} {oc18 kV18 dc18 pm18 ct18 : Value} {cd18 : Value} (a18 : PySem.W.nsIn K mainGlobals "_law_way" = some (some (.ref f18))) (l18 : K.lookup f18 = some ⟨oc18, od18, .func (PySem.W.fnOf "_law_way" "_law_way" (defArgs s_l_way) (defBody s_l_way) (defScope s_l_way) .none kV18 dc18 pm18 an18 cd18 ct18), sl18⟩) (c18_ : PySem.W.codeIn K cd18 "_law_way" = true) (k18 : PySem.W.keepIn K (.ref f18) = true)
    {f19 : Addr} {od19 an19 : Option Addr} {sl19 : Array (Option Value)} {oc19 kV19 dc19 pm19 ct19 : Value} {cd19 : Value} (a19 : PySem.W.nsIn K mainGlobals "_law_labour" = some (some (.ref f19))) (l19 : K.lookup f19 = some ⟨oc19, od19, .func (PySem.W.fnOf "_law_labour" "_law_labour" (defArgs s_l_labour) (defBody s_l_labour) (defScope s_l_labour) .none kV19 dc19 pm19 an19 cd19 ct19), sl19⟩) (c19_ : PySem.W.codeIn K cd19 "_law_labour" = true) (k19 : PySem.W.keepIn K (.ref f19) = true)
    {f20 : Addr} {od20 an20 : Option Addr} {sl20 : Array (Option Value)} {oc20 kV20 dc20 pm20 ct20 : Value} {cd20 : Value} (a20 : PySem.W.nsIn K mainGlobals "_law_way_ok" = some (some (.ref f20))) (l20 : K.lookup f20 = some ⟨oc20, od20, .func (PySem.W.fnOf "_law_way_ok" "_law_way_ok" (defArgs s_l_way_ok) (defBody s_l_way_ok) (defScope s_l_way_ok) .none kV20 dc20 pm20 an20 cd20 ct20), sl20⟩) (c20_ : PySem.W.codeIn K cd20 "_law_way_ok" = true) (k20 : PySem.W.keepIn K (.ref f20) = true)
    {f21 : Addr} {od21 an21 : Option Addr} {sl21 : Array (Option Value)} {oc21 kV21 dc21 pm21 ct21 : Value} {cd21 : Value} (a21 : PySem.W.nsIn K mainGlobals "_law_spoilt_way" = some (some (.ref f21))) (l21 : K.lookup f21 = some ⟨oc21, od21, .func (PySem.W.fnOf "_law_spoilt_way" "_law_spoilt_way" (defArgs s_l_spoilt_way) (defBody s_l_spoilt_way) (defScope s_l_spoilt_way) .none kV21 dc21 pm21 an21 cd21 ct21), sl21⟩) (c21_ : PySem.W.codeIn K cd21 "_law_spoilt_way" = true) (k21 : PySem.W.keepIn K (.ref f21) = true)
    {f22 : Addr} {od22 an22 : Option Addr} {sl22 : Array (Option Value)} {oc22 kV22 dc22 pm22 ct22 : Value} {c22 P22 : Addr} (a22 : PySem.W.nsIn K mainGlobals "law" = some (some (.ref f22))) (l22 : K.lookup f22 = some ⟨oc22, od22, .func (PySem.W.fnOf "law" "law" (defArgs s_LAW) (defBody s_LAW) (defScope s_LAW) .none kV22 dc22 pm22 an22 (.ref c22) ct22), sl22⟩) (c22_ : PySem.W.codeIn K (.ref c22) "law" = true) (k22 : PySem.W.keepIn K (.ref f22) = true)
    (r22 : ((recsOf q).any fun e => e.name == ("law" : Str)) = true) {ev22 : Value} {dv22 : Option Addr} {vv22 : Array Value} {sv22 : Array (Option Value)} (v22 : K.lookup c22 = some ⟨ev22, dv22, .fields vv22, sv22⟩) (p22 : vv22[11]? = some (.ref P22)) (n22 : K.lookup P22 = none)
    {CP : Addr} (aCP : PySem.W.nsIn K mainGlobals "PailError" = some (some (.ref CP))) (rdP : PySem.W.readsIn K CP (.type "type") = true) (gaP : PySem.W.specialIn K (.ref CP) "__getattribute__" = some (some (.builtin "type.__getattribute__")))
    {f100 : Addr} {od100 an100 : Option Addr} {sl100 : Array (Option Value)} {oc100 kV100 dc100 pm100 ct100 : Value} {cd100 : Value} (a100 : PySem.W.findCls K (.ref CP) (.type "type") "__init__" = some (.val (.ref f100))) (l100 : K.lookup f100 = some ⟨oc100, od100, .func (PySem.W.fnOf "__init__" "PailError.__init__" (defArgs s_p_PailError___init__) (defBody s_p_PailError___init__) (defScope s_p_PailError___init__) .none kV100 dc100 pm100 an100 cd100 ct100), sl100⟩) (c100_ : PySem.W.codeIn K cd100 "PailError.__init__" = true) (k100 : PySem.W.keepIn K (.ref f100) = true)
    (e1P : PySem.W.subIn K (.ref CP) (.type "BaseException") = some true) (e2P : PySem.W.isClsIn K CP = true) (e3P : PySem.W.typeIn K (.ref CP) = some (.type "type")) (vV : PySem.W.findCls K (.type "ValueError") (.type "type") "__init__" = some (.val (.builtin "ValueError.__init__")))
    {C101 N101 : Addr} {nm101 q101 : Str} {bs101 bm101 sub101 : List Value} {sn101 : List Str} {ab101 : Bool} {col101 : Option Bool} {dd101 : Option Addr} {m0101 m1101 m2101 m3101 m5101 : Option Value}
    (aC101 : PySem.W.nsIn K mainGlobals "BadWay" = some (some (.ref C101))) (xL101 : K.lookup C101 = some (excClassObj nm101 q101 C101 N101 bs101 bm101 true sn101 sub101 ab101 col101 dd101 m0101 m1101 m2101 m3101 m5101 "ValueError.__new__")) (rv101 : PySem.HandSPX.refsVE bm101 = true)
    (sa101 : PySem.W.findIn K (.ref C101) "__setattr__" = some (some (.builtin "object.__setattr__"))) (ga101 : PySem.W.findIn K (.ref C101) "__getattribute__" = some (some (.builtin "BaseException.__getattribute__"))) (gg101 : PySem.W.findIn K (.ref C101) "__getattr__" = some none) (nw101 : PySem.W.findIn K (.ref C101) "word" = some none)
    {f101 : Addr} {od101 an101 : Option Addr} {sl101 : Array (Option Value)} {oc101 kV101 dc101 pm101 ct101 : Value} {cd101 : Value} (a101 : PySem.W.findIn K (.ref C101) "__init__" = some (some (.ref f101))) (l101 : K.lookup f101 = some ⟨oc101, od101, .func (PySem.W.fnOf "__init__" "BadWay.__init__" (defArgs s_p_BadWay___init__) (defBody s_p_BadWay___init__) (defScope s_p_BadWay___init__) .none kV101 dc101 pm101 an101 cd101 ct101), sl101⟩) (c101_ : PySem.W.codeIn K cd101 "BadWay.__init__" = true) (k101 : PySem.W.keepIn K (.ref f101) = true)
    (tI101 : PySem.W.typeIn K (.ref f101) = some (.type "function")) (kC101 : PySem.W.keepIn K (.ref C101) = true) (eC101 : PySem.W.subIn K (.ref C101) (.type "BaseException") = some true) (tC101 : PySem.W.typeIn K (.ref C101) = some (.type "type")) (hC101 : PySem.W.hasDictIn K C101 = true) (sC101 : PySem.W.subIn K (.ref C101) (.ref CP) = some true)
    {C102 N102 : Addr} {nm102 q102 : Str} {bs102 bm102 sub102 : List Value} {sn102 : List Str} {ab102 : Bool} {col102 : Option Bool} {dd102 : Option Addr} {m0102 m1102 m2102 m3102 m5102 : Option Value}
    (aC102 : PySem.W.nsIn K mainGlobals "BadPlace" = some (some (.ref C102))) (xL102 : K.lookup C102 = some (excClassObj nm102 q102 C102 N102 bs102 bm102 true sn102 sub102 ab102 col102 dd102 m0102 m1102 m2102 m3102 m5102 "ValueError.__new__")) (rv102 : PySem.HandSPX.refsVE bm102 = true)
    (sa102 : PySem.W.findIn K (.ref C102) "__setattr__" = some (some (.builtin "object.__setattr__"))) (ga102 : PySem.W.findIn K (.ref C102) "__getattribute__" = some (some (.builtin "BaseException.__getattribute__"))) (gg102 : PySem.W.findIn K (.ref C102) "__getattr__" = some none) (nw102 : PySem.W.findIn K (.ref C102) "word" = some none)
    {f102 : Addr} {od102 an102 : Option Addr} {sl102 : Array (Option Value)} {oc102 kV102 dc102 pm102 ct102 : Value} {cd102 : Value} (a102 : PySem.W.findIn K (.ref C102) "__init__" = some (some (.ref f102))) (l102 : K.lookup f102 = some ⟨oc102, od102, .func (PySem.W.fnOf "__init__" "BadPlace.__init__" (defArgs s_p_BadPlace___init__) (defBody s_p_BadPlace___init__) (defScope s_p_BadPlace___init__) .none kV102 dc102 pm102 an102 cd102 ct102), sl102⟩) (c102_ : PySem.W.codeIn K cd102 "BadPlace.__init__" = true) (k102 : PySem.W.keepIn K (.ref f102) = true)
    (tI102 : PySem.W.typeIn K (.ref f102) = some (.type "function")) (kC102 : PySem.W.keepIn K (.ref C102) = true) (eC102 : PySem.W.subIn K (.ref C102) (.type "BaseException") = some true) (tC102 : PySem.W.typeIn K (.ref C102) = some (.type "type")) (hC102 : PySem.W.hasDictIn K C102 = true) (sC102 : PySem.W.subIn K (.ref C102) (.ref CP) = some true)
    (z_ValueError : PySem.W.nsIn K mainGlobals "ValueError" = some none)
    (z_all : PySem.W.nsIn K mainGlobals "all" = some none)
    (z_bool : PySem.W.nsIn K mainGlobals "bool" = some none)
    (z_int : PySem.W.nsIn K mainGlobals "int" = some none)
    (z_isinstance : PySem.W.nsIn K mainGlobals "isinstance" = some none)
    (z_len : PySem.W.nsIn K mainGlobals "len" = some none)
    (z_list : PySem.W.nsIn K mainGlobals "list" = some none)
    (z_max : PySem.W.nsIn K mainGlobals "max" = some none)
    (z_min : PySem.W.nsIn K mainGlobals "min" = some none)
    (z_range : PySem.W.nsIn K mainGlobals "range" = some none)
    (z_str : PySem.W.nsIn K mainGlobals "str" = some none)
    (z_sum : PySem.W.nsIn K mainGlobals "sum" = some none)
    (z_tuple : PySem.W.nsIn K mainGlobals "tuple" = some none)
    {t_MOST_STEPS_OR_TOIL : Tok} (y_MOST_STEPS_OR_TOIL : PySem.W.nsIn K mainGlobals "MOST_STEPS_OR_TOIL" = some (some (.int 9 t_MOST_STEPS_OR_TOIL)))
    {t_MOST_STRETCHES : Tok} (y_MOST_STRETCHES : PySem.W.nsIn K mainGlobals "MOST_STRETCHES" = some (some (.int 6 t_MOST_STRETCHES)))
    {a_NOUGHT : Addr} {od_NOUGHT : Option Addr} {its_NOUGHT : Array Value} {n_NOUGHT : Nat} {sl_NOUGHT : Array (Option Value)} (y_NOUGHT : PySem.W.nsIn K mainGlobals "NOUGHT" = some (some (.ref a_NOUGHT))) (x_NOUGHT : K.lookup a_NOUGHT = some ⟨.type "tuple", od_NOUGHT, .seq its_NOUGHT n_NOUGHT, sl_NOUGHT⟩) (w_NOUGHT : its_NOUGHT.size ≤ sizeLine ∧ Vals [.int 0, .int 1] its_NOUGHT.toList)
    (ndT : ([P5, P7, P8, P22] : List Addr).Nodup)
    : LamX.LawAtS l w K CX0 12 63 "_law_script" mg fa h := by
  have e := hfa.symm.trans (PySem.W.mg_of X G a22)
  cases e
  have hnT : (([(P5, none), (P7, none), (P8, none), (P22, some (("law" : Str) ++ ".<locals>." ++ "<lambda>"))] : Tb).map (·.1)).Nodup := ndT
  have T1 := fun_mk (st := s_l_word) l1 c1_ k1
  have b1 := T1.binds (ps := ["_law_asked"]) fun _ _ _ _ _ _ us hl => match us, hl with | [_], _ => rfl
  have T2 := fun_mk (st := s_p_is_number) l2 c2_ k2
  have b2 := T2.binds (ps := ["thing"]) fun _ _ _ _ _ _ us hl => match us, hl with | [_], _ => rfl
  have T3 := fun_mk (st := s_p_is_within) l3 c3_ k3
  have b3 := T3.binds (ps := ["thing", "least", "most"]) fun _ _ _ _ _ _ us hl => match us, hl with | [_, _, _], _ => rfl
  have T4 := fun_mk (st := s_p_below) l4 c4_ k4
  have b4 := T4.binds (ps := ["one", "other"]) fun _ _ _ _ _ _ us hl => match us, hl with | [_, _], _ => rfl
  have T5 : FunC K "is_stretch" "is_stretch" s_p_is_stretch f5 _ c5 := ⟨⟨oc5, od5, kV5, dc5, pm5, an5, ct5, sl5, rfl, l5, c5_⟩, k5⟩
  have b5 := T5.binds (ps := ["thing"]) fun _ _ _ _ _ us hl => match us, hl with | [_], _ => rfl
  have T6 := fun_mk (st := s_p_check_way) l6 c6_ k6
  have b6 := T6.binds (ps := ["way"]) fun _ _ _ _ _ _ us hl => match us, hl with | [_], _ => rfl
  have T7 : FunC K "labour" "labour" s_p_labour f7 _ c7 := ⟨⟨oc7, od7, kV7, dc7, pm7, an7, ct7, sl7, rfl, l7, c7_⟩, k7⟩
  have b7 := T7.binds (ps := ["way"]) fun _ _ _ _ _ us hl => match us, hl with | [_], _ => rfl
  have T8 : FunC K "steps" "steps" s_p_steps f8 _ c8 := ⟨⟨oc8, od8, kV8, dc8, pm8, an8, ct8, sl8, rfl, l8, c8_⟩, k8⟩
  have b8 := T8.binds (ps := ["way"]) fun _ _ _ _ _ us hl => match us, hl with | [_], _ => rfl
  have T9 := fun_mk (st := s_p_check_within) l9 c9_ k9
  have b9 := T9.binds (ps := ["where", "end"]) fun _ _ _ _ _ _ us hl => match us, hl with | [_, _], _ => rfl
  have T10 := fun_mk (st := s_p_place_at) l10 c10_ k10
  have b10 := T10.binds (ps := ["way", "step"]) fun _ _ _ _ _ _ us hl => match us, hl with | [_, _], _ => rfl
  have T11 := fun_mk (st := s_p_step_at) l11 c11_ k11
  have b11 := T11.binds (ps := ["way", "place"]) fun _ _ _ _ _ _ us hl => match us, hl with | [_, _], _ => rfl
  have T12 := fun_mk (st := s_p_stretch_at) l12 c12_ k12
  have b12 := T12.binds (ps := ["way", "place"]) fun _ _ _ _ _ _ us hl => match us, hl with | [_, _], _ => rfl
  have T13 := fun_mk (st := s_l_cell) l13 c13_ k13
  have b13 := T13.binds (ps := ["_law_script", "_law_k"]) fun _ _ _ _ _ _ us hl => match us, hl with | [_, _], _ => rfl
  have T14 := fun_mk (st := s_l_draws) l14 c14_ k14
  have b14 := T14.binds (ps := ["_law_cell_here", "_law_parts"]) fun _ _ _ _ _ _ us hl => match us, hl with | [_, _], _ => rfl
  have T15 := fun_mk (st := s_l_split) l15 c15_ k15
  have b15 := T15.binds (ps := ["_law_cell_here", "_law_many_here"]) fun _ _ _ _ _ _ us hl => match us, hl with | [_, _], _ => rfl
  have T16 := fun_mk (st := s_l_many) l16 c16_ k16
  have b16 := T16.binds (ps := ["_law_script", "_law_few"]) fun _ _ _ _ _ _ us hl => match us, hl with | [_, _], _ => rfl
  have T17 := fun_mk (st := s_l_same) l17 c17_ k17
  have b17 := T17.binds (ps := ["_law_found", "_law_due"]) fun _ _ _ _ _ _ us hl => match us, hl with | [_, _], _ => rfl
  have T18 := fun_mk (st := s_l_way) l18 c18_ k18
  have b18 := T18.binds (ps := ["_law_cell_here"]) fun _ _ _ _ _ _ us hl => match us, hl with | [_], _ => rfl
  have T19 := fun_mk (st := s_l_labour) l19 c19_ k19
  have b19 := T19.binds (ps := ["_law_way_here"]) fun _ _ _ _ _ _ us hl => match us, hl with | [_], _ => rfl
  have T20 := fun_mk (st := s_l_way_ok) l20 c20_ k20
  have b20 := T20.binds (ps := ["_law_way_here"]) fun _ _ _ _ _ _ us hl => match us, hl with | [_], _ => rfl
  have T21 := fun_mk (st := s_l_spoilt_way) l21 c21_ k21
  have b21 := T21.binds (ps := ["_law_cell_here", "_law_way_here"]) fun _ _ _ _ _ _ us hl => match us, hl with | [_, _], _ => rfl
  have T22 : FunC K "law" "law" s_LAW fa _ c22 := ⟨⟨oc22, od22, kV22, dc22, pm22, an22, ct22, sl22, rfl, l22, c22_⟩, k22⟩
  have T100 := fun_mk (st := s_p_PailError___init__) l100 c100_ k100
  have b100 := T100.binds (ps := ["self", "word"]) fun _ _ _ _ _ _ us hl => match us, hl with | [_, _], _ => rfl
  have T101 := fun_mk (st := s_p_BadWay___init__) l101 c101_ k101
  have b101 := T101.binds (ps := ["self"]) fun _ _ _ _ _ _ us hl => match us, hl with | [_], _ => rfl
  have T102 := fun_mk (st := s_p_BadPlace___init__) l102 c102_ k102
  have b102 := T102.binds (ps := ["self"]) fun _ _ _ _ _ _ us hl => match us, hl with | [_], _ => rfl
  have B : Bn mg := ⟨PySem.W.mg_none_of X G z_ValueError, PySem.W.mg_none_of X G z_all, PySem.W.mg_none_of X G z_bool, PySem.W.mg_none_of X G z_int, PySem.W.mg_none_of X G z_isinstance, PySem.W.mg_none_of X G z_len, PySem.W.mg_none_of X G z_list, PySem.W.mg_none_of X G z_max, PySem.W.mg_none_of X G z_min, PySem.W.mg_none_of X G z_range, PySem.W.mg_none_of X G z_str, PySem.W.mg_none_of X G z_sum, PySem.W.mg_none_of X G z_tuple⟩
  have H5 := tabs _ _ _ r5 (tab_in a5 l5 rfl rfl v5 p5)
  have H7 := tabs _ _ _ r7 (tab_in a7 l7 rfl rfl v7 p7)
  have H8 := tabs _ _ _ r8 (tab_in a8 l8 rfl rfl v8 p8)
  have H22 := tabs _ _ _ r22 (tab_in a22 l22 rfl rfl v22 p22)
  refine ⟨PySem.W.fnOf "law" "law" (defArgs s_LAW) (defBody s_LAW) (defScope s_LAW) .none kV22 dc22 pm22 an22 (.ref c22) ct22, [(c5, P5), (c7, P7), (c8, P8), (c22, P22)], sp_LAW K [(P5, none), (P7, none), (P8, none), (P22, some (("law" : Str) ++ ".<locals>." ++ "<lambda>"))], ?_, ?_, ?_, fun s v => .of_eq rfl, ?_, fun base _ _ TBs => ?_⟩
  · intro p hp
    simp only [List.mem_cons, List.not_mem_nil, or_false] at hp
    rcases hp with rfl | rfl | rfl | rfl
    · exact H5.2
    · exact H7.2
    · exact H8.2
    · exact H22.2
  · intro p hp
    simp only [List.mem_cons, List.not_mem_nil, or_false] at hp
    rcases hp with rfl | rfl | rfl | rfl
    · exact n5
    · exact n7
    · exact n8
    · exact n22
  · intro p hp
    simp only [List.mem_cons, List.not_mem_nil, or_false] at hp
    rcases hp with rfl | rfl | rfl | rfl
    · exact H5.1
    · exact H7.1
    · exact H8.1
    · exact H22.1
  · intro H a ns hlen hbits hT hS
    refine ⟨a, ns, rfl, hS, hlen, hbits, ?_, fun _ => rfl⟩
    intro p hp
    simp only [List.mem_cons, List.not_mem_nil, or_false] at hp
    rcases hp with rfl | rfl | rfl | rfl
    · exact okG0 (hT (c5, P5) (by simp))
    · exact okG0 (hT (c7, P7) (by simp))
    · exact okG0 (hT (c8, P8) (by simp))
    · exact okS0 (hT (c22, P22) (by simp))
  have B5 : LamX.TabB base mg c5 P5 := TBs (c5, P5) (by simp)
  have B7 : LamX.TabB base mg c7 P7 := TBs (c7, P7) (by simp)
  have B8 : LamX.TabB base mg c8 P8 := TBs (c8, P8) (by simp)
  have B22 : LamX.TabB base mg c22 P22 := TBs (c22, P22) (by simp)
  have okP := ok_PailError (P := l.prog) (w := w) (mg := mg) (base := base) T100 (PySem.W.mg_none_of X G z_ValueError) vV
  have R_BadWay : Err l.prog w K mg base CP "BadWay" "bad way" := ⟨⟨C101, f101, _, PySem.W.mg_of X G aC101, ⟨⟨nm101, q101, N101, bs101, bm101, sn101, sub101, ab101, col101, dd101, m0101, m1101, m2101, m3101, m5101, xL101, rv101⟩, sa101, eC101, tC101, kC101⟩, ⟨ga101, gg101, eC101, hC101⟩, nw101, exm_of e1P e2P e3P sC101, a101, tI101, ok_BadWay T101 ⟨rdP, gaP⟩ a100 okP (PySem.W.mg_of X G aCP) k100 b100, b101⟩⟩
  have R_BadPlace : Err l.prog w K mg base CP "BadPlace" "bad place" := ⟨⟨C102, f102, _, PySem.W.mg_of X G aC102, ⟨⟨nm102, q102, N102, bs102, bm102, sn102, sub102, ab102, col102, dd102, m0102, m1102, m2102, m3102, m5102, xL102, rv102⟩, sa102, eC102, tC102, kC102⟩, ⟨ga102, gg102, eC102, hC102⟩, nw102, exm_of e1P e2P e3P sC102, a102, tI102, ok_BadPlace T102 ⟨rdP, gaP⟩ a100 okP (PySem.W.mg_of X G aCP) k100 b100, b102⟩⟩
  have W : Word K mg CP := ⟨⟨f1, _, T1, PySem.W.mg_of X G a1, b1, PySem.W.mg_of X G aCP⟩⟩
  have F_p_below : Fn l.prog w K mg base 1 "below" ["one", "other"] (sp_p_below K [(P5, none), (P7, none), (P8, none), (P22, some (("law" : Str) ++ ".<locals>." ++ "<lambda>"))]) := Fn.mk' (ok_p_below (T := [(P5, none), (P7, none), (P8, none), (P22, some (("law" : Str) ++ ".<locals>." ++ "<lambda>"))]) T4    ) (PySem.W.mg_of X G a4) k4 b4
  have F_p_is_stretch : Fn l.prog w K mg base 1 "is_stretch" ["thing"] (sp_p_is_stretch K [(P5, none), (P7, none), (P8, none), (P22, some (("law" : Str) ++ ".<locals>." ++ "<lambda>"))]) := Fn.mk' (ok_p_is_stretch (T := [(P5, none), (P7, none), (P8, none), (P22, some (("law" : Str) ++ ".<locals>." ++ "<lambda>"))]) T5 hnT (by simp) (gx_lam B5) B ⟨⟨_, rfl⟩, PySem.W.mg_of X G y_MOST_STEPS_OR_TOIL⟩   (with_of T3) k3 (PySem.W.mg_of X G a3) (num_of T2) k2 (PySem.W.mg_of X G a2)) (PySem.W.mg_of X G a5) k5 b5
  have F_p_check_way : Fx l.prog w K mg base 4 "check_way" ["way"] (sp_p_check_way K [(P5, none), (P7, none), (P8, none), (P22, some (("law" : Str) ++ ".<locals>." ++ "<lambda>"))] CP) := Fx.mk' (ok_p_check_way (T := [(P5, none), (P7, none), (P8, none), (P22, some (("law" : Str) ++ ".<locals>." ++ "<lambda>"))]) T6 B ⟨⟨_, rfl⟩, PySem.W.mg_of X G y_MOST_STRETCHES⟩ R_BadWay F_p_is_stretch ) (PySem.W.mg_of X G a6) k6 b6
  have F_p_labour : Fx l.prog w K mg base 5 "labour" ["way"] (sp_p_labour K [(P5, none), (P7, none), (P8, none), (P22, some (("law" : Str) ++ ".<locals>." ++ "<lambda>"))] CP) := Fx.mk' (ok_p_labour (T := [(P5, none), (P7, none), (P8, none), (P22, some (("law" : Str) ++ ".<locals>." ++ "<lambda>"))]) T7 hnT (by simp) (gx_lam B7) B   F_p_check_way ) (PySem.W.mg_of X G a7) k7 b7
  have F_p_steps : Fx l.prog w K mg base 5 "steps" ["way"] (sp_p_steps K [(P5, none), (P7, none), (P8, none), (P22, some (("law" : Str) ++ ".<locals>." ++ "<lambda>"))] CP) := Fx.mk' (ok_p_steps (T := [(P5, none), (P7, none), (P8, none), (P22, some (("law" : Str) ++ ".<locals>." ++ "<lambda>"))]) T8 hnT (by simp) (gx_lam B8) B   F_p_check_way ) (PySem.W.mg_of X G a8) k8 b8
  have F_p_check_within : Fx l.prog w K mg base 4 "check_within" ["where", "end"] (sp_p_check_within K [(P5, none), (P7, none), (P8, none), (P22, some (("law" : Str) ++ ".<locals>." ++ "<lambda>"))] CP) := Fx.mk' (ok_p_check_within (T := [(P5, none), (P7, none), (P8, none), (P22, some (("law" : Str) ++ ".<locals>." ++ "<lambda>"))]) T9 (PySem.W.mg_of X G y_NOUGHT) (tup_const x_NOUGHT w_NOUGHT.1 w_NOUGHT.2) R_BadPlace F_p_below ) (PySem.W.mg_of X G a9) k9 b9
  have F_p_place_at : Fx l.prog w K mg base 6 "place_at" ["way", "step"] (sp_p_place_at K [(P5, none), (P7, none), (P8, none), (P22, some (("law" : Str) ++ ".<locals>." ++ "<lambda>"))] CP) := Fx.mk' (ok_p_place_at (T := [(P5, none), (P7, none), (P8, none), (P22, some (("law" : Str) ++ ".<locals>." ++ "<lambda>"))]) T10   F_p_steps F_p_check_within ) (PySem.W.mg_of X G a10) k10 b10
  have F_p_step_at : Fx l.prog w K mg base 6 "step_at" ["way", "place"] (sp_p_step_at K [(P5, none), (P7, none), (P8, none), (P22, some (("law" : Str) ++ ".<locals>." ++ "<lambda>"))] CP) := Fx.mk' (ok_p_step_at (T := [(P5, none), (P7, none), (P8, none), (P22, some (("law" : Str) ++ ".<locals>." ++ "<lambda>"))]) T11   F_p_labour F_p_check_within ) (PySem.W.mg_of X G a11) k11 b11
  have F_p_stretch_at : Fx l.prog w K mg base 6 "stretch_at" ["way", "place"] (sp_p_stretch_at K [(P5, none), (P7, none), (P8, none), (P22, some (("law" : Str) ++ ".<locals>." ++ "<lambda>"))] CP) := Fx.mk' (ok_p_stretch_at (T := [(P5, none), (P7, none), (P8, none), (P22, some (("law" : Str) ++ ".<locals>." ++ "<lambda>"))]) T12   F_p_labour F_p_check_within ) (PySem.W.mg_of X G a12) k12 b12
  have F_l_cell : Fn l.prog w K mg base 1 "_law_cell" ["_law_script", "_law_k"] (sp_l_cell K [(P5, none), (P7, none), (P8, none), (P22, some (("law" : Str) ++ ".<locals>." ++ "<lambda>"))]) := Fn.mk' (ok_l_cell (T := [(P5, none), (P7, none), (P8, none), (P22, some (("law" : Str) ++ ".<locals>." ++ "<lambda>"))]) T13 B    ) (PySem.W.mg_of X G a13) k13 b13
  have F_l_draws : Fn l.prog w K mg base 1 "_law_draws" ["_law_cell_here", "_law_parts"] (sp_l_draws K [(P5, none), (P7, none), (P8, none), (P22, some (("law" : Str) ++ ".<locals>." ++ "<lambda>"))]) := Fn.mk' (ok_l_draws (T := [(P5, none), (P7, none), (P8, none), (P22, some (("law" : Str) ++ ".<locals>." ++ "<lambda>"))]) T14    ) (PySem.W.mg_of X G a14) k14 b14
  have F_l_split : Fn l.prog w K mg base 1 "_law_split" ["_law_cell_here", "_law_many_here"] (sp_l_split K [(P5, none), (P7, none), (P8, none), (P22, some (("law" : Str) ++ ".<locals>." ++ "<lambda>"))]) := Fn.mk' (ok_l_split (T := [(P5, none), (P7, none), (P8, none), (P22, some (("law" : Str) ++ ".<locals>." ++ "<lambda>"))]) T15 B    ) (PySem.W.mg_of X G a15) k15 b15
  have F_l_many : Fn l.prog w K mg base 1 "_law_many" ["_law_script", "_law_few"] (sp_l_many K [(P5, none), (P7, none), (P8, none), (P22, some (("law" : Str) ++ ".<locals>." ++ "<lambda>"))]) := Fn.mk' (ok_l_many (T := [(P5, none), (P7, none), (P8, none), (P22, some (("law" : Str) ++ ".<locals>." ++ "<lambda>"))]) T16 B    ) (PySem.W.mg_of X G a16) k16 b16
  have F_l_same : Fn l.prog w K mg base 6 "_law_same" ["_law_found", "_law_due"] (sp_l_same K [(P5, none), (P7, none), (P8, none), (P22, some (("law" : Str) ++ ".<locals>." ++ "<lambda>"))]) := Fn.mk' (ok_l_same (T := [(P5, none), (P7, none), (P8, none), (P22, some (("law" : Str) ++ ".<locals>." ++ "<lambda>"))]) T17 B (PySem.W.mg_of X G a17) b17    ) (PySem.W.mg_of X G a17) k17 b17
  have F_l_way : Fn l.prog w K mg base 2 "_law_way" ["_law_cell_here"] (sp_l_way K [(P5, none), (P7, none), (P8, none), (P22, some (("law" : Str) ++ ".<locals>." ++ "<lambda>"))]) := Fn.mk' (ok_l_way (T := [(P5, none), (P7, none), (P8, none), (P22, some (("law" : Str) ++ ".<locals>." ++ "<lambda>"))]) T18 B   F_l_draws ) (PySem.W.mg_of X G a18) k18 b18
  have F_l_labour : Fn l.prog w K mg base 1 "_law_labour" ["_law_way_here"] (sp_l_labour K [(P5, none), (P7, none), (P8, none), (P22, some (("law" : Str) ++ ".<locals>." ++ "<lambda>"))]) := Fn.mk' (ok_l_labour (T := [(P5, none), (P7, none), (P8, none), (P22, some (("law" : Str) ++ ".<locals>." ++ "<lambda>"))]) T19 B    ) (PySem.W.mg_of X G a19) k19 b19
  have F_l_way_ok : Fn l.prog w K mg base 1 "_law_way_ok" ["_law_way_here"] (sp_l_way_ok K [(P5, none), (P7, none), (P8, none), (P22, some (("law" : Str) ++ ".<locals>." ++ "<lambda>"))]) := Fn.mk' (ok_l_way_ok (T := [(P5, none), (P7, none), (P8, none), (P22, some (("law" : Str) ++ ".<locals>." ++ "<lambda>"))]) T20 B    ) (PySem.W.mg_of X G a20) k20 b20
  have F_l_spoilt_way : Fn l.prog w K mg base 2 "_law_spoilt_way" ["_law_cell_here", "_law_way_here"] (sp_l_spoilt_way K [(P5, none), (P7, none), (P8, none), (P22, some (("law" : Str) ++ ".<locals>." ++ "<lambda>"))]) := Fn.mk' (ok_l_spoilt_way (T := [(P5, none), (P7, none), (P8, none), (P22, some (("law" : Str) ++ ".<locals>." ++ "<lambda>"))]) T21 B   F_l_draws ) (PySem.W.mg_of X G a21) k21 b21
  exact ok_LAW (T := [(P5, none), (P7, none), (P8, none), (P22, some (("law" : Str) ++ ".<locals>." ++ "<lambda>"))]) T22 hnT (by simp) B22 B   W F_p_labour F_p_steps F_p_place_at F_p_step_at F_p_stretch_at F_l_cell F_l_split F_l_many F_l_same F_l_way F_l_labour F_l_way_ok F_l_spoilt_way 
end My
open PySem PySem.W PyProof.Rows
set_option maxRecDepth 100000 in
set_option maxHeartbeats 0 in
theorem PySem.Challenge.cw_pailchain_k05_ways_and_what_is_none_holds : PySem.Challenge.rw_pailchain_k05_ways_and_what_is_none.Holds := by
  w_on; o_law; k_head; (case hw => w_witness2)
  k_fill
  refine My.walk_tabs (l := PySem.Challenge.rw_pailchain_k05_ways_and_what_is_none) (n := 63) (k := 12) (x := "_law_script") (CX := fun _ => L2.CX0) rfl (by decide) rfl ⟨rfl, by decide, by decide⟩ (by first | exact fun w h Y => PySem.W.kIn_of Y | exact fun w h Y => PySem.W.km_in_of Y) ?F (fun _ _ _ _ _ h => h)
  case F =>
    intro w mg fa h Y KX G hmg tabs
    refine' My.all_mk KX G hmg tabs ?a1 ?l1 ?c1_ ?k1 ?a2 ?l2 ?c2_ ?k2 ?a3 ?l3 ?c3_ ?k3 ?a4 ?l4 ?c4_ ?k4 ?a5 ?l5 ?c5_ ?k5 ?r5 ?v5 ?p5 ?n5 ?a6 ?l6 ?c6_ ?k6 ?a7 ?l7 ?c7_ ?k7 ?r7 ?v7 ?p7 ?n7 ?a8 ?l8 ?c8_ ?k8 ?r8 ?v8 ?p8 ?n8 ?a9 ?l9 ?c9_ ?k9 ?a10 ?l10 ?c10_ ?k10 ?a11 ?l11 ?c11_ ?k11 ?a12 ?l12 ?c12_ ?k12 ?a13 ?l13 ?c13_ ?k13 ?a14 ?l14 ?c14_ ?k14 ?a15 ?l15 ?c15_ ?k15 ?a16 ?l16 ?c16_ ?k16 ?a17 ?l17 ?c17_ ?k17 ?a18 ?l18 ?c18_ ?k18 ?a19 ?l19 ?c19_ ?k19 ?a20 ?l20 ?c20_ ?k20 ?a21 ?l21 ?c21_ ?k21 ?a22 ?l22 ?c22_ ?k22 ?r22 ?v22 ?p22 ?n22 ?aCP ?rdP ?gaP ?a100 ?l100 ?c100_ ?k100 ?e1P ?e2P ?e3P ?vV ?aC101 ?xL101 ?rv101 ?sa101 ?ga101 ?gg101 ?nw101 ?a101 ?l101 ?c101_ ?k101 ?tI101 ?kC101 ?eC101 ?tC101 ?hC101 ?sC101 ?aC102 ?xL102 ?rv102 ?sa102 ?ga102 ?gg102 ?nw102 ?a102 ?l102 ?c102_ ?k102 ?tI102 ?kC102 ?eC102 ?tC102 ?hC102 ?sC102 ?z_ValueError ?z_all ?z_bool ?z_int ?z_isinstance ?z_len ?z_list ?z_max ?z_min ?z_range ?z_str ?z_sum ?z_tuple ?y_MOST_STEPS_OR_TOIL ?y_MOST_STRETCHES ?y_NOUGHT ?x_NOUGHT ?w_NOUGHT ?ndT
    (case a1 => k_is)
    (case l1 => k_is)
    (case c1_ => k_is)
    (case k1 => k_is)
    (case a2 => k_is)
    (case l2 => k_is)
    (case c2_ => k_is)
    (case k2 => k_is)
    (case a3 => k_is)
    (case l3 => k_is)
    (case c3_ => k_is)
    (case k3 => k_is)
    (case a4 => k_is)
    (case l4 => k_is)
    (case c4_ => k_is)
    (case k4 => k_is)
    (case a5 => k_is)
    (case l5 => k_is)
    (case c5_ => k_is)
    (case k5 => k_is)
    (case r5 => decide +kernel)
    (case v5 => k_is)
    (case p5 => first | exact rfl | decide +kernel)
    (case n5 => first | kernel_rfl | exact rfl)
    (case a6 => k_is)
    (case l6 => k_is)
    (case c6_ => k_is)
    (case k6 => k_is)
    (case a7 => k_is)
    (case l7 => k_is)
    (case c7_ => k_is)
    (case k7 => k_is)
    (case r7 => decide +kernel)
    (case v7 => k_is)
    (case p7 => first | exact rfl | decide +kernel)
    (case n7 => first | kernel_rfl | exact rfl)
    (case a8 => k_is)
    (case l8 => k_is)
    (case c8_ => k_is)
    (case k8 => k_is)
    (case r8 => decide +kernel)
    (case v8 => k_is)
    (case p8 => first | exact rfl | decide +kernel)
    (case n8 => first | kernel_rfl | exact rfl)
    (case a9 => k_is)
    (case l9 => k_is)
    (case c9_ => k_is)
    (case k9 => k_is)
    (case a10 => k_is)
    (case l10 => k_is)
    (case c10_ => k_is)
    (case k10 => k_is)
    (case a11 => k_is)
    (case l11 => k_is)
    (case c11_ => k_is)
    (case k11 => k_is)
    (case a12 => k_is)
    (case l12 => k_is)
    (case c12_ => k_is)
    (case k12 => k_is)
    (case a13 => k_is)
    (case l13 => k_is)
    (case c13_ => k_is)
    (case k13 => k_is)
    (case a14 => k_is)
    (case l14 => k_is)
    (case c14_ => k_is)
    (case k14 => k_is)
    (case a15 => k_is)
    (case l15 => k_is)
    (case c15_ => k_is)
    (case k15 => k_is)
    (case a16 => k_is)
    (case l16 => k_is)
    (case c16_ => k_is)
    (case k16 => k_is)
    (case a17 => k_is)
    (case l17 => k_is)
    (case c17_ => k_is)
    (case k17 => k_is)
    (case a18 => k_is)
    (case l18 => k_is)
    (case c18_ => k_is)
    (case k18 => k_is)
    (case a19 => k_is)
    (case l19 => k_is)
    (case c19_ => k_is)
    (case k19 => k_is)
    (case a20 => k_is)
    (case l20 => k_is)
    (case c20_ => k_is)
    (case k20 => k_is)
    (case a21 => k_is)
    (case l21 => k_is)
    (case c21_ => k_is)
    (case k21 => k_is)
    (case a22 => k_is)
    (case l22 => k_is)
    (case c22_ => k_is)
    (case k22 => k_is)
    (case r22 => decide +kernel)
    (case v22 => k_is)
    (case p22 => first | exact rfl | decide +kernel)
    (case n22 => first | kernel_rfl | exact rfl)
    (case aCP => k_is)
    (case rdP => k_is)
    (case gaP => k_is)
    (case a100 => k_is)
    (case l100 => k_is)
    (case c100_ => k_is)
    (case k100 => k_is)
    (case e1P => k_is)
    (case e2P => k_is)
    (case e3P => k_is)
    (case vV => k_is)
    (case aC101 => k_is)
    (case xL101 => k_is)
    (case rv101 => first | rfl | decide +kernel | k_is)
    (case sa101 => k_is)
    (case ga101 => k_is)
    (case gg101 => k_is)
    (case nw101 => k_is)
    (case a101 => k_is)
    (case l101 => k_is)
    (case c101_ => k_is)
    (case k101 => k_is)
    (case tI101 => k_is)
    (case kC101 => k_is)
    (case eC101 => k_is)
    (case tC101 => k_is)
    (case hC101 => k_is)
    (case sC101 => first | rfl | k_is)
    (case aC102 => k_is)
    (case xL102 => k_is)
    (case rv102 => first | rfl | decide +kernel | k_is)
    (case sa102 => k_is)
    (case ga102 => k_is)
    (case gg102 => k_is)
    (case nw102 => k_is)
    (case a102 => k_is)
    (case l102 => k_is)
    (case c102_ => k_is)
    (case k102 => k_is)
    (case tI102 => k_is)
    (case kC102 => k_is)
    (case eC102 => k_is)
    (case tC102 => k_is)
    (case hC102 => k_is)
    (case sC102 => first | rfl | k_is)
    (case z_ValueError => k_is)
    (case z_all => k_is)
    (case z_bool => k_is)
    (case z_int => k_is)
    (case z_isinstance => k_is)
    (case z_len => k_is)
    (case z_list => k_is)
    (case z_max => k_is)
    (case z_min => k_is)
    (case z_range => k_is)
    (case z_str => k_is)
    (case z_sum => k_is)
    (case z_tuple => k_is)
    (case y_MOST_STEPS_OR_TOIL => k_is)
    (case y_MOST_STRETCHES => k_is)
    (case y_NOUGHT => k_is)
    (case x_NOUGHT => k_is)
    (case w_NOUGHT => exact ⟨by decide, .cons ⟨_, rfl⟩ (.cons ⟨_, rfl⟩ .nil)⟩)
    (case ndT => decide +kernel)
