import PyProof.Rows.All
import Wide.All
import OpenK.AllK
import Wide.FinOn
import HandS.ForMost
import HandS.Wide
import HandS.IsInst
import HandS.NoneIn
import HandS.EndBits
import HandS.FStr
import HandS.ClsMeth
import HandS.ExcField
import HandS.ExcInit
import HandS.ForExc
import HandS.EndTab
import HandS.Lambda
import HandS.AnyAll
import HandS.RevRange
import HandS.SortInts
import HandS.More
import HandS.Walk
import HandS.Flow
import HandS.Zip
import PySem.Challenge.RW_pailchain_k10_whole_walked_by_pieces
set_option Elab.async false
set_option linter.all false
set_option maxRecDepth 100000
set_option maxHeartbeats 4000000
namespace My
open PySem PySem.Spec PyProof.Rows L2
/-! ### a def of the text with its promise, ready to be called -/
structure Fn (P : Program) (w : World) (K : PySem.W.Frag) (mg : Str → Option Value) (base : Heap) (k : Nat) (x : Str) (ps : List Str) (sp : Sp) : Prop where
  ex : ∃ f fd, FnOk P w K mg base CX0 k f fd ps sp ∧ mg x = some (.ref f) ∧ PySem.W.keepIn K (.ref f) = true ∧ Binds K fd ps []
theorem Fn.mk' {P : Program} {w : World} {K : PySem.W.Frag} {mg : Str → Option Value} {base : Heap} {k : Nat} {x : Str} {ps : List Str} {sp : Sp} {f : Addr} {fd : FuncData}
    (h : FnOk P w K mg base CX0 k f fd ps sp) (g : mg x = some (.ref f)) (kp : PySem.W.keepIn K (.ref f) = true) (b : Binds K fd ps []) : Fn P w K mg base k x ps sp := ⟨⟨f, fd, h, g, kp, b⟩⟩
section
variable {X : Cx} {k : Nat} {x : Str} {ps : List Str} {sp : Sp} {e : Expr} {es : List Expr} {t : TA} {p pos : Pos}
theorem pe_fn (F : Fn X.prog X.w X.K X.mg X.base k x ps sp) (hr : Room k X.A) (ha : PA X (e :: es) t) (hg : Gl X x := by rfl) (hdb : (x == ("__debug__" : Str)) = false := by decide)
    (he : starEach (e :: es) X.env = (false, eval e X.env) :: starEach es X.env := by rfl) (hpl : (backTo pos (starEach es X.env)).any (·.1) = false := by rfl) :
    PE X (.Call (.Name x p) (e :: es) [] pos) (tCall sp [] E0 t) := by
  obtain ⟨f, fd, h, g, kp, b⟩ := F.ex
  exact pe_call h hr hg g kp b .nil pass0 ha hdb he hpl
theorem pe_fn0 (F : Fn X.prog X.w X.K X.mg X.base k x ps sp) (hr : Room k X.A) (hg : Gl X x := by rfl) (hdb : (x == ("__debug__" : Str)) = false := by decide) :
    PE X (.Call (.Name x p) [] [] pos) (tCall sp [] E0 tNil) := by
  obtain ⟨f, fd, h, g, kp, b⟩ := F.ex
  exact pe_call0 h hr hg g kp b .nil pass0 hdb
end
/-! ### heaps: what a def leaves; the tables of code objects may grow -/
/-- the tables that grow: a table of generator expressions (none), of lambdas (their name) -/
abbrev Tb := List (Addr × Option Str)
def OkP (H : Hp) (p : Addr × Option Str) : Prop := match p.2 with
  | none => GxR.TabG H p.1
  | some q => LamX.TabS H p.1 q
def Ok (T : Tb) (H : Hp) : Prop := ∀ p ∈ T, OkP H p
def nTbl : HO → Prop
  | .tbl _ => False
  | _ => True
structure Sm (T : Tb) (H H' : Hp) : Prop where
  keep : ∀ b o, H b = some o → nTbl o → H' b = some o
  ok : Ok T H → Ok T H'
  free : ∀ l, H' l = none → H l = none
theorem nTbl_ne {o : HO} (h : nTbl o) (ps : Array Value) : o ≠ .tbl ps := fun e => by rw [e] at h; exact h
theorem Sm.k {T : Tb} {H H' : Hp} (s : Sm T H H') {b : Addr} {o : HO} (e : H b = some o) (n : nTbl o := by trivial) : H' b = some o := s.keep b o e n
theorem Sm.refl {T : Tb} {H : Hp} : Sm T H H := ⟨fun _ _ e _ => e, fun h => h, fun _ h => h⟩
theorem Sm.trans {T : Tb} {H H1 H2 : Hp} (a : Sm T H H1) (b : Sm T H1 H2) : Sm T H H2 := ⟨fun c o e n => b.keep c o (a.keep c o e n) n, fun h => b.ok (a.ok h), fun l h => a.free l (b.free l h)⟩
theorem Sm.seq {T : Tb} {K : PySem.W.Frag} {H H' : Hp} {a : Addr} {xs : List V} (e : Sm T H H') (h : SqL K H a xs) : SqL K H' a xs := by
  rcases h with (h | ⟨o, h⟩) | h
  · exact .inl (.inl (e.keep _ _ h trivial))
  · exact .inl (.inr ⟨o, e.keep _ _ h trivial⟩)
  · exact .inr h
theorem same_tup {T : Tb} {K : PySem.W.Frag} {H H' : Hp} {a : Addr} {xs : List V} (e : Sm T H H') (h : SqT K H a xs) : SqT K H' a xs := by
  rcases h with (h | ⟨o, h⟩) | h
  · exact .inl (.inl (e.keep _ _ h trivial))
  · exact .inl (.inr ⟨o, e.keep _ _ h trivial⟩)
  · exact .inr h
theorem Sm.lst {T : Tb} {H H' : Hp} {a : Addr} {xs : List V} (e : Sm T H H') (h : H a = some (.lst xs)) : H' a = some (.lst xs) := e.keep _ _ h trivial
theorem okP_ext {H H' : Hp} {p : Addr × Option Str} (h : OkP H p) (e : ∀ b o, H b = some o → H' b = some o) : OkP H' p := by
  obtain ⟨P, q⟩ := p
  cases q with
  | none =>
    obtain ⟨ps, h1, h2⟩ := (show GxR.TabG H P from h)
    exact ⟨ps, e _ _ h1, h2⟩
  | some q => exact LamX.TabS.ext (show LamX.TabS H P q from h) e
/-- the one list at p is changed -/
theorem okP_mut {H : Hp} {p : Addr × Option Str} {a : Addr} {o : HO} {xs : List V} (h : OkP H p) (ha : H a = some (.lst xs)) : OkP (upd H a o) p := by
  have k : ∀ b u, H b = some u → u ≠ .lst xs → upd H a o b = some u := fun b u e n => by
    rw [upd_ne (fun z => n (by rw [z, ha] at e; exact (Option.some.inj e).symm))]
    exact e
  obtain ⟨P, q⟩ := p
  cases q with
  | none =>
    obtain ⟨ps, h1, h2⟩ := (show GxR.TabG H P from h)
    exact ⟨ps, k _ _ h1 (fun z => by cases z), h2⟩
  | some q =>
    obtain ⟨ps, h1, h2, h3⟩ := (show LamX.TabS H P q from h)
    refine ⟨ps, k _ _ h1 (fun z => by cases z), h2, fun pos cv hc => ?_⟩
    obtain ⟨c, e1, e2⟩ := h3 pos cv hc
    exact ⟨c, e1, k _ _ e2 (fun z => by unfold LamX.CodeO at z; cases z)⟩
theorem same_upd {T : Tb} {H : Hp} {p : Addr} {o : HO} (h : H p = none) : Sm T H (upd H p o) := by
  have k : ∀ b x, H b = some x → upd H p o b = some x := fun b x e => by
    rw [upd_ne (ne_of_none e h)]
    exact e
  refine ⟨fun b x e _ => k b x e, fun h q hq => okP_ext (h q hq) k, fun l hl => ?_⟩
  cases q : H l with
  | none => rfl
  | some x => rw [k _ _ q] at hl; cases hl
theorem same_mut {T : Tb} {H H' : Hp} {p : Addr} {o : HO} {xs : List V} (e : Sm T H H') (h : H p = none) (hp : H' p = some (.lst xs)) : Sm T H (upd H' p o) := by
  refine ⟨fun b x q n => ?_, fun hk q hq => okP_mut (e.ok hk q hq) hp, fun l hl => ?_⟩
  · rw [upd_ne (ne_of_none q h)]
    exact e.keep b x q n
  · by_cases z : l = p
    · rw [z]; exact h
    · rw [upd_ne z] at hl
      exact e.free l hl
theorem seq_k {t u : TS} {D : Ends} {σ : L2.St} {H : Hp} (P : L2.St → Hp → Prop) (hu : ∀ σ' H', P σ' H' → u D σ' H') (h : (∀ σ' H', P σ' H' → u D σ' H') → tSeq t u D σ H) : tSeq t u D σ H := h hu
theorem seq_if {c : TT} {t1 t2 u : TS} {D : Ends} {σ : L2.St} {H : Hp} (P : L2.St → Hp → Prop) (hu : ∀ σ' H', P σ' H' → u D σ' H') (h : (∀ σ' H', P σ' H' → u D σ' H') → tSeq (tIfS c t1 t2) u D σ H) : tSeq (tIfS c t1 t2) u D σ H := h hu
theorem seq_as {te : TE} {g : TG} {u : TS} {D : Ends} {σ : L2.St} {H : Hp} (P : L2.St → Hp → Prop) (hu : ∀ σ' H', P σ' H' → u D σ' H') (h : (∀ σ' H', P σ' H' → u D σ' H') → tSeq (tAsg te g) u D σ H) : tSeq (tAsg te g) u D σ H := h hu
theorem sz {n : Nat} (h : n ≤ 10000) : n ≤ sizeLine := Nat.le_trans h (by decide)
theorem szl {n : Nat} (h : n < 10000) : n < sizeLine := Nat.lt_of_lt_of_le h (by decide)
/-! ### data -/
mutual
theorem dp_same {T : Tb} {K : PySem.W.Frag} {H H' : Hp} (e : Sm T H H') : ∀ (d : PyData) (v : V), Dp K H v d → Dp K H' v d
  | .none, _, h => by cases h; exact .non
  | .bool b, _, h => by cases h; exact .bl b
  | .int i, _, h => by cases h; exact .int i
  | .str x, _, h => by cases h; exact .str x
  | .list ds, _, h => by
    cases h with
    | lst hs ha => exact .lst (e.seq hs) (dpa_same e ds _ ha)
  | .tuple ds, _, h => by
    cases h with
    | tup hs ha => exact .tup (same_tup e hs) (dpa_same e ds _ ha)
  | .dict _, _, h => by cases h
theorem dpa_same {T : Tb} {K : PySem.W.Frag} {H H' : Hp} (e : Sm T H H') : ∀ (ds : List PyData) (vs : List V), DpAll K H vs ds → DpAll K H' vs ds
  | [], _, h => by cases h; exact .nil
  | d :: ds, _, h => by
    cases h with
    | cons h1 h2 => exact .cons (dp_same e d _ h1) (dpa_same e ds _ h2)
end
theorem dpa_len {K : PySem.W.Frag} {H : Hp} : ∀ {vs : List V} {ds : List PyData}, DpAll K H vs ds → vs.length = ds.length
  | _, [], h => by cases h; rfl
  | _, _ :: _, h => by
    cases h with
    | cons _ h2 => exact congrArg (· + 1) (dpa_len h2)
theorem dpa_get {K : PySem.W.Frag} {H : Hp} : ∀ {vs : List V} {ds : List PyData}, DpAll K H vs ds → ∀ {i : Nat} {d : PyData}, ds[i]? = some d → ∃ v, vs[i]? = some v ∧ Dp K H v d
  | _, [], h, i, d, e => by simp at e
  | _, d0 :: ds, h, 0, d, e => by
    cases h with
    | cons h1 h2 =>
      obtain rfl : d0 = d := Option.some.inj e
      exact ⟨_, rfl, h1⟩
  | _, d0 :: ds, h, i + 1, d, e => by
    cases h with
    | cons h1 h2 => exact dpa_get h2 (i := i) e
def depOk : Nat → PyData → Bool
  | _, .none => true
  | _, .bool _ => true
  | _, .int _ => true
  | _, .str _ => true
  | n + 1, .list ds => decide (ds.length ≤ 9000) && ds.all (depOk n)
  | n + 1, .tuple ds => decide (ds.length ≤ 9000) && ds.all (depOk n)
  | _, _ => false
def tyD : PyData → String
  | .none => "NoneType"
  | .bool _ => "bool"
  | .int _ => "int"
  | .str _ => "str"
  | .list _ => "list"
  | .tuple _ => "tuple"
  | .dict _ => "dict"
theorem tyx_of {K : PySem.W.Frag} {H : Hp} : ∀ {d : PyData} {v : V}, Dp K H v d → TyX K H v (.type (tyD d))
  | _, _, .non => .base .non
  | _, _, .bl b => .base (.bl b)
  | _, _, .int i => .base (.int i)
  | _, _, .str x => .base (.str x)
  | _, _, .lst (.inl (.inl h)) _ => .base (.lst h)
  | _, _, .lst (.inl (.inr ⟨_, h⟩)) _ => .base (.frz h)
  | _, _, .lst (.inr ⟨_, _, _, h, c, _⟩) _ => .kList h c
  | _, _, .tup (.inl (.inl h)) _ => .base (.tup h)
  | _, _, .tup (.inl (.inr ⟨_, h⟩)) _ => .fTuple h
  | _, _, .tup (.inr ⟨_, _, _, h, c, _⟩) _ => .kTuple h c
theorem rep_all (n : Nat) : (List.replicate n true).all id = true := by
  induction n with
  | zero => rfl
  | succ n ih => rw [List.replicate_succ, List.all_cons, ih]; rfl
def rLen (K : PySem.W.Frag) : List V → Hp → VK → Prop := fun xs H Q => ∃ p ys, xs = [.ref p] ∧ (SqL K H p ys ∨ SqT K H p ys) ∧ Q (.int ys.length) H
def rLst (K : PySem.W.Frag) : List V → Hp → VK → Prop := fun xs H Q => ∃ p ys, xs = [.ref p] ∧ (SqL K H p ys ∨ SqT K H p ys) ∧ ∀ (l : Addr), H l = none → Q (.ref l) (upd H l (.lst ys))
theorem call_list1 {X : Cx} : CallR X (.type "list") (rLst X.K) := call_list_of
theorem call_len1 {X : Cx} : CallR X (.builtin "len") (rLen X.K) := call_len_seq
theorem kb_bool_bool : kitB "bool" "bool" = some true := by decide +kernel
theorem kb_bool_int : kitB "bool" "int" = some true := by decide +kernel
theorem kb_bool_str : kitB "bool" "str" = some false := by decide +kernel
theorem kb_bool_list : kitB "bool" "list" = some false := by decide +kernel
theorem kb_bool_tuple : kitB "bool" "tuple" = some false := by decide +kernel
theorem kb_int_bool : kitB "int" "bool" = some false := by decide +kernel
theorem kb_int_int : kitB "int" "int" = some true := by decide +kernel
theorem kb_int_str : kitB "int" "str" = some false := by decide +kernel
theorem kb_int_list : kitB "int" "list" = some false := by decide +kernel
theorem kb_int_tuple : kitB "int" "tuple" = some false := by decide +kernel
theorem kb_str_bool : kitB "str" "bool" = some false := by decide +kernel
theorem kb_str_int : kitB "str" "int" = some false := by decide +kernel
theorem kb_str_str : kitB "str" "str" = some true := by decide +kernel
theorem kb_str_list : kitB "str" "list" = some false := by decide +kernel
theorem kb_str_tuple : kitB "str" "tuple" = some false := by decide +kernel
theorem kb_list_bool : kitB "list" "bool" = some false := by decide +kernel
theorem kb_list_int : kitB "list" "int" = some false := by decide +kernel
theorem kb_list_str : kitB "list" "str" = some false := by decide +kernel
theorem kb_list_list : kitB "list" "list" = some true := by decide +kernel
theorem kb_list_tuple : kitB "list" "tuple" = some false := by decide +kernel
theorem kb_tuple_bool : kitB "tuple" "bool" = some false := by decide +kernel
theorem kb_tuple_int : kitB "tuple" "int" = some false := by decide +kernel
theorem kb_tuple_str : kitB "tuple" "str" = some false := by decide +kernel
theorem kb_tuple_list : kitB "tuple" "list" = some false := by decide +kernel
theorem kb_tuple_tuple : kitB "tuple" "tuple" = some true := by decide +kernel
theorem kb_NoneType_bool : kitB "NoneType" "bool" = some false := by decide +kernel
theorem kb_NoneType_int : kitB "NoneType" "int" = some false := by decide +kernel
theorem kb_NoneType_str : kitB "NoneType" "str" = some false := by decide +kernel
theorem kb_NoneType_list : kitB "NoneType" "list" = some false := by decide +kernel
theorem kb_NoneType_tuple : kitB "NoneType" "tuple" = some false := by decide +kernel
theorem tyes_t {σ : L2.St} {H : Hp} {Q : Bool → Hp → Prop} (h : Q true H) : tYes σ H Q := h
theorem tyes_i {σ : L2.St} {H : Hp} {A B : Hp → Prop} (h : A H) : tYes σ H (fun b H3 => if b = true then A H3 else B H3) := iteT (A := A H) (B := B H) h
/-! ### draws -/
def Drawn : List Int → List Int → Prop
  | [], [] => True
  | d :: ds, q :: qs => (0 ≤ d ∧ d < q) ∧ Drawn ds qs
  | _, _ => False
theorem Drawn.cons {ds qs : List Int} {q : Int} (h : Drawn ds (q :: qs)) : ∃ d r, ds = d :: r ∧ 0 ≤ d ∧ d < q ∧ Drawn r qs := by
  cases ds with
  | nil => exact h.elim
  | cons d r => exact ⟨d, r, rfl, h.1.1, h.1.2, h.2⟩
theorem Drawn.nil {ds : List Int} (h : Drawn ds []) : ds = [] := by
  cases ds with
  | nil => rfl
  | cons d r => exact h.elim
theorem Drawn.snoc : ∀ {ds qs : List Int} {d q : Int}, Drawn ds qs → 0 ≤ d → d < q → Drawn (ds ++ [d]) (qs ++ [q])
  | [], [], _, _, _, h0, h1 => ⟨⟨h0, h1⟩, trivial⟩
  | [], _ :: _, _, _, h, _, _ => h.elim
  | _ :: _, [], _, _, h, _, _ => h.elim
  | _ :: _, _ :: _, _, _, h, h0, h1 => ⟨h.1, Drawn.snoc h.2 h0 h1⟩
theorem Drawn.length : ∀ {ds qs : List Int}, Drawn ds qs → ds.length = qs.length
  | [], [], _ => rfl
  | [], _ :: _, h => h.elim
  | _ :: _, [], h => h.elim
  | _ :: _, _ :: _, h => congrArg (· + 1) (Drawn.length h.2)
/-! ### amounts -/
abbrev Am := Int × Int
def tv (x : Am) : List V := [.int x.1, .int x.2]
def amt (n d : Int) : Am := ((if d < 0 then -n else n) / (Nat.gcd n.natAbs d.natAbs : Nat), (d.natAbs : Int) / (Nat.gcd n.natAbs d.natAbs : Nat))
theorem amD_dp {K : PySem.W.Frag} {H : Hp} {p : Addr} {x : Am} (h : SqT K H p (tv x)) : Dp K H (.ref p) (.tuple [.int x.1, .int x.2]) := .tup h (.cons (.int _) (.cons (.int _) .nil))
abbrev amD (x : Am) : PyData := .tuple [.int x.1, .int x.2]
theorem tup_dp {K : PySem.W.Frag} {H : Hp} {p : Addr} {x : Am} (h : H p = some (.tup (tv x))) : Dp K H (.ref p) (amD x) := amD_dp (SqT.of h)
theorem pd_at {K : PySem.W.Frag} {H : Hp} {v : V} {x : Am} (h : Dp K H v (amD x)) : ∃ b, v = .ref b ∧ SqT K H b (tv x) := by
  cases h with
  | tup hs ha =>
    cases ha with
    | cons h1 h2 =>
      cases h2 with
      | cons h3 h4 =>
        cases h4
        cases h1
        cases h3
        exact ⟨_, rfl, hs⟩
theorem dpa_app {K : PySem.W.Frag} {H : Hp} : ∀ {vs : List V} {ds : List PyData} {ws : List V} {es : List PyData}, DpAll K H vs ds → DpAll K H ws es → DpAll K H (vs ++ ws) (ds ++ es)
  | _, [], _, _, h, g => by cases h; exact g
  | _, _ :: _, _, _, h, g => by
    cases h with
    | cons h1 h2 => exact .cons h1 (dpa_app h2 g)
theorem dpa_take {K : PySem.W.Frag} {H : Hp} : ∀ {vs : List V} {ds : List PyData} (n : Nat), DpAll K H vs ds → DpAll K H (vs.take n) (ds.take n)
  | _, _, 0, _ => .nil
  | _, [], n + 1, h => by cases h; exact .nil
  | _, _ :: _, n + 1, h => by
    cases h with
    | cons h1 h2 => exact .cons h1 (dpa_take n h2)
theorem dpa_drop {K : PySem.W.Frag} {H : Hp} : ∀ {vs : List V} {ds : List PyData} (n : Nat), DpAll K H vs ds → DpAll K H (vs.drop n) (ds.drop n)
  | _, _, 0, h => h
  | _, [], n + 1, h => by cases h; exact .nil
  | _, _ :: _, n + 1, h => by
    cases h with
    | cons h1 h2 => exact dpa_drop n h2
/-- pairs stay where a list is changed -/
theorem pd_mut {K : PySem.W.Frag} {H : Hp} {v : V} {x : Am} {a : Addr} {o : HO} {xs : List V} (h : Dp K H v (amD x)) (ha : H a = some (.lst xs)) : Dp K (upd H a o) v (amD x) := by
  obtain ⟨b, rfl, hs⟩ := pd_at h
  refine amD_dp ?_
  rcases hs with (hs | ⟨u, hs⟩) | hs
  · exact .inl (.inl (by rw [upd_ne (ne_of hs ha (fun z => by cases z))]; exact hs))
  · exact .inl (.inr ⟨u, by rw [upd_ne (ne_of hs ha (fun z => by cases z))]; exact hs⟩)
  · exact .inr hs
theorem pds_mut {K : PySem.W.Frag} {H : Hp} {a : Addr} {o : HO} {xs : List V} (ha : H a = some (.lst xs)) : ∀ {vs : List V} {qs : List Am}, DpAll K H vs (qs.map amD) → DpAll K (upd H a o) vs (qs.map amD)
  | _, [], h => by cases h; exact .nil
  | _, _ :: _, h => by
    cases h with
    | cons h1 h2 => exact .cons (pd_mut h1 ha) (pds_mut ha h2)
theorem cut_take (xs : List V) (k : Nat) {z : Int} (hz : z = (k : Int)) : cutV xs none (some z) = xs.take k := by
  subst hz
  unfold cutV
  rw [HT.sIx_none, HT.sIx_nat, List.drop_zero, Nat.sub_zero]
  by_cases h : k ≤ xs.length
  · rw [Nat.min_eq_left h]
  · rw [Nat.min_eq_right (by omega), List.take_length, List.take_of_length_le (by omega)]
theorem cut_drop (xs : List V) (k : Nat) {z : Int} (hz : z = (k : Int)) : cutV xs (some z) none = xs.drop k := by
  subst hz
  unfold cutV
  rw [HT.sIx_none, HT.sIx_nat]
  by_cases h : k ≤ xs.length
  · rw [Nat.min_eq_left h, List.take_of_length_le (by rw [List.length_drop]; omega)]
  · rw [Nat.min_eq_right (by omega), List.drop_length, List.drop_of_length_le (by omega), List.take_nil]
theorem dpa_rep {K : PySem.W.Frag} {H : Hp} {vs : List V} {qs : List Am} (h : DpAll K H vs (qs.map amD)) : ∀ n, DpAll K H (List.replicate n vs).flatten (((List.replicate n qs).flatten).map amD)
  | 0 => .nil
  | n + 1 => by
    rw [List.replicate_succ, List.replicate_succ, List.flatten_cons, List.flatten_cons, List.map_append]
    exact dpa_app h (dpa_rep h n)
theorem len_rep {α : Type} (l : List α) : ∀ n, ((List.replicate n l).flatten).length = n * l.length
  | 0 => by simp
  | n + 1 => by rw [List.replicate_succ, List.flatten_cons, List.length_append, len_rep l n, Nat.succ_mul, Nat.add_comm]
/-! ### told tuples in a list that grows -/
def noL : Nat → PyData → Bool
  | _, .none => true
  | _, .bool _ => true
  | _, .int _ => true
  | _, .str _ => true
  | n + 1, .tuple ds => ds.all (noL n)
  | _, _ => false
theorem sqT_mut {K : PySem.W.Frag} {H : Hp} {t a : Addr} {o : HO} {xs ys : List V} (hs : SqT K H t ys) (ha : H a = some (.lst xs)) : SqT K (upd H a o) t ys := by
  rcases hs with (hs | ⟨u, hs⟩) | hs
  · exact .inl (.inl (by rw [upd_ne (ne_of hs ha (fun z => by cases z))]; exact hs))
  · exact .inl (.inr ⟨u, by rw [upd_ne (ne_of hs ha (fun z => by cases z))]; exact hs⟩)
  · exact .inr hs
mutual
theorem noL_mut {K : PySem.W.Frag} {H : Hp} {a : Addr} {o : HO} {xs : List V} (ha : H a = some (.lst xs)) : ∀ (n : Nat) (d : PyData) (v : V), noL n d = true → Dp K H v d → Dp K (upd H a o) v d
  | _, .none, _, _, h => by cases h; exact .non
  | _, .bool b, _, _, h => by cases h; exact .bl b
  | _, .int i, _, _, h => by cases h; exact .int i
  | _, .str x, _, _, h => by cases h; exact .str x
  | 0, .tuple _, _, e, _ => by cases e
  | n + 1, .tuple ds, _, e, h => by
    cases h with
    | tup hs hall => exact .tup (sqT_mut hs ha) (noLs_mut ha n ds _ e hall)
  | 0, .list _, _, e, _ => by cases e
  | _ + 1, .list _, _, e, _ => by cases e
  | 0, .dict _, _, e, _ => by cases e
  | _ + 1, .dict _, _, e, _ => by cases e
theorem noLs_mut {K : PySem.W.Frag} {H : Hp} {a : Addr} {o : HO} {xs : List V} (ha : H a = some (.lst xs)) : ∀ (n : Nat) (ds : List PyData) (vs : List V), ds.all (noL n) = true → DpAll K H vs ds → DpAll K (upd H a o) vs ds
  | _, [], _, _, h => by cases h; exact .nil
  | n, d :: ds, _, e, h => by
    cases h with
    | cons h1 h2 =>
      rw [List.all_cons, Bool.and_eq_true] at e
      exact .cons (noL_mut ha n d _ e.1 h1) (noLs_mut ha n ds _ e.2 h2)
end
/-- the list at fo holds ds -/
def Fd (K : PySem.W.Frag) (H : Hp) (fo : Addr) (ds : List PyData) : Prop := ∃ ts, H fo = some (.lst ts) ∧ DpAll K H ts ds
theorem Fd.keep {T : Tb} {K : PySem.W.Frag} {H H' : Hp} {fo : Addr} {ds : List PyData} (h : Fd K H fo ds) (s : Sm T H H') : Fd K H' fo ds := by
  obtain ⟨ts, h1, h2⟩ := h
  exact ⟨ts, s.k h1, dpa_same s _ _ h2⟩
theorem Fd.push {K : PySem.W.Frag} {H : Hp} {fo : Addr} {ds : List PyData} {ts : List V} {d : PyData} {v : V} (h1 : H fo = some (.lst ts)) (h2 : DpAll K H ts ds) (hv : Dp K H v d) (n1 : ds.all (noL 3) = true := by rfl) (n2 : noL 3 d = true := by rfl) :
    Fd K (upd H fo (.lst (ts ++ [v]))) fo (ds ++ [d]) :=
  ⟨ts ++ [v], upd_same, dpa_app (noLs_mut h1 3 ds _ n1 h2) (.cons (noL_mut h1 3 d v n2 hv) .nil)⟩
theorem Fd.dp {K : PySem.W.Frag} {H : Hp} {fo : Addr} {ds : List PyData} (h : Fd K H fo ds) : Dp K H (.ref fo) (.list ds) := by
  obtain ⟨ts, h1, h2⟩ := h
  exact .lst (SqL.of h1) h2
theorem depOk_ams {qs : List Am} (h : qs.length ≤ 9000) : depOk 5 (.list (qs.map amD)) = true := by
  show (decide ((qs.map amD).length ≤ 9000) && (qs.map amD).all (depOk 4)) = true
  rw [List.length_map, decide_eq_true h, Bool.true_and, List.all_map]
  exact List.all_eq_true.mpr fun q _ => rfl

def topS (i : Nat) : Stmt := PySem.Challenge.pw_pailchain_k10_whole_walked_by_pieces.main.body.getD i (.Pass ⟨0, 0, 0, 0⟩)
abbrev s_p_common_divisor : Stmt := topS 1
theorem sc_p_common_divisor : FnScope ["one", "other"] ["one", "other"] (defScope s_p_common_divisor) := ⟨rfl, rfl, rfl, by decide +kernel, rfl, by decide +kernel, by decide +kernel⟩
abbrev s_p_amount : Stmt := topS 2
theorem sc_p_amount : FnScope ["num", "den", "shared"] ["num", "den"] (defScope s_p_amount) := ⟨rfl, rfl, rfl, by decide +kernel, rfl, by decide +kernel, by decide +kernel⟩
abbrev s_p_plus : Stmt := topS 3
theorem sc_p_plus : FnScope ["one", "other"] ["one", "other"] (defScope s_p_plus) := ⟨rfl, rfl, rfl, by decide +kernel, rfl, by decide +kernel, by decide +kernel⟩
abbrev s_p_times : Stmt := topS 4
theorem sc_p_times : FnScope ["one", "other"] ["one", "other"] (defScope s_p_times) := ⟨rfl, rfl, rfl, by decide +kernel, rfl, by decide +kernel, by decide +kernel⟩
abbrev s_l_cell : Stmt := topS 9
theorem sc_l_cell : FnScope ["_law_script", "_law_k"] ["_law_script", "_law_k"] (defScope s_l_cell) := ⟨rfl, rfl, rfl, by decide +kernel, rfl, by decide +kernel, by decide +kernel⟩
abbrev s_l_draws : Stmt := topS 10
theorem sc_l_draws : FnScope ["_law_cell_here", "_law_parts", "_law_one", "_law_two", "_law_six", "_law_found", "_law_part"] ["_law_cell_here", "_law_parts"] (defScope s_l_draws) := ⟨rfl, rfl, rfl, by decide +kernel, rfl, by decide +kernel, by decide +kernel⟩
abbrev s_l_split : Stmt := topS 11
theorem sc_l_split : FnScope ["_law_cell_here", "_law_many_here", "_law_found", "_law_big", "_law_k"] ["_law_cell_here", "_law_many_here"] (defScope s_l_split) := ⟨rfl, rfl, rfl, by decide +kernel, rfl, by decide +kernel, by decide +kernel⟩
abbrev s_l_many : Stmt := topS 12
theorem sc_l_many : FnScope ["_law_script", "_law_few"] ["_law_script", "_law_few"] (defScope s_l_many) := ⟨rfl, rfl, rfl, by decide +kernel, rfl, by decide +kernel, by decide +kernel⟩
abbrev s_p_speeds : Stmt := topS 6
theorem sc_p_speeds : FnScope ["paces", "places", "found", "at", "speed"] ["paces", "places"] (defScope s_p_speeds) := ⟨rfl, rfl, rfl, by decide +kernel, rfl, by decide +kernel, by decide +kernel⟩
abbrev s_l_same : Stmt := topS 13
theorem sc_l_same : FnScope ["_law_found", "_law_due", "_law_k"] ["_law_found", "_law_due"] (defScope s_l_same) := ⟨rfl, rfl, rfl, by decide +kernel, rfl, by decide +kernel, by decide +kernel⟩
abbrev s_l_gcd : Stmt := topS 14
theorem sc_l_gcd : FnScope ["_law_one", "_law_other"] ["_law_one", "_law_other"] (defScope s_l_gcd) := ⟨rfl, rfl, rfl, by decide +kernel, rfl, by decide +kernel, by decide +kernel⟩
abbrev s_l_amt : Stmt := topS 15
theorem sc_l_amt : FnScope ["_law_num", "_law_den", "_law_by_here"] ["_law_num", "_law_den"] (defScope s_l_amt) := ⟨rfl, rfl, rfl, by decide +kernel, rfl, by decide +kernel, by decide +kernel⟩
abbrev s_l_add : Stmt := topS 16
theorem sc_l_add : FnScope ["_law_one", "_law_other"] ["_law_one", "_law_other"] (defScope s_l_add) := ⟨rfl, rfl, rfl, by decide +kernel, rfl, by decide +kernel, by decide +kernel⟩
abbrev s_l_sub : Stmt := topS 17
theorem sc_l_sub : FnScope ["_law_one", "_law_other"] ["_law_one", "_law_other"] (defScope s_l_sub) := ⟨rfl, rfl, rfl, by decide +kernel, rfl, by decide +kernel, by decide +kernel⟩
abbrev s_l_by : Stmt := topS 18
theorem sc_l_by : FnScope ["_law_one", "_law_number"] ["_law_one", "_law_number"] (defScope s_l_by) := ⟨rfl, rfl, rfl, by decide +kernel, rfl, by decide +kernel, by decide +kernel⟩
abbrev s_l_mul : Stmt := topS 19
theorem sc_l_mul : FnScope ["_law_one", "_law_number"] ["_law_one", "_law_number"] (defScope s_l_mul) := ⟨rfl, rfl, rfl, by decide +kernel, rfl, by decide +kernel, by decide +kernel⟩
abbrev s_l_less : Stmt := topS 20
theorem sc_l_less : FnScope ["_law_one", "_law_other"] ["_law_one", "_law_other"] (defScope s_l_less) := ⟨rfl, rfl, rfl, by decide +kernel, rfl, by decide +kernel, by decide +kernel⟩
abbrev s_l_rates : Stmt := topS 21
theorem sc_l_rates : FnScope ["_law_paces", "_law_places", "_law_found", "_law_at", "_law_rate"] ["_law_paces", "_law_places"] (defScope s_l_rates) := ⟨rfl, rfl, rfl, by decide +kernel, rfl, by decide +kernel, by decide +kernel⟩
abbrev s_l_until : Stmt := topS 22
theorem sc_l_until : FnScope ["_law_length", "_law_paces", "_law_places", "_law_rates_here", "_law_least", "_law_at", "_law_hours"] ["_law_length", "_law_paces", "_law_places"] (defScope s_l_until) := ⟨rfl, rfl, rfl, by decide +kernel, rfl, by decide +kernel, by decide +kernel⟩
abbrev s_l_standing : Stmt := topS 23
theorem sc_l_standing : FnScope ["_law_cell_here", "_law_drawn", "_law_many_here", "_law_paces", "_law_place", "_law_places", "_law_k", "_law_one"] ["_law_cell_here"] (defScope s_l_standing) := ⟨rfl, rfl, rfl, by decide +kernel, rfl, by decide +kernel, by decide +kernel⟩
abbrev s_p_walked : Stmt := topS 7
theorem sc_p_walked : FnScope ["paces", "places", "hours", "going", "place", "speed"] ["paces", "places", "hours"] (defScope s_p_walked) := ⟨rfl, rfl, rfl, by decide +kernel, rfl, by decide +kernel, by decide +kernel⟩
abbrev s_LAW : Stmt := topS 24
theorem sc_LAW : FnScope ["_law_script", "_law_k", "_law_first", "_law_second", "_law_length", "_law_paces", "_law_places", "_law_num", "_law_den", "_law_cut", "_law_hours", "_law_rates_here", "_law_due", "_law_handed", "_law_found", "_law_part", "_law_half", "_law_at"] ["_law_script"] (defScope s_LAW) := ⟨rfl, rfl, rfl, by decide +kernel, rfl, by decide +kernel, by decide +kernel⟩
structure Bn (mg : Str → Option Value) : Prop where
  abs_ : mg "abs" = none
  all_ : mg "all" = none
  bool_ : mg "bool" = none
  int_ : mg "int" = none
  isinstance_ : mg "isinstance" = none
  len_ : mg "len" = none
  list_ : mg "list" = none
  max_ : mg "max" = none
  min_ : mg "min" = none
  range_ : mg "range" = none
  reversed_ : mg "reversed" = none
  str_ : mg "str" = none
  sum_ : mg "sum" = none
  tuple_ : mg "tuple" = none
  zip_ : mg "zip" = none

theorem gcd_cut {a b : Nat} (hb : 0 < b) : ∃ g x y : Nat, 0 < g ∧ g = Nat.gcd a b ∧ a = g * x ∧ b = g * y ∧ 0 < y ∧ Nat.gcd x y = 1 := by
  have hg : 0 < Nat.gcd a b := Nat.gcd_pos_of_pos_right _ hb
  obtain ⟨x, hx⟩ := Nat.gcd_dvd_left a b
  obtain ⟨y, hy⟩ := Nat.gcd_dvd_right a b
  refine ⟨Nat.gcd a b, x, y, hg, rfl, hx, hy, ?_, ?_⟩
  · cases y with
    | zero => rw [Nat.mul_zero] at hy; omega
    | succ n => exact Nat.succ_pos n
  · have e : Nat.gcd a b * Nat.gcd x y = Nat.gcd a b * 1 := by
      have h2 : Nat.gcd (Nat.gcd a b * x) (Nat.gcd a b * y) = Nat.gcd a b * Nat.gcd x y := Nat.gcd_mul_left _ _ _
      rw [← hx, ← hy] at h2
      rw [← h2, Nat.mul_one]
    exact Nat.eq_of_mul_eq_mul_left hg e
/-- an amount in lowest terms -/
def Low (x : Int × Int) : Prop := 0 < x.2 ∧ Nat.gcd x.1.natAbs x.2.natAbs = 1
theorem amt_spec {n d : Int} (hd : d ≠ 0) : Low (amt n d) ∧ (amt n d).1 * d = n * (amt n d).2 ∧ (amt n d).1.natAbs ≤ n.natAbs ∧ (amt n d).2.natAbs ≤ d.natAbs := by
  obtain ⟨g, x, y, hg, eg, ex, ey, hy, h1⟩ := gcd_cut (a := n.natAbs) (b := d.natAbs) (by omega)
  have gi : ((g : Nat) : Int) ≠ 0 := by omega
  have e2 : (amt n d).2 = (y : Int) := by
    show ((d.natAbs : Nat) : Int) / ((Nat.gcd n.natAbs d.natAbs : Nat) : Int) = _
    rw [← eg, ey, Int.natCast_mul, Int.mul_ediv_cancel_left _ gi]
  have hyd : d.natAbs ≥ y := by
    rw [ey]; exact Nat.le_mul_of_pos_left _ hg
  have hxn : n.natAbs ≥ x := by
    rw [ex]; exact Nat.le_mul_of_pos_left _ hg
  have exi : ((n.natAbs : Nat) : Int) = (g : Int) * (x : Int) := by rw [ex, Int.natCast_mul]
  have eyi : ((d.natAbs : Nat) : Int) = (g : Int) * (y : Int) := by rw [ey, Int.natCast_mul]
  have main : ∀ (s : Int), (s = 1 ∨ s = -1) → (if d < 0 then -n else n) = s * ((g : Int) * (x : Int)) → (n = s * ((g : Int) * (x : Int)) ∧ d = (g : Int) * (y : Int) ∨ n = -(s * ((g : Int) * (x : Int))) ∧ d = -((g : Int) * (y : Int))) →
      Low (amt n d) ∧ (amt n d).1 * d = n * (amt n d).2 ∧ (amt n d).1.natAbs ≤ n.natAbs ∧ (amt n d).2.natAbs ≤ d.natAbs := by
    intro s hs e hnd
    have e1 : (amt n d).1 = s * (x : Int) := by
      show (if d < 0 then -n else n) / ((Nat.gcd n.natAbs d.natAbs : Nat) : Int) = _
      rw [← eg, e, Int.mul_left_comm, Int.mul_ediv_cancel_left _ gi]
    have ab : (s * (x : Int)).natAbs = x := by
      rcases hs with rfl | rfl
      · rw [Int.one_mul, Int.natAbs_natCast]
      · rw [Int.neg_mul, Int.one_mul, Int.natAbs_neg, Int.natAbs_natCast]
    refine ⟨⟨by rw [e2]; omega, ?_⟩, ?_, ?_, ?_⟩
    · rw [e1, e2, ab, Int.natAbs_natCast]; exact h1
    · rw [e1, e2]
      rcases hnd with ⟨a, b⟩ | ⟨a, b⟩
      · rw [a, b, Int.mul_assoc, Int.mul_assoc, Int.mul_left_comm (x : Int) (g : Int) (y : Int), Int.mul_assoc]
      · rw [a, b, Int.mul_neg, Int.neg_mul, Int.mul_assoc, Int.mul_assoc, Int.mul_left_comm (x : Int) (g : Int) (y : Int), Int.mul_assoc]
    · rw [e1, ab]; exact hxn
    · rw [e2, Int.natAbs_natCast]; exact hyd
  by_cases hdn : d < 0
  · by_cases hnn : n < 0
    · exact main 1 (.inl rfl) (by rw [if_pos hdn, Int.one_mul]; omega) (.inr ⟨by rw [Int.one_mul]; omega, by omega⟩)
    · exact main (-1) (.inr rfl) (by rw [if_pos hdn, Int.neg_mul, Int.one_mul]; omega) (.inr ⟨by rw [Int.neg_mul, Int.one_mul]; omega, by omega⟩)
  · by_cases hnn : n < 0
    · exact main (-1) (.inr rfl) (by rw [if_neg hdn, Int.neg_mul, Int.one_mul]; omega) (.inl ⟨by rw [Int.neg_mul, Int.one_mul]; omega, by omega⟩)
    · exact main 1 (.inl rfl) (by rw [if_neg hdn, Int.one_mul]; omega) (.inl ⟨by rw [Int.one_mul]; omega, by omega⟩)
/-- two amounts in lowest terms of the same worth are the same -/
theorem low_eq {x y : Int × Int} (hx : Low x) (hy : Low y) (e : x.1 * y.2 = y.1 * x.2) : x = y := by
  obtain ⟨a, b⟩ := x
  obtain ⟨c, d⟩ := y
  obtain ⟨hb, g1⟩ := hx
  obtain ⟨hd, g2⟩ := hy
  simp only at hb g1 hd g2 e
  have en : a.natAbs * d.natAbs = c.natAbs * b.natAbs := by rw [← Int.natAbs_mul, ← Int.natAbs_mul, e]
  have h1 : b.natAbs ∣ d.natAbs := by
    have : b.natAbs ∣ a.natAbs * d.natAbs := ⟨c.natAbs, by rw [en, Nat.mul_comm]⟩
    exact Nat.Coprime.dvd_of_dvd_mul_left (show Nat.Coprime b.natAbs a.natAbs by rw [Nat.Coprime, Nat.gcd_comm]; exact g1) this
  have h2 : d.natAbs ∣ b.natAbs := by
    have : d.natAbs ∣ c.natAbs * b.natAbs := ⟨a.natAbs, by rw [← en, Nat.mul_comm]⟩
    exact Nat.Coprime.dvd_of_dvd_mul_left (show Nat.Coprime d.natAbs c.natAbs by rw [Nat.Coprime, Nat.gcd_comm]; exact g2) this
  have h3 : b.natAbs = d.natAbs := Nat.dvd_antisymm h1 h2
  have h4 : b = d := by omega
  subst h4
  have h5 : a = c := Int.eq_of_mul_eq_mul_right (by omega) e
  rw [h5]
theorem amt_low {x : Int × Int} (h : Low x) : amt x.1 x.2 = x := by
  have s := amt_spec (n := x.1) (d := x.2) (by have := h.1; omega)
  exact low_eq s.1 h s.2.1
theorem amt_eq {n d m e : Int} (hd : d ≠ 0) (he : e ≠ 0) (h : n * e = m * d) : amt n d = amt m e := by
  have s := amt_spec (n := n) (d := d) hd
  have t := amt_spec (n := m) (d := e) he
  refine low_eq s.1 t.1 ?_
  -- (amt n d).1 * d = n * (amt n d).2 ; (amt m e).1 * e = m * (amt m e).2
  have key : ((amt n d).1 * (amt m e).2) * (d * e) = ((amt m e).1 * (amt n d).2) * (d * e) := by
    calc ((amt n d).1 * (amt m e).2) * (d * e) = ((amt n d).1 * d) * ((amt m e).2 * e) := by ac_rfl
      _ = (n * (amt n d).2) * ((amt m e).2 * e) := by rw [s.2.1]
      _ = (n * e) * ((amt n d).2 * (amt m e).2) := by ac_rfl
      _ = (m * d) * ((amt n d).2 * (amt m e).2) := by rw [h]
      _ = (m * (amt m e).2) * ((amt n d).2 * d) := by ac_rfl
      _ = ((amt m e).1 * e) * ((amt n d).2 * d) := by rw [t.2.1]
      _ = ((amt m e).1 * (amt n d).2) * (d * e) := by ac_rfl
  exact Int.eq_of_mul_eq_mul_right (Int.mul_ne_zero hd he) key

section
variable {P : Program} {w : World} {K : PySem.W.Frag} {T : Tb} {mg : Str → Option Value} {base : Heap}
def sp_p_common_divisor (K : PySem.W.Frag) (T : Tb) : Sp := fun vs H Q _ => ∃ a b : Nat, vs = [.int a, .int b] ∧ Q (.int (Nat.gcd a b : Nat)) H
theorem ok_p_common_divisor {f : Addr} {fd : FuncData} (F : Fun K "common_divisor" "common_divisor" s_p_common_divisor f fd) : FnOk P w K mg base CX0 1 f fd ["one", "other"] (sp_p_common_divisor K T) := by
  refine F.ok sc_p_common_divisor (fun vs H Q E h => ?_) (fun cdv A outer s H vs Q E hr h => ?_)
  · obtain ⟨a, b, rfl, _⟩ := h
    rfl
  · obtain ⟨a, b, rfl, q⟩ := h
    refine ⟨_, (pss_cons (ps_while PassesOwn.never (pt_truth (pv 1) (by intro _; rfl)) (pss_one (ps_par (i := 0) (j := 1) (by rfl) sc_p_common_divisor.nd rfl rfl (by decide) rfl rfl (pa_cons (pv 1) (pa_cons (pe_op op_mod (pv 0) (pv 1)) pa_nil)) (by rfl))))
      (pss_one (ps_ret (pv 0)))), ?_⟩
    refine while_by (fun σ H' => ∃ x y : Nat, σ = [some (.int x), some (.int y)] ∧ H' = H ∧ Nat.gcd x y = Nat.gcd a b) (fun σ _ => match σ with | [_, some (.int y)] => y.toNat | _ => 0) ⟨a, b, rfl, rfl, rfl⟩ ?_ ?_
    · rintro σ H' ⟨x, y, rfl, rfl, hg⟩
      refine ⟨_, rfl, _, rfl, ite2 (fun e => ?_) (fun e => ?_)⟩
      · have hy : 0 < y := by
          cases y with
          | zero => cases e
          | succ n => exact Nat.succ_pos n
        refine ⟨_, rfl, _, rfl, _, rfl, _, _, rfl, rfl, (by show (0 : Int) < (y : Int); omega), _, _, rfl, ⟨y, x % y, ?_, rfl, ?_⟩, ?_⟩
        · show [some (V.int y), some (V.int ((x : Int) % (y : Int)))] = _
          rw [Int.natCast_emod]
        · rw [← hg, Nat.gcd_comm x y, Nat.gcd_rec y x, Nat.gcd_comm]
        · show ((x : Int) % (y : Int)).toNat < (y : Int).toNat
          rw [← Int.natCast_emod, Int.toNat_natCast, Int.toNat_natCast]
          exact Nat.mod_lt _ hy
      · have hy : y = 0 := by
          cases y with
          | zero => rfl
          | succ n => exact absurd rfl e
        subst hy
        refine ⟨_, rfl, ?_⟩
        rw [← hg, Nat.gcd_zero_right] at q
        exact q
    · rintro σ H Q Q' m ⟨v, e, k, t, q⟩
      exact ⟨v, e, k, t, m _ _ q⟩

def sp_p_amount (K : PySem.W.Frag) (T : Tb) : Sp := fun vs H Q _ => ∃ n d : Int, vs = [.int n, .int d] ∧ d ≠ 0 ∧ d.natAbs < 2 ^ 8900 ∧ ∀ p H', Sm T H H' → H p = none → H' p = some (.tup (tv (amt n d))) → Q (.ref p) H'
theorem gcd_bound {n d : Int} (hd : d ≠ 0) (hb : d.natAbs < 2 ^ 8900) : 0 < Nat.gcd n.natAbs d.natAbs ∧ (Nat.gcd n.natAbs d.natAbs) < 2 ^ 8900 :=
  ⟨Nat.gcd_pos_of_pos_right _ (by omega), Nat.lt_of_le_of_lt (Nat.gcd_le_right _ (by omega)) hb⟩
theorem ok_p_amount {f : Addr} {fd : FuncData} (F : Fun K "amount" "amount" s_p_amount f fd) (B : Bn mg) (F_p_common_divisor : Fn P w K mg base 1 "common_divisor" ["one", "other"] (sp_p_common_divisor K T)) : FnOk P w K mg base CX0 2 f fd ["num", "den"] (sp_p_amount K T) := by
  refine F.ok sc_p_amount (fun vs H Q E h => ?_) (fun cdv A outer s H vs Q E hr h => ?_)
  · obtain ⟨n, d, rfl, _⟩ := h
    rfl
  · obtain ⟨n, d, rfl, hd, hb, q⟩ := h
    refine ⟨_, (pss_cons (ps_if (pt_cmpR op_lt (pv 1) pe_int (nomark _)) (pss_one (ps_par (i := 0) (j := 1) (by rfl) sc_p_amount.nd rfl rfl (by decide) rfl rfl (pa_cons (pe_un un_neg (pv 0)) (pa_cons (pe_un un_neg (pv 1)) pa_nil)) (by rfl))) pss_nil)
      (pss_cons (ps_set (i := 2) sc_p_amount.nd rfl (.inl rfl) (pe_fn F_p_common_divisor (hr.mono (by decide)) (pa_cons (pe_callB call_abs (by rfl) B.abs_ (by decide +kernel) (pa_cons (pv 0) pa_nil)) (pa_cons (pv 1) pa_nil))))
      (pss_one (ps_ret (pe_tup (pa_cons (pe_op op_fdivW (pv 0) (pv 2)) (pa_cons (pe_op op_fdivW (pv 1) (pv 2)) pa_nil))))))), ?_⟩
    have hg := gcd_bound (n := n) hd hb
    refine seq_if (fun σ' H' => H' = H ∧ σ' = [some (.int (if d < 0 then -n else n)), some (.int d.natAbs), none]) (fun σ' H' p => ?_) (fun k => ?_)
    · obtain ⟨rfl, rfl⟩ := p
      refine ⟨_, rfl, _, rfl, _, rfl, n.natAbs, d.natAbs, ?_, ?_⟩
      · have : (if (if d < 0 then -n else n) < 0 then -(if d < 0 then -n else n) else (if d < 0 then -n else n)) = (n.natAbs : Int) := by split <;> split <;> omega
        rw [this] <;> rfl
      · refine ⟨_, rfl, _, rfl, _, _, rfl, rfl, wide_div (b := 8900) (by omega) (by rw [Int.natAbs_natCast]; exact hg.2) (by decide) (by decide), ?_⟩
        refine ⟨_, rfl, _, rfl, _, _, rfl, rfl, wide_div (b := 8900) (by omega) (by rw [Int.natAbs_natCast]; exact hg.2) (by decide) (by decide), ?_⟩
        refine ⟨by show 2 ≤ sizeLine; decide, fun p hp => ?_⟩
        exact q p _ (same_upd hp) hp upd_same
    · refine ⟨_, rfl, _, _, rfl, rfl, _, rfl, ite2 (fun e => ?_) (fun e => ?_)⟩
      · have e' : d < 0 := of_decide_eq_true e
        refine ⟨_, rfl, _, rfl, _, rfl, _, rfl, _, _, rfl, ?_⟩
        refine k _ _ ⟨rfl, ?_⟩
        rw [if_pos e', show ((d.natAbs : Nat) : Int) = -d by omega]
        all_goals rfl
      · have e' : ¬ d < 0 := fun z => e (decide_eq_true z)
        refine k _ _ ⟨rfl, ?_⟩
        rw [if_neg e', show ((d.natAbs : Nat) : Int) = d by omega]
        all_goals rfl

def Bd (n : Nat) (x : Am) : Prop := x.1.natAbs < 2 ^ n ∧ x.2.natAbs < 2 ^ n
theorem Bd.mono {n m : Nat} {x : Am} (h : Bd n x) (e : n ≤ m) : Bd m x := ⟨Nat.lt_of_lt_of_le h.1 (Nat.pow_le_pow_right (by decide) e), Nat.lt_of_lt_of_le h.2 (Nat.pow_le_pow_right (by decide) e)⟩
def plusA (x y : Am) : Am := amt (x.1 * y.2 + y.1 * x.2) (x.2 * y.2)
def minusA (x y : Am) : Am := amt (x.1 * y.2 - y.1 * x.2) (x.2 * y.2)
def timesA (x y : Am) : Am := amt (x.1 * y.1) (x.2 * y.2)
def overA (x y : Am) : Am := amt (x.1 * y.2) (x.2 * y.1)
def belowA (x y : Am) : Bool := decide (x.1 * y.2 < y.1 * x.2)
def spBin (pre : Am → Am → Prop) (g : Am → Am → Am) (K : PySem.W.Frag) (T : Tb) : Sp := fun vs H Q _ => ∃ a b x y, vs = [.ref a, .ref b] ∧ SqT K H a (tv x) ∧ SqT K H b (tv y) ∧ (Bd 4000 x ∧ Bd 4000 y) ∧ pre x y ∧
  ∀ p H', Sm T H H' → H p = none → H' p = some (.tup (tv (g x y))) → Q (.ref p) H'
abbrev sp_p_plus : PySem.W.Frag → Tb → Sp := spBin (fun x y => 0 < x.2 ∧ 0 < y.2) plusA
abbrev sp_p_minus : PySem.W.Frag → Tb → Sp := spBin (fun x y => 0 < x.2 ∧ 0 < y.2) minusA
abbrev sp_p_times : PySem.W.Frag → Tb → Sp := spBin (fun x y => 0 < x.2 ∧ 0 < y.2) timesA
abbrev sp_p_over : PySem.W.Frag → Tb → Sp := spBin (fun x y => 0 < x.2 ∧ 0 < y.2 ∧ y.1 ≠ 0) overA
def sp_p_below (K : PySem.W.Frag) (T : Tb) : Sp := fun vs H Q _ => ∃ a b x y, vs = [.ref a, .ref b] ∧ SqT K H a (tv x) ∧ SqT K H b (tv y) ∧ (Bd 4000 x ∧ Bd 4000 y) ∧ Q (.bl (belowA x y)) H
theorem wm {i j : Int} (hi : i.natAbs < 2 ^ 4000) (hj : j.natAbs < 2 ^ 4000) : CMulW i j := wide_mul hi hj (by decide) (by decide) (by decide)
theorem wl {i j : Int} (hi : i.natAbs < 2 ^ 4000) (hj : j.natAbs < 2 ^ 4000) : (i * j).natAbs < 2 ^ 8900 := Nat.lt_trans (wide_lt hi hj) (Nat.pow_lt_pow_right (by decide) (by decide))

/-! ### amounts as rationals -/
def am (r : Rat) : Am := (r.num, (r.den : Int))
def vl (x : Am) : Rat := (x.1 : Rat) / (x.2 : Rat)
theorem am_low (r : Rat) : Low (am r) := ⟨by have := r.den_nz; show (0 : Int) < (r.den : Int); omega, by show Nat.gcd r.num.natAbs ((r.den : Int)).natAbs = 1; rw [Int.natAbs_natCast]; exact r.reduced⟩
theorem am_pos (r : Rat) : 0 < (am r).2 := (am_low r).1
theorem vl_am (r : Rat) : vl (am r) = r := by
  show (r.num : Rat) / ((r.den : Int) : Rat) = r
  have := Rat.num_divInt_den r
  rw [Rat.divInt_eq_div] at this
  exact this
theorem ci {a b : Int} (h : (a : Rat) = (b : Rat)) : a = b := Rat.intCast_inj.mp h
theorem cn {a : Int} (h : a ≠ 0) : (a : Rat) ≠ 0 := fun z => h (ci z)
theorem cp {a : Int} (h : 0 < a) : (0 : Rat) < (a : Rat) := Rat.intCast_pos.mpr h
theorem vl_eq {x y : Am} (hx : Low x) (hy : Low y) (e : vl x = vl y) : x = y := by
  refine low_eq hx hy (ci ?_)
  have h1 := cn (a := x.2) (by have := hx.1; omega)
  have h2 := cn (a := y.2) (by have := hy.1; omega)
  unfold vl at e
  rw [Rat.intCast_mul, Rat.intCast_mul]
  grind
theorem am_vl {x : Am} (hx : Low x) : am (vl x) = x := vl_eq (am_low _) hx (vl_am _)
theorem am_inj {a b : Rat} (h : am a = am b) : a = b := by rw [← vl_am a, h, vl_am]
theorem vl_amt {n d : Int} (hd : d ≠ 0) : vl (amt n d) = (n : Rat) / (d : Rat) := by
  have s := amt_spec (n := n) hd
  have h1 := cn (a := (amt n d).2) (by have := s.1.1; omega)
  have h2 := cn hd
  have e : (((amt n d).1 * d : Int) : Rat) = ((n * (amt n d).2 : Int) : Rat) := by rw [s.2.1]
  rw [Rat.intCast_mul, Rat.intCast_mul] at e
  unfold vl
  grind
theorem amt_am {n d : Int} (hd : d ≠ 0) : amt n d = am ((n : Rat) / (d : Rat)) := by
  rw [← vl_amt hd, am_vl (amt_spec hd).1]
theorem vle (x : Am) : vl x = (x.1 : Rat) / (x.2 : Rat) := rfl
theorem plus_am (a b : Rat) : plusA (am a) (am b) = am (a + b) := by
  have h1 := am_pos a
  have h2 := am_pos b
  unfold plusA
  rw [amt_am (by exact Int.mul_ne_zero (by omega) (by omega))]
  congr 1
  have e1 := vl_am a
  have e2 := vl_am b
  have k1 := cn (a := (am a).2) (by omega)
  have k2 := cn (a := (am b).2) (by omega)
  unfold vl at e1 e2
  rw [Rat.intCast_add, Rat.intCast_mul, Rat.intCast_mul, Rat.intCast_mul]
  grind
theorem minus_am (a b : Rat) : minusA (am a) (am b) = am (a - b) := by
  have h1 := am_pos a
  have h2 := am_pos b
  unfold minusA
  rw [amt_am (by exact Int.mul_ne_zero (by omega) (by omega))]
  congr 1
  have e1 := vl_am a
  have e2 := vl_am b
  have k1 := cn (a := (am a).2) (by omega)
  have k2 := cn (a := (am b).2) (by omega)
  unfold vl at e1 e2
  rw [Rat.intCast_sub, Rat.intCast_mul, Rat.intCast_mul, Rat.intCast_mul]
  grind
theorem times_am (a b : Rat) : timesA (am a) (am b) = am (a * b) := by
  have h1 := am_pos a
  have h2 := am_pos b
  unfold timesA
  rw [amt_am (by exact Int.mul_ne_zero (by omega) (by omega))]
  congr 1
  have e1 := vl_am a
  have e2 := vl_am b
  have k1 := cn (a := (am a).2) (by omega)
  have k2 := cn (a := (am b).2) (by omega)
  unfold vl at e1 e2
  rw [Rat.intCast_mul, Rat.intCast_mul]
  grind
theorem am_ne {b : Rat} (h : b ≠ 0) : (am b).1 ≠ 0 := fun z => h (by
  rw [← vl_am b]
  unfold vl
  rw [z]
  show (0 : Rat) / _ = 0
  grind)
theorem over_am (a b : Rat) (hb : b ≠ 0) : overA (am a) (am b) = am (a / b) := by
  have h1 := am_pos a
  have h2 := am_pos b
  have h3 := am_ne hb
  unfold overA
  rw [amt_am (by exact Int.mul_ne_zero (by omega) h3)]
  congr 1
  have e1 := vl_am a
  have e2 := vl_am b
  have k1 := cn (a := (am a).2) (by omega)
  have k2 := cn (a := (am b).2) (by omega)
  have k3 := cn h3
  unfold vl at e1 e2
  rw [Rat.intCast_mul, Rat.intCast_mul]
  grind
theorem below_am (a b : Rat) : belowA (am a) (am b) = decide (a < b) := by
  have h1 := am_pos a
  have h2 := am_pos b
  have k1 := cp h1
  have k2 := cp h2
  have e1 := vl_am a
  have e2 := vl_am b
  unfold belowA
  rw [decide_eq_decide, ← Rat.intCast_lt_intCast, Rat.intCast_mul, Rat.intCast_mul]
  unfold vl at e1 e2
  have f1 : ((am a).1 : Rat) = a * ((am a).2 : Rat) := by grind
  have f2 : ((am b).1 : Rat) = b * ((am b).2 : Rat) := by grind
  rw [f1, f2]
  have k3 := Rat.mul_pos k1 k2
  constructor
  · intro h
    by_cases z : a < b
    · exact z
    · have := Rat.mul_le_mul_of_nonneg_right (a := b) (b := a) (Rat.not_lt.mp z) (Rat.le_of_lt k3)
      grind
  · intro h
    have := Rat.mul_lt_mul_of_pos_right h k3
    grind
theorem am_int (z : Int) : am (z : Rat) = (z, 1) := by
  refine vl_eq (am_low _) ⟨by show (0 : Int) < 1; decide, by show Nat.gcd _ 1 = 1; exact Nat.gcd_one_right _⟩ ?_
  rw [vl_am]
  show (z : Rat) = (z : Rat) / ((1 : Int) : Rat)
  have : ((1 : Int) : Rat) = 1 := rfl
  rw [this]
  grind
theorem am_zero : am 0 = (0, 1) := am_int 0
theorem am_one : am 1 = (1, 1) := am_int 1
theorem am_eq_iff {a b : Rat} : am a = am b ↔ a = b := ⟨am_inj, fun h => by rw [h]⟩
theorem sub_nn {a b : Rat} (h : a < b) : 0 ≤ b - a := by grind
theorem sub_nn' {a b : Rat} (h : a ≤ b) : 0 ≤ b - a := by grind
theorem sub_le' {a b c : Rat} (h : b ≤ c) (h0 : 0 ≤ a) : b - a ≤ c := by grind
theorem neg_le {a c : Rat} (h : 0 ≤ a) (hc : 0 ≤ c) : -c ≤ a := by grind

/-! ### walking -/
def mnI (p q : Int) : Int := if q < p then q else p
def spd : List Int → List Rat → List Int
  | p :: ns, x :: xs => (match xs, spd ns xs with
      | y :: _, s :: _ => if x = y then mnI p s else p
      | _, _ => p) :: spd ns xs
  | _, _ => []
theorem spd_len : ∀ (ns : List Int) (xs : List Rat), ns.length = xs.length → (spd ns xs).length = ns.length
  | [], [], _ => rfl
  | [], _ :: _, h => by simp at h
  | _ :: _, [], h => by simp at h
  | p :: ns, x :: xs, h => by
    have := spd_len ns xs (by simpa using h)
    simp only [spd, List.length_cons, this]
theorem spd_step {ns : List Int} {xs : List Rat} (hl : ns.length = xs.length) {j : Nat} (hj : j < ns.length) :
    spd (ns.drop j) (xs.drop j) = (if h : j + 1 < ns.length then (if xs[j] = xs[j + 1] then mnI ns[j] ((spd (ns.drop (j + 1)) (xs.drop (j + 1))).headD 0) else ns[j]) else ns[j]) :: spd (ns.drop (j + 1)) (xs.drop (j + 1)) := by
  rw [List.drop_eq_getElem_cons hj, List.drop_eq_getElem_cons (show j < xs.length by omega)]
  by_cases h : j + 1 < ns.length
  · rw [dif_pos h]
    have e2 := List.drop_eq_getElem_cons (show j + 1 < xs.length by omega)
    have l := spd_len (ns.drop (j + 1)) (xs.drop (j + 1)) (by rw [List.length_drop, List.length_drop, hl])
    simp only [spd]
    cases hs : spd (ns.drop (j + 1)) (xs.drop (j + 1)) with
    | nil => rw [hs, List.length_drop] at l; simp at l; omega
    | cons s r =>
      rw [e2]
      simp
  · rw [dif_neg h]
    have e1 : ns.drop (j + 1) = [] := List.drop_eq_nil_of_le (by omega)
    have e2 : xs.drop (j + 1) = [] := List.drop_eq_nil_of_le (by omega)
    rw [e1, e2]
    simp [spd]
/-- the law's own -/
def ptl (x : Rat) : Int → List Int → List Rat → Int
  | p, q :: ns, y :: ys => ptl x (if y = x then mnI p q else p) ns ys
  | p, _, _ => p
theorem mnI_assoc (p q r : Int) : mnI (mnI p q) r = mnI p (mnI q r) := by unfold mnI; grind
theorem ptl_min (x : Rat) (p : Int) : ∀ (q : Int) (ns : List Int) (ys : List Rat), ptl x (mnI p q) ns ys = mnI p (ptl x q ns ys)
  | q, [], _ => by cases ‹List Rat› <;> rfl
  | q, _ :: _, [] => rfl
  | q, r :: ns, y :: ys => by
    simp only [ptl]
    by_cases h : y = x
    · rw [if_pos h, if_pos h, mnI_assoc, ptl_min x p]
    · rw [if_neg h, if_neg h, ptl_min x p]
theorem ptl_none (x : Rat) (p : Int) : ∀ (ns : List Int) (ys : List Rat), (∀ y ∈ ys, y ≠ x) → ptl x p ns ys = p
  | [], _, _ => by cases ‹List Rat› <;> rfl
  | _ :: _, [], _ => rfl
  | r :: ns, y :: ys, h => by
    simp only [ptl]
    rw [if_neg (h y List.mem_cons_self)]
    exact ptl_none x p ns ys fun z hz => h z (List.mem_cons_of_mem _ hz)
theorem spd_ptl : ∀ (p : Int) (x : Rat) (ns : List Int) (xs : List Rat), ns.length = xs.length → (x :: xs).Pairwise (· ≤ ·) → (spd (p :: ns) (x :: xs)).headD 0 = ptl x p ns xs
  | p, x, [], [], _, _ => rfl
  | _, _, [], _ :: _, h, _ => by simp at h
  | _, _, _ :: _, [], h, _ => by simp at h
  | p, x, q :: ns, y :: ys, h, hp => by
    have hp' := List.pairwise_cons.mp hp
    have ih := spd_ptl q y ns ys (by simpa using h) hp'.2
    have l := spd_len (q :: ns) (y :: ys) h
    cases hs : spd (q :: ns) (y :: ys) with
    | nil => rw [hs] at l; simp at l
    | cons s r =>
      rw [hs, List.headD_cons] at ih
      have e0 : spd (p :: q :: ns) (x :: y :: ys) = (if x = y then mnI p s else p) :: (s :: r) := by
        have : spd (p :: q :: ns) (x :: y :: ys) = (match y :: ys, spd (q :: ns) (y :: ys) with | y :: _, s :: _ => if x = y then mnI p s else p | _, _ => p) :: spd (q :: ns) (y :: ys) := rfl
        rw [this, hs]
      rw [e0, List.headD_cons]
      simp only [ptl]
      by_cases e : x = y
      · subst e
        rw [if_pos rfl, if_pos rfl, ptl_min, ih]
      · have hxy := hp'.1 y List.mem_cons_self
        have hl := (List.pairwise_cons.mp hp'.2).1
        rw [if_neg e, if_neg (fun z => e z.symm)]
        refine (ptl_none x p ns ys fun z hz => ?_).symm
        have := hl z hz
        grind
theorem spd_get {ns : List Int} {xs : List Rat} (hl : ns.length = xs.length) (hp : xs.Pairwise (· ≤ ·)) : ∀ {j : Nat} (hj : j < ns.length), (spd ns xs)[j]? = some (ptl xs[j] ns[j] (ns.drop (j + 1)) (xs.drop (j + 1))) := by
  intro j hj
  induction j generalizing ns xs with
  | zero =>
    match ns, xs, hl, hp, hj with
    | p :: ns, x :: xs, hl, hp, _ =>
      have := spd_ptl p x ns xs (by simpa using hl) hp
      simp only [spd] at this ⊢
      simp only [List.headD_cons] at this
      simp [this]
  | succ j ih =>
    match ns, xs, hl, hp, hj with
    | p :: ns, x :: xs, hl, hp, hj =>
      have := ih (ns := ns) (xs := xs) (by simpa using hl) (List.pairwise_cons.mp hp).2 (by simpa using hj)
      simp only [spd]
      simpa using this

/-! ### amounts over a common lower number -/
def Fr (D : Int) (r : Rat) : Prop := ∃ z : Int, r = (z : Rat) / (D : Rat)
theorem Fr.add {D : Int} {a b : Rat} (ha : Fr D a) (hb : Fr D b) : Fr D (a + b) := by
  obtain ⟨x, rfl⟩ := ha
  obtain ⟨y, rfl⟩ := hb
  exact ⟨x + y, by rw [Rat.intCast_add]; grind⟩
theorem Fr.sub {D : Int} {a b : Rat} (ha : Fr D a) (hb : Fr D b) : Fr D (a - b) := by
  obtain ⟨x, rfl⟩ := ha
  obtain ⟨y, rfl⟩ := hb
  exact ⟨x - y, by rw [Rat.intCast_sub]; grind⟩
theorem Fr.mulI {D : Int} {a : Rat} (ha : Fr D a) (k : Int) : Fr D ((k : Rat) * a) := by
  obtain ⟨x, rfl⟩ := ha
  exact ⟨k * x, by rw [Rat.intCast_mul]; grind⟩
theorem Fr.divI {D : Int} {a : Rat} (hD : D ≠ 0) (ha : Fr D a) {k : Int} (hk : k ≠ 0) : Fr (D * k) (a / (k : Rat)) := by
  obtain ⟨x, rfl⟩ := ha
  have h1 := cn hD
  have h2 := cn hk
  exact ⟨x, by rw [Rat.intCast_mul]; grind⟩
theorem Fr.int {D : Int} (hD : D ≠ 0) (k : Int) : Fr D (k : Rat) := ⟨k * D, by have := cn hD; rw [Rat.intCast_mul]; grind⟩
theorem Fr.zero {D : Int} (hD : D ≠ 0) : Fr D 0 := Fr.int hD 0
theorem Fr.scale {D : Int} {a : Rat} (hD : D ≠ 0) (ha : Fr D a) {k : Int} (hk : k ≠ 0) : Fr (D * k) a := by
  obtain ⟨x, rfl⟩ := ha
  have h1 := cn hD
  have h2 := cn hk
  exact ⟨x * k, by rw [Rat.intCast_mul, Rat.intCast_mul]; grind⟩
theorem Fr.of {n d D k : Int} (hd : d ≠ 0) (hk : k ≠ 0) (e : D = d * k) : Fr D ((n : Rat) / (d : Rat)) := by
  subst e
  have h1 := cn hd
  have h2 := cn hk
  exact ⟨n * k, by rw [Rat.intCast_mul, Rat.intCast_mul]; grind⟩
theorem ile {a b : Int} (h : (a : Rat) ≤ (b : Rat)) : a ≤ b := Rat.intCast_le_intCast.mp h
theorem fr_bd {D B : Int} {r : Rat} {k : Nat} (hD : 0 < D) (h : Fr D r) (h0 : -(B : Rat) ≤ r) (h1 : r ≤ (B : Rat)) (hb : (B * D).natAbs < 2 ^ k) (hd : D.natAbs < 2 ^ k) : Bd k (am r) := by
  obtain ⟨z, rfl⟩ := h
  have kD := cp hD
  have e1 : z ≤ B * D := ile (by
    rw [Rat.intCast_mul]
    have := Rat.mul_le_mul_of_nonneg_right h1 (Rat.le_of_lt kD)
    rw [Rat.div_mul_cancel (cn (by omega))] at this
    exact this)
  have e2 : -(B * D) ≤ z := ile (by
    rw [Rat.intCast_neg, Rat.intCast_mul]
    have := Rat.mul_le_mul_of_nonneg_right h0 (Rat.le_of_lt kD)
    rw [Rat.div_mul_cancel (cn (by omega)), Rat.neg_mul] at this
    exact this)
  have s := amt_spec (n := z) (d := D) (by omega)
  rw [← amt_am (by omega)]
  exact ⟨Nat.lt_of_le_of_lt (Nat.le_trans s.2.2.1 (by omega)) hb, Nat.lt_of_le_of_lt s.2.2.2 hd⟩

/-! ### meetings -/
def mnR (a b : Rat) : Rat := if b < a then b else a
def meetF (g : List Int) (ps : List Rat) (h : Rat) : Nat → Rat
  | 0 => h
  | i + 1 => if g.getD (i + 1) 0 < g.getD i 0 then mnR (meetF g ps h i) ((ps.getD (i + 1) 0 - ps.getD i 0) / ((g.getD i 0 - g.getD (i + 1) 0 : Int) : Rat)) else meetF g ps h i
def lastH (L : Int) (ns : List Int) (ps : List Rat) : Rat := ((L : Rat) - ps.getD (ns.length - 1) 0) / ((ns.getD (ns.length - 1) 0 : Int) : Rat)
def meetM (L : Int) (ns : List Int) (ps : List Rat) : Rat := meetF (spd ns ps) ps (lastH L ns ps) (ns.length - 1)
/-- hands on a way of labour L, all places over D -/
structure Wk (D L : Int) (ns : List Int) (ps : List Rat) : Prop where
  eq : ns.length = ps.length
  n8 : ns.length ≤ 8
  pace : ∀ n ∈ ns, 1 ≤ n ∧ n ≤ 12
  rise : ps.Pairwise (· ≤ ·)
  nn : ∀ p ∈ ps, 0 ≤ p
  fire : ∀ p ∈ ps, p ≤ (L : Rat)
  fr : ∀ p ∈ ps, Fr D p
theorem getD_mem {α : Type} {l : List α} {i : Nat} {d : α} (h : i < l.length) : l.getD i d ∈ l := by
  rw [List.getD_eq_getElem?_getD, List.getElem?_eq_getElem h]
  exact List.getElem_mem h
theorem getD_lt {α : Type} {l : List α} {i : Nat} {d : α} (h : i < l.length) : l.getD i d = l[i] := by
  rw [List.getD_eq_getElem?_getD, List.getElem?_eq_getElem h]
  rfl
theorem spd_at {ns : List Int} {xs : List Rat} (hl : ns.length = xs.length) {j : Nat} (hj : j < ns.length) : (spd ns xs).drop j = spd (ns.drop j) (xs.drop j) := by
  induction j generalizing ns xs with
  | zero => rfl
  | succ j ih =>
    match ns, xs, hl, hj with
    | p :: ns, x :: xs, hl, hj =>
      simp only [spd, List.drop_succ_cons]
      exact ih (by simpa using hl) (by simpa using hj)
theorem spd_rec {ns : List Int} {xs : List Rat} (hl : ns.length = xs.length) {j : Nat} (hj : j < ns.length) :
    (spd ns xs).getD j 0 = if j + 1 < ns.length ∧ xs.getD j 0 = xs.getD (j + 1) 0 then mnI (ns.getD j 0) ((spd ns xs).getD (j + 1) 0) else ns.getD j 0 := by
  have st := spd_step hl hj
  have e0 : (spd ns xs).getD j 0 = ((spd ns xs).drop j).headD 0 := by
    rw [List.getD_eq_getElem?_getD, List.headD_eq_head?_getD, List.head?_drop]
  rw [e0, spd_at hl hj, st, List.headD_cons, getD_lt hj]
  by_cases h : j + 1 < ns.length
  · rw [dif_pos h, getD_lt (show j < xs.length by omega), getD_lt (show j + 1 < xs.length by omega)]
    have e1 : (spd (ns.drop (j + 1)) (xs.drop (j + 1))).headD 0 = (spd ns xs).getD (j + 1) 0 := by
      rw [← spd_at hl h, List.getD_eq_getElem?_getD, List.headD_eq_head?_getD, List.head?_drop]
    rw [e1]
    by_cases e : xs[j] = xs[j + 1]
    · rw [if_pos e, if_pos ⟨h, e⟩]
    · rw [if_neg e, if_neg (fun z => e z.2)]
  · rw [dif_neg h, if_neg (fun z => h z.1)]
theorem mnI_le_l (p q : Int) : mnI p q ≤ p := by unfold mnI; split <;> omega
theorem mnI_le_r (p q : Int) : mnI p q ≤ q := by unfold mnI; split <;> omega
section
variable {D L : Int} {ns : List Int} {ps : List Rat}
theorem spd_bd (w : Wk D L ns ps) : ∀ {j : Nat}, j < ns.length → 1 ≤ (spd ns ps).getD j 0 ∧ (spd ns ps).getD j 0 ≤ 12 := by
  have key : ∀ k j, j < ns.length → ns.length - j ≤ k → 1 ≤ (spd ns ps).getD j 0 ∧ (spd ns ps).getD j 0 ≤ 12 := by
    intro k
    induction k with
    | zero => intro j h1 h2; omega
    | succ k ih =>
      intro j h1 h2
      have hp := w.pace _ (getD_mem (d := 0) h1)
      rw [spd_rec w.eq h1]
      split
      · rename_i h
        have := ih (j + 1) h.1 (by omega)
        unfold mnI
        split <;> omega
      · exact hp
  intro j h
  exact key _ j h (Nat.le_refl _)
theorem spd_same (w : Wk D L ns ps) {j : Nat} (h : j + 1 < ns.length) (e : ps.getD j 0 = ps.getD (j + 1) 0) : (spd ns ps).getD j 0 ≤ (spd ns ps).getD (j + 1) 0 := by
  rw [spd_rec w.eq (show j < ns.length by omega), if_pos ⟨h, e⟩]
  exact mnI_le_r _ _
theorem spd_last (w : Wk D L ns ps) (h : 0 < ns.length) : (spd ns ps).getD (ns.length - 1) 0 = ns.getD (ns.length - 1) 0 := by
  rw [spd_rec w.eq (by omega), if_neg (fun z => by omega)]
theorem ps_le (w : Wk D L ns ps) {j : Nat} (h : j + 1 < ns.length) : ps.getD j 0 ≤ ps.getD (j + 1) 0 := by
  have h2 : j + 1 < ps.length := by have := w.eq; omega
  rw [getD_lt (show j < ps.length by omega), getD_lt h2]
  exact List.pairwise_iff_getElem.mp w.rise j (j + 1) (by omega) h2 (by omega)
/-- where the one behind is quicker, they are apart -/
theorem apart (w : Wk D L ns ps) {j : Nat} (h : j + 1 < ns.length) (g : (spd ns ps).getD (j + 1) 0 < (spd ns ps).getD j 0) : ps.getD j 0 < ps.getD (j + 1) 0 := by
  have h1 := ps_le w h
  by_cases e : ps.getD j 0 = ps.getD (j + 1) 0
  · have := spd_same w h e
    omega
  · grind
theorem mnR_le_l (a b : Rat) : mnR a b ≤ a := by unfold mnR; split <;> grind
theorem mnR_le_r (a b : Rat) : mnR a b ≤ b := by unfold mnR; split <;> grind
theorem mnR_or (a b : Rat) : mnR a b = a ∨ mnR a b = b := by unfold mnR; split <;> simp
def cand (g : List Int) (ps : List Rat) (j : Nat) : Rat := (ps.getD (j + 1) 0 - ps.getD j 0) / ((g.getD j 0 - g.getD (j + 1) 0 : Int) : Rat)
theorem meetF_or (g : List Int) (ps : List Rat) (h : Rat) : ∀ i, meetF g ps h i = h ∨ ∃ j, j < i ∧ g.getD (j + 1) 0 < g.getD j 0 ∧ meetF g ps h i = cand g ps j
  | 0 => .inl rfl
  | i + 1 => by
    simp only [meetF]
    split
    · rename_i hg
      rcases mnR_or (meetF g ps h i) ((ps.getD (i + 1) 0 - ps.getD i 0) / ((g.getD i 0 - g.getD (i + 1) 0 : Int) : Rat)) with e | e
      · rw [e]
        rcases meetF_or g ps h i with e | ⟨j, hj, hgj, e⟩
        · exact .inl e
        · exact .inr ⟨j, by omega, hgj, e⟩
      · rw [e]
        exact .inr ⟨i, by omega, hg, rfl⟩
    · rcases meetF_or g ps h i with e | ⟨j, hj, hgj, e⟩
      · exact .inl e
      · exact .inr ⟨j, by omega, hgj, e⟩
theorem meetF_le (g : List Int) (ps : List Rat) (h : Rat) : ∀ i, meetF g ps h i ≤ h ∧ ∀ j, j < i → g.getD (j + 1) 0 < g.getD j 0 → meetF g ps h i ≤ cand g ps j
  | 0 => ⟨by simp only [meetF]; grind, fun j hj => by omega⟩
  | i + 1 => by
    have ih := meetF_le g ps h i
    simp only [meetF]
    split
    · rename_i hg
      have a := mnR_le_l (meetF g ps h i) ((ps.getD (i + 1) 0 - ps.getD i 0) / ((g.getD i 0 - g.getD (i + 1) 0 : Int) : Rat))
      have b := mnR_le_r (meetF g ps h i) ((ps.getD (i + 1) 0 - ps.getD i 0) / ((g.getD i 0 - g.getD (i + 1) 0 : Int) : Rat))
      refine ⟨by grind, fun j hj hgj => ?_⟩
      by_cases e : j = i
      · subst e; exact b
      · have := ih.2 j (by omega) hgj
        grind
    · rename_i hg
      refine ⟨ih.1, fun j hj hgj => ?_⟩
      by_cases e : j = i
      · subst e; exact absurd hgj hg
      · exact ih.2 j (by omega) hgj
theorem lt_div {a b : Rat} {k : Int} (hk : 0 < k) (h : a < b) : 0 < (b - a) / (k : Rat) := (Rat.lt_div_iff (cp hk)).mpr (by rw [Rat.zero_mul]; grind)
theorem div_mul {a : Rat} {k : Int} (hk : 0 < k) : a / (k : Rat) * (k : Rat) = a := Rat.div_mul_cancel (cn (by omega))
theorem div_le1 {a : Rat} {k : Int} (hk : 1 ≤ k) (ha : 0 ≤ a) : a / (k : Rat) ≤ a := by
  have e := div_mul (a := a) (show 0 < k by omega)
  have kp := cp (show 0 < k by omega)
  have h1 : (1 : Rat) ≤ (k : Rat) := Rat.intCast_le_intCast.mpr hk
  by_cases c : a / (k : Rat) < 0
  · have := Rat.mul_lt_mul_of_pos_right c kp
    grind
  · have := Rat.mul_le_mul_of_nonneg_left h1 (Rat.not_lt.mp c)
    grind
/-- the hours up to the i-th step of the search: over one of 1 to 12 parts -/
theorem meetF_ok (w : Wk D L ns ps) (hD : D ≠ 0) (hn : 0 < ns.length) {i : Nat} (hi : i ≤ ns.length - 1) : ∃ k : Int, 1 ≤ k ∧ k ≤ 12 ∧ Fr (D * k) (meetF (spd ns ps) ps (lastH L ns ps) i) ∧ 0 ≤ meetF (spd ns ps) ps (lastH L ns ps) i ∧ meetF (spd ns ps) ps (lastH L ns ps) i ≤ (L : Rat) := by
  have hle := w.eq
  have p0 := w.pace _ (getD_mem (d := 0) (show ns.length - 1 < ns.length by omega))
  have q0 := w.nn _ (getD_mem (d := 0) (show ns.length - 1 < ps.length by omega))
  have q1 := w.fire _ (getD_mem (d := 0) (show ns.length - 1 < ps.length by omega))
  have q2 := w.fr _ (getD_mem (d := 0) (show ns.length - 1 < ps.length by omega))
  have dp := cp (show 0 < ns.getD (ns.length - 1) 0 by omega)
  have em : lastH L ns ps * ((ns.getD (ns.length - 1) 0 : Int) : Rat) = (L : Rat) - ps.getD (ns.length - 1) 0 := div_mul (by omega)
  have h1 : (1 : Rat) ≤ ((ns.getD (ns.length - 1) 0 : Int) : Rat) := Rat.intCast_le_intCast.mpr p0.1
  have l0 : 0 ≤ lastH L ns ps := by
    by_cases c : lastH L ns ps < 0
    · have := Rat.mul_lt_mul_of_pos_right c dp
      grind
    · exact Rat.not_lt.mp c
  have lL : lastH L ns ps ≤ (L : Rat) := by
    have := Rat.mul_le_mul_of_nonneg_left h1 l0
    grind
  rcases meetF_or (spd ns ps) ps (lastH L ns ps) i with e | ⟨j, hj, hg, e⟩
  · rw [e]
    exact ⟨_, p0.1, p0.2, ((Fr.int hD L).sub q2).divI hD (by omega), l0, lL⟩
  · rw [e]
    have hj1 : j + 1 < ns.length := by omega
    have b0 := spd_bd w (show j < ns.length by omega)
    have b1 := spd_bd w hj1
    have ap := apart w hj1 hg
    have r2 := w.fr _ (getD_mem (d := 0) (show j < ps.length by omega))
    have r3 := w.fr _ (getD_mem (d := 0) (show j + 1 < ps.length by omega))
    refine ⟨(spd ns ps).getD j 0 - (spd ns ps).getD (j + 1) 0, by omega, by omega, (r3.sub r2).divI hD (by omega), Rat.le_of_lt (lt_div (by omega) ap), ?_⟩
    rw [← e]
    exact Rat.le_trans (meetF_le (spd ns ps) ps (lastH L ns ps) i).1 lL
theorem meet_pos (w : Wk D L ns ps) (hn : 0 < ns.length) (hf : ∀ p ∈ ps, p < (L : Rat)) : 0 < meetM L ns ps := by
  have hle := w.eq
  unfold meetM
  rcases meetF_or (spd ns ps) ps (lastH L ns ps) (ns.length - 1) with e | ⟨j, hj, hg, e⟩
  · rw [e]
    have p0 := w.pace _ (getD_mem (d := 0) (show ns.length - 1 < ns.length by omega))
    exact lt_div (by omega) (hf _ (getD_mem (d := 0) (show ns.length - 1 < ps.length by omega)))
  · rw [e]
    exact lt_div (by omega) (apart w (by omega) hg)
/-- for so long nobody is beyond the next one -/
theorem meet_order (w : Wk D L ns ps) {t : Rat} (h0 : 0 ≤ t) (ht : t ≤ meetM L ns ps) {j : Nat} (hj : j + 1 < ns.length) :
    ps.getD j 0 + t * (((spd ns ps).getD j 0 : Int) : Rat) ≤ ps.getD (j + 1) 0 + t * (((spd ns ps).getD (j + 1) 0 : Int) : Rat) := by
  have h1 := ps_le w hj
  by_cases g : (spd ns ps).getD (j + 1) 0 < (spd ns ps).getD j 0
  · have c := (meetF_le (spd ns ps) ps (lastH L ns ps) (ns.length - 1)).2 j (by omega) g
    have c2 : t ≤ cand (spd ns ps) ps j := Rat.le_trans ht c
    have kp := cp (show 0 < (spd ns ps).getD j 0 - (spd ns ps).getD (j + 1) 0 by omega)
    have e : cand (spd ns ps) ps j * (((spd ns ps).getD j 0 - (spd ns ps).getD (j + 1) 0 : Int) : Rat) = ps.getD (j + 1) 0 - ps.getD j 0 := div_mul (by omega)
    have := Rat.mul_le_mul_of_nonneg_right c2 (Rat.le_of_lt kp)
    rw [e, Rat.intCast_sub] at this
    grind
  · have k : (((spd ns ps).getD j 0 : Int) : Rat) ≤ (((spd ns ps).getD (j + 1) 0 : Int) : Rat) := Rat.intCast_le_intCast.mpr (by omega)
    have := Rat.mul_le_mul_of_nonneg_left k h0
    grind
theorem meet_fire (w : Wk D L ns ps) (hn : 0 < ns.length) {t : Rat} (ht : t ≤ meetM L ns ps) : ps.getD (ns.length - 1) 0 + t * (((spd ns ps).getD (ns.length - 1) 0 : Int) : Rat) ≤ (L : Rat) := by
  have c := (meetF_le (spd ns ps) ps (lastH L ns ps) (ns.length - 1)).1
  have c2 : t ≤ lastH L ns ps := Rat.le_trans ht c
  have p0 := w.pace _ (getD_mem (d := 0) (show ns.length - 1 < ns.length by omega))
  have e : lastH L ns ps * ((ns.getD (ns.length - 1) 0 : Int) : Rat) = (L : Rat) - ps.getD (ns.length - 1) 0 := div_mul (by omega)
  rw [spd_last w hn]
  have := Rat.mul_le_mul_of_nonneg_right c2 (Rat.le_of_lt (cp (show 0 < ns.getD (ns.length - 1) 0 by omega)))
  grind
/-- somebody has come up -/
theorem meet_come (w : Wk D L ns ps) (hn : 0 < ns.length) : (ps.getD (ns.length - 1) 0 + meetM L ns ps * (((spd ns ps).getD (ns.length - 1) 0 : Int) : Rat) = (L : Rat)) ∨
    ∃ j, j + 1 < ns.length ∧ ps.getD j 0 ≠ ps.getD (j + 1) 0 ∧ ps.getD j 0 + meetM L ns ps * (((spd ns ps).getD j 0 : Int) : Rat) = ps.getD (j + 1) 0 + meetM L ns ps * (((spd ns ps).getD (j + 1) 0 : Int) : Rat) := by
  have p0 := w.pace _ (getD_mem (d := 0) (show ns.length - 1 < ns.length by omega))
  unfold meetM
  rcases meetF_or (spd ns ps) ps (lastH L ns ps) (ns.length - 1) with e | ⟨j, hj, hg, e⟩
  · refine .inl ?_
    rw [e, spd_last w hn]
    have e : lastH L ns ps * ((ns.getD (ns.length - 1) 0 : Int) : Rat) = (L : Rat) - ps.getD (ns.length - 1) 0 := div_mul (by omega)
    grind
  · refine .inr ⟨j, by omega, ?_, ?_⟩
    · have := apart w (j := j) (by omega) hg
      grind
    · rw [e]
      have e : cand (spd ns ps) ps j * (((spd ns ps).getD j 0 - (spd ns ps).getD (j + 1) 0 : Int) : Rat) = ps.getD (j + 1) 0 - ps.getD j 0 := div_mul (by omega)
      rw [Rat.intCast_sub] at e
      grind
end

/-! ### walked on -/
def walkM (ns : List Int) (ps : List Rat) (t : Rat) : List Rat := (List.range ns.length).map fun j => ps.getD j 0 + t * (((spd ns ps).getD j 0 : Int) : Rat)
theorem walkM_len (ns : List Int) (ps : List Rat) (t : Rat) : (walkM ns ps t).length = ns.length := by
  unfold walkM
  rw [List.length_map, List.length_range]
theorem walkM_get {ns : List Int} {ps : List Rat} {t : Rat} {j : Nat} (h : j < ns.length) : (walkM ns ps t).getD j 0 = ps.getD j 0 + t * (((spd ns ps).getD j 0 : Int) : Rat) := by
  unfold walkM
  rw [List.getD_eq_getElem?_getD, List.getElem?_map, List.getElem?_range h]
  rfl
theorem ext_getD {α : Type} {d : α} {xs ys : List α} (hl : xs.length = ys.length) (h : ∀ j, j < xs.length → xs.getD j d = ys.getD j d) : xs = ys := by
  refine List.ext_getElem? fun j => ?_
  by_cases hj : j < xs.length
  · have := h j hj
    rw [getD_lt hj, getD_lt (show j < ys.length by omega)] at this
    rw [List.getElem?_eq_getElem hj, List.getElem?_eq_getElem (show j < ys.length by omega), this]
  · rw [List.getElem?_eq_none (by omega), List.getElem?_eq_none (by omega)]
theorem lt_le {a b c : Rat} (h : a < b) (g : b ≤ c) : a < c := by grind
theorem sep {pj pk t gj gk : Rat} (e : pj + t * gj = pk + t * gk) : t * (gj - gk) = pk - pj := by grind
theorem spd_walk {D L : Int} {ns : List Int} {ps : List Rat} (w : Wk D L ns ps) {t : Rat} (h0 : 0 ≤ t) (ht : t < meetM L ns ps) : spd ns (walkM ns ps t) = spd ns ps := by
  have lw := walkM_len ns ps t
  have l1 := spd_len ns ps w.eq
  have l2 := spd_len ns (walkM ns ps t) lw.symm
  have key : ∀ k j, j < ns.length → ns.length - j ≤ k → (spd ns (walkM ns ps t)).getD j 0 = (spd ns ps).getD j 0 := by
    intro k
    induction k with
    | zero => intro j h1 h2; omega
    | succ k ih =>
      intro j h1 h2
      rw [spd_rec lw.symm h1]
      by_cases h : j + 1 < ns.length
      · have g1 := ih (j + 1) h (by omega)
        rw [g1, walkM_get h1, walkM_get h]
        have hr := spd_rec w.eq h1
        by_cases e : ps.getD j 0 = ps.getD (j + 1) 0
        · rw [if_pos ⟨h, e⟩] at hr
          by_cases e2 : ps.getD j 0 + t * (((spd ns ps).getD j 0 : Int) : Rat) = ps.getD (j + 1) 0 + t * (((spd ns ps).getD (j + 1) 0 : Int) : Rat)
          · rw [if_pos ⟨h, e2⟩]
            exact hr.symm
          · rw [if_neg (fun z => e2 z.2)]
            have hne : (spd ns ps).getD j 0 ≠ (spd ns ps).getD (j + 1) 0 := fun z => e2 (by rw [e, z])
            rw [hr] at hne ⊢
            unfold mnI at hne ⊢
            split
            · rename_i c; rw [if_pos c] at hne; exact absurd rfl hne
            · rfl
        · rw [if_neg (fun z => e z.2)] at hr
          refine (if_neg (fun z => ?_)).trans hr.symm
          have e2 := z.2
          have le := ps_le w h
          have lt : ps.getD j 0 < ps.getD (j + 1) 0 := by grind
          by_cases hg : (spd ns ps).getD (j + 1) 0 < (spd ns ps).getD j 0
          · have c := (meetF_le (spd ns ps) ps (lastH L ns ps) (ns.length - 1)).2 j (by omega) hg
            have em : cand (spd ns ps) ps j * (((spd ns ps).getD j 0 - (spd ns ps).getD (j + 1) 0 : Int) : Rat) = ps.getD (j + 1) 0 - ps.getD j 0 := div_mul (by omega)
            have s := sep e2
            rw [← Rat.intCast_sub] at s
            have tc : t < cand (spd ns ps) ps j := lt_le ht c
            have := Rat.mul_lt_mul_of_pos_right tc (cp (show 0 < (spd ns ps).getD j 0 - (spd ns ps).getD (j + 1) 0 by omega))
            grind
          · have s := sep e2
            rw [← Rat.intCast_sub] at s
            have k0 : (((spd ns ps).getD j 0 - (spd ns ps).getD (j + 1) 0 : Int) : Rat) ≤ 0 := Rat.intCast_le_intCast.mpr (by omega)
            have := Rat.mul_le_mul_of_nonneg_left k0 h0
            grind
      · rw [if_neg (fun z => h z.1), spd_rec w.eq h1, if_neg (fun z => h z.1)]
  exact ext_getD (d := 0) (by omega) fun j hj => key _ j (by omega) (Nat.le_refl _)
theorem walk_walk {D L : Int} {ns : List Int} {ps : List Rat} (w : Wk D L ns ps) {t h : Rat} (h0 : 0 ≤ t) (h1 : t ≤ h) (hm : h ≤ meetM L ns ps) : walkM ns (walkM ns ps t) (h - t) = walkM ns ps h := by
  have lw := walkM_len ns ps t
  refine ext_getD (d := 0) (by rw [walkM_len, walkM_len]) fun j hj => ?_
  rw [walkM_len] at hj
  rw [walkM_get hj, walkM_get hj, walkM_get hj]
  by_cases c : t < meetM L ns ps
  · rw [spd_walk w h0 c]
    grind
  · have : h = t := by grind
    subst this
    grind

theorem shaped_am (x : Am) : SeqAt.shaped (.tuple [.int x.1, .int x.2]) = true := by
  simp [SeqAt.shaped, PyData.canLay0, PyData.canLayAll0, PyData.depth, PyData.depthAll]
theorem eqv_am (x y : Am) : PyData.eqv (.tuple [.int x.1, .int x.2]) (.tuple [.int y.1, .int y.2]) = decide (x = y) := by
  obtain ⟨a, b⟩ := x
  obtain ⟨c, d⟩ := y
  simp only [PyData.eqv, PyData.eqvAll, Bool.and_true, Prod.mk.injEq]
  by_cases h1 : a = c <;> by_cases h2 : b = d <;> simp [h1, h2]
theorem ne_am {x y : Am} (h : x = y) : (!PyData.eqv (.tuple [.int x.1, .int x.2]) (.tuple [.int y.1, .int y.2])) = false := by rw [eqv_am, decide_eq_true h]; rfl

theorem dpa_ints {K : PySem.W.Frag} {H : Hp} : ∀ ns : List Int, DpAll K H (ns.map V.int) (ns.map PyData.int)
  | [] => .nil
  | n :: ns => .cons (.int n) (dpa_ints ns)
theorem dp_ints {K : PySem.W.Frag} {H : Hp} {a : Addr} {ns : List Int} (h : SqL K H a (ns.map V.int)) : Dp K H (.ref a) (.list (ns.map PyData.int)) := .lst h (dpa_ints ns)
theorem depOk_ints {n : Nat} {ns : List Int} (h : ns.length ≤ 9000) : depOk (n + 1) (.list (ns.map PyData.int)) = true := by
  show (decide ((ns.map PyData.int).length ≤ 9000) && (ns.map PyData.int).all (depOk n)) = true
  rw [List.length_map, decide_eq_true h, Bool.true_and, List.all_map]
  exact List.all_eq_true.mpr fun q _ => by cases n <;> rfl
theorem depOk_amsN {n : Nat} {qs : List Am} (h : qs.length ≤ 9000) : depOk (n + 2) (.list (qs.map amD)) = true := by
  show (decide ((qs.map amD).length ≤ 9000) && (qs.map amD).all (depOk (n + 1))) = true
  rw [List.length_map, decide_eq_true h, Bool.true_and, List.all_map]
  refine List.all_eq_true.mpr fun q _ => ?_
  cases n <;> rfl

theorem ok_p_plus {f : Addr} {fd : FuncData} (F : Fun K "plus" "plus" s_p_plus f fd) (F_p_amount : Fn P w K mg base 2 "amount" ["num", "den"] (sp_p_amount K T)) : FnOk P w K mg base CX0 3 f fd ["one", "other"] (sp_p_plus K T) := by
  refine F.ok sc_p_plus (fun vs H Q E h => ?_) (fun cdv A outer s H vs Q E hr h => ?_)
  · obtain ⟨a, b, x, y, rfl, _⟩ := h
    rfl
  · obtain ⟨a, b, x, y, rfl, ha, hb, ⟨bx, by_⟩, ⟨hx, hy⟩, q⟩ := h
    refine ⟨_, (pss_one (ps_ret (pe_fn F_p_amount (hr.mono (by decide)) (pa_cons (pe_op op_add (pe_op op_mulW (pe_ix ix_tup (pv 0) pe_int (fun _ _ => rfl)) (pe_ix ix_tup (pv 1) pe_int (fun _ _ => rfl))) (pe_op op_mulW (pe_ix ix_tup (pv 1) pe_int (fun _ _ => rfl)) (pe_ix ix_tup (pv 0) pe_int (fun _ _ => rfl)))) (pa_cons (pe_op op_mulW (pe_ix ix_tup (pv 0) pe_int (fun _ _ => rfl)) (pe_ix ix_tup (pv 1) pe_int (fun _ _ => rfl))) pa_nil))))), ?_⟩
    refine ⟨_, rfl, a, _, 0, .int x.1, rfl, rfl, ha, atI_nat (j := 0) rfl, _, rfl, b, _, 1, .int y.2, rfl, rfl, hb, atI_nat (j := 1) rfl, _, _, rfl, rfl, wm bx.1 by_.2, ?_⟩
    refine ⟨_, rfl, b, _, 0, .int y.1, rfl, rfl, hb, atI_nat (j := 0) rfl, _, rfl, a, _, 1, .int x.2, rfl, rfl, ha, atI_nat (j := 1) rfl, _, _, rfl, rfl, wm by_.1 bx.2, _, _, rfl, rfl, ?_⟩
    refine ⟨_, rfl, a, _, 1, .int x.2, rfl, rfl, ha, atI_nat (j := 1) rfl, _, rfl, b, _, 1, .int y.2, rfl, rfl, hb, atI_nat (j := 1) rfl, _, _, rfl, rfl, wm bx.2 by_.2, ?_⟩
    exact ⟨_, _, rfl, Int.mul_ne_zero (by omega) (by omega), wl bx.2 by_.2, q⟩

theorem ok_p_times {f : Addr} {fd : FuncData} (F : Fun K "times" "times" s_p_times f fd) (F_p_amount : Fn P w K mg base 2 "amount" ["num", "den"] (sp_p_amount K T)) : FnOk P w K mg base CX0 3 f fd ["one", "other"] (sp_p_times K T) := by
  refine F.ok sc_p_times (fun vs H Q E h => ?_) (fun cdv A outer s H vs Q E hr h => ?_)
  · obtain ⟨a, b, x, y, rfl, _⟩ := h
    rfl
  · obtain ⟨a, b, x, y, rfl, ha, hb, ⟨bx, by_⟩, ⟨hx, hy⟩, q⟩ := h
    refine ⟨_, (pss_one (ps_ret (pe_fn F_p_amount (hr.mono (by decide)) (pa_cons (pe_op op_mulW (pe_ix ix_tup (pv 0) pe_int (fun _ _ => rfl)) (pe_ix ix_tup (pv 1) pe_int (fun _ _ => rfl))) (pa_cons (pe_op op_mulW (pe_ix ix_tup (pv 0) pe_int (fun _ _ => rfl)) (pe_ix ix_tup (pv 1) pe_int (fun _ _ => rfl))) pa_nil))))), ?_⟩
    refine ⟨_, rfl, a, _, 0, .int x.1, rfl, rfl, ha, atI_nat (j := 0) rfl, _, rfl, b, _, 0, .int y.1, rfl, rfl, hb, atI_nat (j := 0) rfl, _, _, rfl, rfl, wm bx.1 by_.1, ?_⟩
    refine ⟨_, rfl, a, _, 1, .int x.2, rfl, rfl, ha, atI_nat (j := 1) rfl, _, rfl, b, _, 1, .int y.2, rfl, rfl, hb, atI_nat (j := 1) rfl, _, _, rfl, rfl, wm bx.2 by_.2, ?_⟩
    exact ⟨_, _, rfl, Int.mul_ne_zero (by omega) (by omega), wl bx.2 by_.2, q⟩

def sp_l_cell (K : PySem.W.Frag) (T : Tb) : Sp := fun vs H Q _ => ∃ (a : Addr) (ns : List Int) (k : Int), vs = [.ref a, .int k] ∧ SqL K H a (ns.map V.int) ∧ 0 ≤ k ∧ ∀ z : Int, Q (.int z) H
theorem ok_l_cell {f : Addr} {fd : FuncData} (F : Fun K "_law_cell" "_law_cell" s_l_cell f fd) (B : Bn mg) : FnOk P w K mg base CX0 1 f fd ["_law_script", "_law_k"] (sp_l_cell K T) := by
  refine F.ok sc_l_cell (fun vs H Q E h => ?_) (fun cdv A outer s H vs Q E hr h => ?_)
  · obtain ⟨a, ns, k, rfl, _⟩ := h
    rfl
  · obtain ⟨a, ns, k, rfl, hS, hk, q⟩ := h
    refine ⟨_, (pss_cons (ps_if (pt_cmpR op_lt (pv 1) (pe_callB call_len_seq (by rfl) B.len_ (by decide +kernel) (pa_cons (pv 0) pa_nil)) (nomark _)) (pss_one (ps_ret (pe_ix ix_list (pv 0) (pv 1) (fun _ _ => rfl)))) pss_nil)
      (pss_one (ps_ret (pe_op op_add (pe_op op_add (pe_op op_mul (pe_op op_mod (pe_callB (cr_sum rfl) (by rfl) B.sum_ (by decide +kernel) (pa_cons (pv 0) pa_nil)) pe_int) pe_int) (pe_op op_mul (pe_callB call_len_seq (by rfl) B.len_ (by decide +kernel) (pa_cons (pv 0) pa_nil)) pe_int)) (pe_op op_mul (pv 1) pe_int))))), ?_⟩
    refine ⟨_, rfl, _, rfl, a, _, rfl, .inl hS, _, _, rfl, rfl, _, rfl, ite2 (fun e => ?_) (fun e => ?_)⟩
    · have e' : k < ((ns.map V.int).length : Int) := of_decide_eq_true e
      rw [List.length_map] at e'
      obtain ⟨j, rfl⟩ : ∃ j : Nat, k = (j : Int) := ⟨k.toNat, by omega⟩
      have hj : j < ns.length := by omega
      refine ⟨_, rfl, _, rfl, a, _, _, .int ns[j], rfl, rfl, hS, atI_nat (by rw [List.getElem?_map, List.getElem?_eq_getElem hj]; rfl), q _⟩
    · refine ⟨_, rfl, a, ns, rfl, hS, ?_⟩
      refine ⟨_, _, rfl, rfl, (by show (0 : Int) < 1000003; decide), _, _, rfl, rfl, .inr ⟨by decide, by decide⟩, ?_⟩
      refine ⟨_, rfl, a, _, rfl, .inl hS, _, _, rfl, rfl, .inr ⟨by decide, by decide⟩, _, _, rfl, rfl, ?_⟩
      refine ⟨_, rfl, _, _, rfl, rfl, .inr ⟨by decide, by decide⟩, _, _, rfl, rfl, q _⟩

def sp_l_draws (K : PySem.W.Frag) (T : Tb) : Sp := fun vs H Q _ => ∃ (c : Int) (a : Addr) (qs : List Int), vs = [.int c, .ref a] ∧ SqL K H a (qs.map V.int) ∧ qs.length ≤ 1000 ∧ (∀ q ∈ qs, 0 < q ∧ q.natAbs < 2 ^ 100) ∧
  ∀ p H' (ds : List Int), Sm T H H' → H p = none → H' p = some (.lst (ds.map V.int)) → Drawn ds qs → Q (.ref p) H'
theorem ok_l_draws {f : Addr} {fd : FuncData} (F : Fun K "_law_draws" "_law_draws" s_l_draws f fd) : FnOk P w K mg base CX0 1 f fd ["_law_cell_here", "_law_parts"] (sp_l_draws K T) := by
  refine F.ok sc_l_draws (fun vs H Q E h => ?_) (fun cdv A outer s H vs Q E hr h => ?_)
  · obtain ⟨c, a, qs, rfl, _⟩ := h
    rfl
  · obtain ⟨c, a, qs, rfl, hS, hlen, hpos, q⟩ := h
    refine ⟨_, (pss_cons (ps_if (pt_cmpR op_lt (pv 0) (pe_op op_pow pe_int pe_int) (nomark _)) (pss_cons (ps_set (i := 2) sc_l_draws.nd rfl (.inl rfl) (pe_op op_mod (pe_op op_add (pe_op op_mul (pv 0) pe_int) pe_int) pe_int))
      (pss_cons (ps_set (i := 3) sc_l_draws.nd rfl (.inl rfl) (pe_op op_mod (pe_op op_add (pe_op op_add (pe_op op_mul (pv 2) (pv 2)) (pe_op op_mul pe_int (pv 2))) (pv 0)) pe_int))
      (pss_cons (ps_set (i := 4) sc_l_draws.nd rfl (.inl rfl) (pe_op op_mod (pe_op op_add (pe_op op_mul (pv 3) pe_int) (pv 2)) pe_int))
      (pss_one (ps_set (i := 0) sc_l_draws.nd rfl (.inl rfl) (pe_op op_add (pv 3) (pe_op op_mul pe_int (pe_op op_add (pv 4) (pe_op op_mul pe_int (pv 2)))))))))) (pss_one (ps_set (i := 0) sc_l_draws.nd rfl (.inl rfl) (pe_op op_sub (pv 0) (pe_op op_pow pe_int pe_int)))))
      (pss_cons (ps_set (i := 5) sc_l_draws.nd rfl (.inl rfl) (pe_lst pa_nil))
      (pss_cons (ps_for PassesOwn.never rfl (pi_list (pv 1)) (pg_name (i := 6) sc_l_draws.nd rfl (.inl rfl))
      (pss_cons (ps_expr (pe_bm PySem.F.plainAttrs_list PySem.F.slot_list_append PySem.F.type_list_append mt_append (pv 5) (pa_cons (pe_op op_mod (pv 0) (pv 6)) pa_nil)))
      (pss_one (ps_set (i := 0) sc_l_draws.nd rfl (.inl rfl) (pe_op op_fdivW (pv 0) (pv 6))))))
      (pss_one (ps_ret (pv 5)))))), ?_⟩
    refine seq_if (fun σ' H' => H' = H ∧ ∃ (c : Int) (x2 x3 x4 : Option V), σ' = [some (.int c), some (.ref a), x2, x3, x4, none, none]) (fun σ' H' p => ?_) (fun k => ?_)
    · obtain ⟨rfl, c, x2, x3, x4, rfl⟩ := p
      refine ⟨Nat.zero_le _, fun o no => ?_⟩
      refine ⟨_, rfl, a, rfl, ⟨_, (same_upd (T := T) no).seq hS⟩, for_list (K := K) (a := a) (xs := qs.map V.int)
        (fun i σ H3 => ∃ (c : Int) (x6 : Option V) (ds : List Int), σ = [some (.int c), some (.ref a), x2, x3, x4, some (.ref o), x6] ∧ Sm T H' H3 ∧ H3 o = some (.lst (ds.map V.int)) ∧ Drawn ds (qs.take i))
        ⟨c, none, [], rfl, same_upd no, upd_same, trivial⟩ (fun i σ H3 _ ⟨_, _, _, _, sm, _⟩ => sm.seq hS) ?_ ?_⟩
      · rintro i y σ H3 hi ⟨c, x6, ds, rfl, sm, eo, hd⟩
        rw [List.getElem?_map] at hi
        obtain ⟨qi, hq, rfl⟩ : ∃ qi, qs[i]? = some qi ∧ V.int qi = y := Option.map_eq_some_iff.mp hi
        have hqm := hpos qi (List.mem_of_getElem? hq)
        have hil : i < qs.length := (List.getElem?_eq_some_iff.mp hq).1
        refine ⟨_, rfl, .inl ⟨rfl, _, SqL.of eo⟩, _, rfl, _, rfl, _, _, rfl, rfl, hqm.1, o, _, _, rfl, rfl, eo, ?_, ?_⟩
        · rw [List.length_map, hd.length, List.length_take]
          exact szl (by omega)
        · refine ⟨_, rfl, _, rfl, _, _, rfl, rfl, wide_div hqm.1 hqm.2 (by decide) (by decide), ?_⟩
          refine ⟨_, _, ds ++ [c % qi], rfl, same_mut sm no eo, ?_, ?_⟩
          · rw [upd_same, List.map_append]
            rfl
          · rw [List.take_add_one, hq]
            exact hd.snoc (Int.emod_nonneg _ (by omega)) (Int.emod_lt_of_pos _ hqm.1)
      · rintro σ H3 ⟨c, x6, ds, rfl, sm, eo, hd⟩
        rw [List.length_map, List.take_length] at hd
        exact ⟨_, rfl, q o H3 ds sm no eo hd⟩
    · have b1 := Int.emod_nonneg (c * 48271 + 11) (show (2147483647 : Int) ≠ 0 by decide)
      have b2 := Int.emod_lt_of_pos (c * 48271 + 11) (show (0 : Int) < 2147483647 by decide)
      refine ⟨_, rfl, _, _, rfl, rfl, ⟨by decide, by decide, by decide⟩, _, _, rfl, rfl, _, rfl, ite2 (fun e => ?_) (fun e => ?_)⟩
      · refine ⟨_, rfl, _, _, rfl, rfl, .inr ⟨by decide, by decide⟩, _, _, rfl, rfl, _, _, rfl, rfl, (by show (0 : Int) < 2147483647; decide), ?_⟩
        refine ⟨_, rfl, _, rfl, _, _, rfl, rfl, .inl ⟨by omega, by omega⟩, ?_⟩
        refine ⟨_, rfl, _, _, rfl, rfl, .inl ⟨by decide, by decide⟩, _, _, rfl, rfl, _, rfl, _, _, rfl, rfl, _, _, rfl, rfl, (by show (0 : Int) < 2147483399; decide), ?_⟩
        refine ⟨_, rfl, _, _, rfl, rfl, .inr ⟨by decide, by decide⟩, _, rfl, _, _, rfl, rfl, _, _, rfl, rfl, (by show (0 : Int) < 1000000007; decide), ?_⟩
        refine ⟨_, rfl, _, rfl, _, rfl, _, _, rfl, rfl, .inl ⟨by decide, by decide⟩, _, _, rfl, rfl, _, _, rfl, rfl, .inl ⟨by decide, by decide⟩, _, _, rfl, rfl, ?_⟩
        exact k _ _ ⟨rfl, _, _, _, _, rfl⟩
      · refine ⟨_, rfl, _, _, rfl, rfl, ⟨by decide, by decide, by decide⟩, _, _, rfl, rfl, ?_⟩
        exact k _ _ ⟨rfl, _, _, _, _, rfl⟩

def sp_l_split (K : PySem.W.Frag) (T : Tb) : Sp := fun vs H Q _ => ∃ (c : Int) (n : Nat), vs = [.int c, .int n] ∧ n ≤ 100 ∧
  ∀ p H' (zs : List Int), Sm T H H' → H p = none → H' p = some (.lst (zs.map V.int)) → zs.length = n → Q (.ref p) H'
theorem ok_l_split {f : Addr} {fd : FuncData} (F : Fun K "_law_split" "_law_split" s_l_split f fd) (B : Bn mg) : FnOk P w K mg base CX0 1 f fd ["_law_cell_here", "_law_many_here"] (sp_l_split K T) := by
  refine F.ok sc_l_split (fun vs H Q E h => ?_) (fun cdv A outer s H vs Q E hr h => ?_)
  · obtain ⟨c, n, rfl, _⟩ := h
    rfl
  · obtain ⟨c, n, rfl, hn, q⟩ := h
    refine ⟨_, (pss_cons (ps_set (i := 2) sc_l_split.nd rfl (.inl rfl) (pe_lst pa_nil))
      (pss_cons (ps_set (i := 3) sc_l_split.nd rfl (.inl rfl) (pe_cmpR op_ge (pv 0) (pe_op op_pow pe_int pe_int) (nomark _)))
      (pss_cons (ps_for PassesOwn.never rfl (pi_range1 (by rfl) B.range_ (pa_cons (pv 1) pa_nil)) (pg_name (i := 4) sc_l_split.nd rfl (.inl rfl))
      (pss_one (ps_if (pt_val (pv 3)) (pss_cons (ps_expr (pe_bm PySem.F.plainAttrs_list PySem.F.slot_list_append PySem.F.type_list_append mt_append (pv 2) (pa_cons (pe_op op_add (pe_op op_pow pe_int pe_int) (pe_op op_mod (pv 0) (pe_op op_pow pe_int pe_int))) pa_nil)))
      (pss_one (ps_set (i := 0) sc_l_split.nd rfl (.inl rfl) (pe_op op_fdivW (pv 0) (pe_op op_pow pe_int pe_int))))) (pss_one (ps_expr (pe_bm PySem.F.plainAttrs_list PySem.F.slot_list_append PySem.F.type_list_append mt_append (pv 2) (pa_cons (pe_op op_add (pe_op op_mul (pv 0) (pe_op op_add (pe_op op_mul pe_int (pv 4)) pe_int)) (pe_op op_mul pe_int (pv 4))) pa_nil)))))))
      (pss_one (ps_ret (pv 2)))))), ?_⟩
    refine ⟨Nat.zero_le _, fun o no => ?_⟩
    refine ⟨_, rfl, _, _, rfl, rfl, ⟨by decide, by decide, by decide⟩, _, _, rfl, rfl, ?_⟩
    refine ⟨_, rfl, n, rfl, by omega, by omega, for_range (lo := 0) (n := n)
      (fun i σ H3 => ∃ (c : Int) (b : Bool) (x4 : Option V) (zs : List Int), σ = [some (.int c), some (.int n), some (.ref o), some (.bl b), x4] ∧ Sm T H H3 ∧ H3 o = some (.lst (zs.map V.int)) ∧ zs.length = i)
      ⟨c, _, none, [], rfl, same_upd no, upd_same, rfl⟩ ?_ ?_⟩
    · rintro i σ H3 hi ⟨c, b, x4, zs, rfl, sm, eo, hl⟩
      have hs : (zs.map V.int).length < sizeLine := by
        rw [List.length_map]
        exact szl (by omega)
      refine ⟨_, rfl, _, rfl, ?_⟩
      cases b with
      | true =>
        refine iteT ?_
        refine ⟨_, rfl, .inl ⟨rfl, _, SqL.of eo⟩, _, _, rfl, rfl, ⟨by decide, by decide, by decide⟩, _, rfl, _, _, rfl, rfl, ⟨by decide, by decide, by decide⟩, _, _, rfl, rfl, (by show (0 : Int) < 10 ^ 30; decide), _, _, rfl, rfl, o, _, _, rfl, rfl, eo, hs, ?_⟩
        refine ⟨_, rfl, _, _, rfl, rfl, ⟨by decide, by decide, by decide⟩, _, _, rfl, rfl, wide_div (b := 200) (by show (0 : Int) < 10 ^ 30; decide) (by decide) (by decide) (by decide), ?_⟩
        refine ⟨_, true, _, zs ++ [10 ^ (18 : Int).toNat + c % 10 ^ (30 : Int).toNat], rfl, same_mut sm no eo, ?_, ?_⟩
        · rw [upd_same, List.map_append]
          rfl
        · rw [List.length_append, hl]
          rfl
      | false =>
        refine iteF ?_
        refine ⟨_, rfl, .inl ⟨rfl, _, SqL.of eo⟩, _, rfl, _, rfl, _, _, rfl, rfl, .inl ⟨by decide, by decide⟩, _, _, rfl, rfl, _, _, rfl, rfl, .inr ⟨by omega, by omega⟩, _, rfl, _, _, rfl, rfl, .inl ⟨by decide, by decide⟩, _, _, rfl, rfl, o, _, _, rfl, rfl, eo, hs, ?_⟩
        refine ⟨_, false, _, zs ++ [c * (2 * (0 + (i : Int)) + 3) + 7919 * (0 + (i : Int))], rfl, same_mut sm no eo, ?_, ?_⟩
        · rw [upd_same, List.map_append]
          rfl
        · rw [List.length_append, hl]
          rfl
    · rintro σ H3 ⟨c, b, x4, zs, rfl, sm, eo, hl⟩
      exact ⟨_, rfl, q o H3 zs sm no eo hl⟩

def sp_l_many (K : PySem.W.Frag) (T : Tb) : Sp := fun vs H Q _ => ∃ (a : Addr) (ns : List Int) (k : Int), vs = [.ref a, .int k] ∧ SqL K H a (ns.map V.int) ∧ 0 ≤ k ∧ k ≤ 63 ∧ ∀ m : Nat, m ≤ 63 → Q (.int m) H
theorem ok_l_many {f : Addr} {fd : FuncData} (F : Fun K "_law_many" "_law_many" s_l_many f fd) (B : Bn mg) : FnOk P w K mg base CX0 1 f fd ["_law_script", "_law_few"] (sp_l_many K T) := by
  refine F.ok sc_l_many (fun vs H Q E h => ?_) (fun cdv A outer s H vs Q E hr h => ?_)
  · obtain ⟨a, ns, k, rfl, _⟩ := h
    rfl
  · obtain ⟨a, ns, k, rfl, hS, h0, h1, q⟩ := h
    refine ⟨_, (pss_one (ps_ret (pe_callB (call_max2 rfl) (by rfl) B.max_ (by decide +kernel) (pa_cons (pv 1) (pa_cons (pe_callB (call_min2 rfl) (by rfl) B.min_ (by decide +kernel) (pa_cons (pe_callB call_len_seq (by rfl) B.len_ (by decide +kernel) (pa_cons (pv 0) pa_nil)) (pa_cons pe_int pa_nil))) pa_nil))))), ?_⟩
    refine ⟨_, rfl, _, rfl, a, _, rfl, .inl hS, _, _, rfl, _, _, rfl, ?_⟩
    rw [List.length_map]
    have e : ∃ m : Nat, m ≤ 63 ∧ (if (if (63 : Int) < (ns.length : Int) then 63 else (ns.length : Int)) > k then (if (63 : Int) < (ns.length : Int) then 63 else (ns.length : Int)) else k) = (m : Int) := by
      refine ⟨(if (if (63 : Int) < (ns.length : Int) then 63 else (ns.length : Int)) > k then (if (63 : Int) < (ns.length : Int) then 63 else (ns.length : Int)) else k).toNat, ?_, ?_⟩ <;> (split <;> (try split) <;> omega)
    obtain ⟨m, hm, em⟩ := e
    rw [em]
    exact q m hm


theorem Drawn.get : ∀ {ds qs : List Int} {i : Nat} {q : Int}, Drawn ds qs → qs[i]? = some q → ∃ d, ds[i]? = some d ∧ 0 ≤ d ∧ d < q
  | [], [], i, q, _, e => by simp at e
  | [], _ :: _, _, _, h, _ => h.elim
  | _ :: _, [], _, _, h, _ => h.elim
  | d :: _, _ :: _, 0, q, h, e => by
    obtain rfl := Option.some.inj e
    exact ⟨d, rfl, h.1.1, h.1.2⟩
  | _ :: ds, _ :: qs, i + 1, q, h, e => Drawn.get (ds := ds) (qs := qs) h.2 e
theorem at_map {ds : List Int} {i : Nat} {d z : Int} (hz : z = (i : Int)) (h : ds[i]? = some d) : atI (ds.map V.int) z = some (.int d) := by
  subst hz
  exact at_of (j := i) rfl (by rw [List.getElem?_map, h]; rfl)

def sp_p_speeds (K : PySem.W.Frag) (T : Tb) : Sp := fun vs H Q _ => ∃ a b us ns ps, vs = [.ref a, .ref b] ∧ SqL K H a (ns.map V.int) ∧ SqL K H b us ∧ DpAll K H us ((ps.map am).map amD) ∧ ns.length = ps.length ∧ ns.length ≤ 1000 ∧
  ∀ p H', Sm T H H' → H p = none → H' p = some (.lst ((spd ns ps).map V.int)) → Q (.ref p) H'
theorem am_at {K : PySem.W.Frag} {H : Hp} {us : List V} {ps : List Rat} (hd : DpAll K H us ((ps.map am).map amD)) {i : Nat} (hi : i < ps.length) : ∃ b, us[i]? = some (.ref b) ∧ SqT K H b (tv (am ps[i])) := by
  obtain ⟨v, e1, e2⟩ := dpa_get hd (i := i) (d := amD (am ps[i])) (by rw [List.getElem?_map, List.getElem?_map, List.getElem?_eq_getElem hi]; rfl)
  obtain ⟨b, rfl, hb⟩ := pd_at e2
  exact ⟨b, e1, hb⟩

theorem atI_head {xs : List Int} {s : Int} {r : List Int} (h : xs = s :: r) : atI (xs.reverse.map V.int) (-1) = some (.int s) := by
  rw [h, List.reverse_cons, List.map_append]
  exact atI_last _ _
theorem ok_p_speeds {f : Addr} {fd : FuncData} (F : Fun K "speeds" "speeds" s_p_speeds f fd) (B : Bn mg) : FnOk P w K mg base CX0 1 f fd ["paces", "places"] (sp_p_speeds K T) := by
  refine F.ok sc_p_speeds (fun vs H Q E h => ?_) (fun cdv A outer s H vs Q E hr h => ?_)
  · obtain ⟨a, b, us, ns, ps, rfl, _⟩ := h
    rfl
  · obtain ⟨a, b, us, ns, ps, rfl, ha, hb, hd, hl, hl2, q⟩ := h
    refine ⟨_, (pss_cons (ps_set (i := 2) sc_p_speeds.nd rfl (.inl rfl) (pe_lst pa_nil))
      (pss_cons (ps_for PassesOwn.never rfl (pi_revR (by rfl) B.reversed_ (prg_1 (by rfl) B.range_ (pe_callB call_len_seq (by rfl) B.len_ (by decide +kernel) (pa_cons (pv 0) pa_nil)))) (pg_name (i := 3) sc_p_speeds.nd rfl (.inl rfl))
      (pss_cons (ps_set (i := 4) sc_p_speeds.nd rfl (.inl rfl) (pe_ix ix_list (pv 0) (pv 3) (fun _ _ => rfl)))
      (pss_cons (ps_if (PW.pt (pw_and (pt_truth (pv 2) (by intro _; rfl)) (pw_and1 (pt_cmpR (op_eqD hr.units) (pe_ix ix_list (pv 1) (pv 3) (fun _ _ => rfl)) (pe_ix ix_list (pv 1) (pe_op op_add (pv 3) pe_int) (fun _ _ => rfl)) (nomark _))))) (pss_one (ps_set (i := 4) sc_p_speeds.nd rfl (.inl rfl) (pe_callB (call_min2 rfl) (by rfl) B.min_ (by decide +kernel) (pa_cons (pv 4) (pa_cons (pe_ix ix_list (pv 2) (pe_un un_neg pe_int) (fun _ _ => rfl)) pa_nil))))) pss_nil)
      (pss_one (ps_expr (pe_bm PySem.F.plainAttrs_list PySem.F.slot_list_append PySem.F.type_list_append mt_append (pv 2) (pa_cons (pv 4) pa_nil)))))))
      (pss_cons (ps_expr (pe_bm0 PySem.F.plainAttrs_list PySem.F.slot_list_reverse PySem.F.type_list_reverse mt_reverse (pv 2)))
      (pss_one (ps_ret (pv 2)))))), ?_⟩
    have lu : us.length = ps.length := by rw [dpa_len hd, List.length_map, List.length_map]
    refine ⟨Nat.zero_le _, fun o no => ?_⟩
    have u0 := same_upd (T := T) (o := .lst []) no
    refine ⟨_, rfl, a, _, rfl, .inl (u0.seq ha), _, rfl, by decide, by decide, by rw [List.length_map]; omega, by rw [List.length_map]; omega, for_rangeC (fun i σ H3 => Sm T H H3 ∧ ∃ x3 x4, σ = [some (.ref a), some (.ref b), some (.ref o), x3, x4] ∧ H3 o = some (.lst (((spd (ns.drop (ns.length - i)) (ps.drop (ns.length - i))).reverse).map V.int))) ?_ ?_ ?_⟩
    · refine ⟨u0, _, _, rfl, ?_⟩
      rw [upd_same, Nat.sub_zero, List.drop_length]
      rfl
    · rintro i σ H3 hi ⟨s3, x3, x4, rfl, eo⟩
      rw [List.length_map] at hi
      have hin : i < ns.length := by omega
      obtain ⟨j, hj⟩ : ∃ j, j = ns.length - 1 - i := ⟨_, rfl⟩
      have hjn : j < ns.length := by omega
      have e1 : ns.length - i = j + 1 := by omega
      have e2 : ns.length - (i + 1) = j := by omega
      rw [e1] at eo
      have st := spd_step hl hjn
      have ez : (0 + ((((ns.map V.int).length : Int) - 0).toNat : Int) - 1 + (i : Int) * -1) = (j : Int) := by rw [List.length_map]; omega
      rw [ez]
      generalize hG : spd (ns.drop (j + 1)) (ps.drop (j + 1)) = G at *
      have lG : G.length = ns.length - (j + 1) := by rw [← hG, spd_len _ _ (by rw [List.length_drop, List.length_drop, hl]), List.length_drop]
      refine ⟨_, rfl, _, rfl, a, _, _, .int ns[j], rfl, rfl, s3.seq ha, at_map (i := j) rfl (List.getElem?_eq_getElem hjn), ?_⟩
      dsimp only [gName]
      refine seq_if (fun σ' H' => Sm T H3 H' ∧ ∃ x3 sp, σ' = [some (.ref a), some (.ref b), some (.ref o), x3, some (.int sp)] ∧ spd (ns.drop j) (ps.drop j) = sp :: G) (fun σ' H' p => ?_) (fun k => ?_)
      · obtain ⟨s4, x3, sp, rfl, es⟩ := p
        have eo4 := s4.k eo
        refine ⟨_, rfl, .inl ⟨rfl, _, SqL.of eo4⟩, _, rfl, o, _, _, rfl, rfl, eo4, ?_, ?_⟩
        · rw [List.length_map, List.length_reverse, lG]
          exact szl (by omega)
        · refine ⟨same_mut (s3.trans s4) no eo4, _, _, rfl, ?_⟩
          rw [upd_same, e2, es, List.reverse_cons, List.map_append]
          rfl
      · refine ⟨_, rfl, _, .inl ⟨_, SqL.of eo, rfl⟩, ?_⟩
        by_cases hlast : j + 1 < ns.length
        · have hne : ((G.reverse.map V.int).isEmpty) = false := by
            cases hg : G with
            | nil => rw [hg] at lG; simp at lG; omega
            | cons s r => simp
          rw [hne]
          refine iteT ?_
          obtain ⟨b1, g1, q1⟩ := am_at hd (i := j) (by omega)
          obtain ⟨b2, g2, q2⟩ := am_at hd (i := j + 1) (by omega)
          refine ⟨_, rfl, _, rfl, b, _, _, .ref b1, rfl, rfl, s3.seq hb, at_of (j := j) rfl g1, ?_⟩
          refine ⟨_, rfl, _, rfl, _, _, rfl, rfl, b, _, _, .ref b2, rfl, rfl, s3.seq hb, at_of (j := j + 1) (by omega) g2, ?_⟩
          refine ⟨amD (am ps[j]), amD (am ps[j + 1]), amD_dp (same_tup s3 q1), amD_dp (same_tup s3 q2), shaped_am _, shaped_am _, _, rfl, ?_⟩
          rw [eqv_am]
          rw [dif_pos hlast] at st
          by_cases he : ps[j] = ps[j + 1]
          · rw [decide_eq_true (by rw [he])]
            refine iteT ?_
            rw [if_pos he] at st
            obtain ⟨s, r, hg⟩ : ∃ s r, G = s :: r := by
              cases hg : G with
              | nil => rw [hg] at lG; simp at lG; omega
              | cons s r => exact ⟨s, r, rfl⟩
            refine ⟨_, rfl, _, rfl, 1, rfl, o, _, _, _, rfl, rfl, SqL.of eo, atI_head hg, _, _, rfl, ?_⟩
            refine k _ _ ⟨Sm.refl, _, _, rfl, ?_⟩
            rw [st, hg, List.headD_cons]
            rfl
          · rw [decide_eq_false (fun z => he (am_inj z))]
            refine iteF ?_
            rw [if_neg he] at st
            exact k _ _ ⟨Sm.refl, _, _, rfl, st⟩
        · have hg : G = [] := by
            cases hg : G with
            | nil => rfl
            | cons s r => rw [hg] at lG; simp at lG; omega
          rw [hg]
          refine iteF (iteF ?_)
          rw [dif_neg hlast, hg] at st
          exact k _ _ ⟨Sm.refl, _, _, rfl, by rw [st, hg]⟩
    · rintro σ H3 ⟨s3, x3, x4, rfl, eo⟩
      rw [List.length_map] at eo
      rw [show ns.length - (((ns.length : Nat) : Int) - 0).toNat = 0 by omega, List.drop_zero, List.drop_zero] at eo
      refine ⟨_, rfl, .inl ⟨rfl, _, SqL.of eo⟩, o, _, rfl, rfl, eo, ?_⟩
      refine ⟨_, rfl, q o _ (same_mut s3 no eo) no ?_⟩
      rw [upd_same, ← List.map_reverse, List.reverse_reverse]

theorem bd_int {k : Int} (h : k.natAbs < 2 ^ 3900) : Bd 4000 ((k, 1) : Am) := ⟨Nat.lt_trans h (Nat.pow_lt_pow_right (by decide) (by decide)), by show (1 : Int).natAbs < 2 ^ 4000; exact Nat.one_lt_two_pow (by decide)⟩
theorem small {k : Int} (h : k.natAbs < 2 ^ 60) : k.natAbs < 2 ^ 3900 := Nat.lt_trans h (Nat.pow_lt_pow_right (by decide) (by decide))
theorem bd_fr {D k : Int} {r : Rat} (hD : 0 < D) (hd : D.natAbs < 2 ^ 3900) (h1 : 1 ≤ k) (h2 : k ≤ 12) (h : Fr (D * k) r) (h3 : -(1000 : Rat) ≤ r) (h4 : r ≤ 1000) : Bd 4000 (am r) := by
  have e : (2 : Nat) ^ 4000 = 2 ^ 100 * 2 ^ 3900 := by rw [← Nat.pow_add]
  have a1 : (D * k).natAbs ≤ 16 * D.natAbs := by rw [Int.natAbs_mul, Nat.mul_comm]; exact Nat.mul_le_mul_right _ (by omega)
  have a2 : (1000 * (D * k)).natAbs ≤ 16000 * D.natAbs := by rw [Int.natAbs_mul]; show 1000 * _ ≤ _; omega
  have a3 : (2 : Nat) ^ 100 * 2 ^ 3900 ≥ 16000 * 2 ^ 3900 := Nat.mul_le_mul_right _ (by decide)
  exact fr_bd (D := D * k) (B := 1000) (Int.mul_pos hD (by omega)) h h3 h4 (by omega) (by omega)
theorem bd_fr1 {D : Int} {r : Rat} (hD : 0 < D) (hd : D.natAbs < 2 ^ 3900) (h : Fr D r) (h3 : -(1000 : Rat) ≤ r) (h4 : r ≤ 1000) : Bd 4000 (am r) :=
  bd_fr (k := 1) hD hd (by decide) (by decide) (by rw [Int.mul_one]; exact h) h3 h4

theorem bdL {D : Int} {r : Rat} (hD : 0 < D) (hd : D.natAbs < 2 ^ 3900) (h : Fr D r) (h3 : 0 ≤ r) (h4 : r ≤ 1000000) : Bd 4000 (am r) := by
  have e : (2 : Nat) ^ 4000 = 2 ^ 100 * 2 ^ 3900 := by rw [← Nat.pow_add]
  have a2 : (1000000 * D).natAbs ≤ 1000000 * D.natAbs := by rw [Int.natAbs_mul]; exact Nat.le_refl _
  have a3 : (2 : Nat) ^ 100 * 2 ^ 3900 ≥ 1000001 * 2 ^ 3900 := Nat.mul_le_mul_right _ (by decide)
  exact fr_bd (D := D) (B := 1000000) hD h (neg_le h3 (by decide)) h4 (by omega) (by omega)
theorem bdX {D : Int} {r : Rat} (hD : 0 < D) (hd : D.natAbs < 2 ^ 3900) (h : Fr D r) (h3 : 0 ≤ r) (h4 : r ≤ 1000000000) : Bd 4000 (am r) := by
  have e : (2 : Nat) ^ 4000 = 2 ^ 100 * 2 ^ 3900 := by rw [← Nat.pow_add]
  have a2 : (1000000000 * D).natAbs ≤ 1000000000 * D.natAbs := by rw [Int.natAbs_mul]; exact Nat.le_refl _
  have a3 : (2 : Nat) ^ 100 * 2 ^ 3900 ≥ 1000000001 * 2 ^ 3900 := Nat.mul_le_mul_right _ (by decide)
  exact fr_bd (D := D) (B := 1000000000) hD h (neg_le h3 (by decide)) h4 (by omega) (by omega)
theorem mul_rng {m L g : Rat} (h0 : 0 ≤ m) (h1 : m ≤ L) (g0 : 1 ≤ g) (g1 : g ≤ 12) : 0 ≤ m * g ∧ m * g ≤ 12 * L := by
  have a := Rat.mul_le_mul_of_nonneg_left g1 h0
  have b := Rat.mul_le_mul_of_nonneg_left g0 h0
  exact ⟨by grind, by grind⟩
theorem mul_rng0 {m L g : Rat} (h0 : 0 ≤ m) (h1 : m ≤ L) (g0 : 0 ≤ g) (g1 : g ≤ 12) : 0 ≤ m * g ∧ m * g ≤ 12 * L := by
  have a := Rat.mul_le_mul_of_nonneg_left g1 h0
  have b := Rat.mul_nonneg h0 g0
  exact ⟨b, by grind⟩
theorem div_nn {a : Rat} {k : Int} (hk : 1 ≤ k) (ha : 0 ≤ a) : 0 ≤ a / (k : Rat) := by
  have e := div_mul (a := a) (show 0 < k by omega)
  by_cases c : a / (k : Rat) < 0
  · have := Rat.mul_lt_mul_of_pos_right c (cp (show 0 < k by omega))
    grind
  · exact Rat.not_lt.mp c
/-- lists of amounts -/
def AmL (K : PySem.W.Frag) (H : Hp) (us : List V) (rs : List Rat) : Prop := DpAll K H us ((rs.map am).map amD)
theorem AmL.len {K : PySem.W.Frag} {H : Hp} {us : List V} {rs : List Rat} (h : AmL K H us rs) : us.length = rs.length := by rw [dpa_len h, List.length_map, List.length_map]
theorem AmL.at {K : PySem.W.Frag} {H : Hp} {us : List V} {rs : List Rat} (h : AmL K H us rs) {i : Nat} (hi : i < rs.length) : ∃ b, us[i]? = some (.ref b) ∧ SqT K H b (tv (am (rs.getD i 0))) := by
  rw [getD_lt hi]
  exact am_at h hi
theorem AmL.keep {T : Tb} {K : PySem.W.Frag} {H H' : Hp} {us : List V} {rs : List Rat} (h : AmL K H us rs) (s : Sm T H H') : AmL K H' us rs := dpa_same s _ _ h
theorem AmL.push {K : PySem.W.Frag} {H : Hp} {us : List V} {rs : List Rat} {D b : Addr} {xs : List V} {o : HO} {r : Rat} (h : AmL K H us rs) (hD : H D = some (.lst xs)) (hb : SqT K H b (tv (am r))) : AmL K (upd H D o) (us ++ [.ref b]) (rs ++ [r]) := by
  unfold AmL
  rw [List.map_append, List.map_append]
  exact dpa_app (pds_mut hD h) (.cons (pd_mut (amD_dp hb) hD) .nil)
theorem AmL.mut {K : PySem.W.Frag} {H : Hp} {us : List V} {rs : List Rat} {D : Addr} {xs : List V} {o : HO} (h : AmL K H us rs) (hD : H D = some (.lst xs)) : AmL K (upd H D o) us rs := pds_mut hD h
theorem AmL.dp {K : PySem.W.Frag} {H : Hp} {us : List V} {rs : List Rat} {a : Addr} (h : AmL K H us rs) (ha : SqL K H a us) : Dp K H (.ref a) (.list ((rs.map am).map amD)) := .lst ha h
theorem take_range {α : Type} {f : Nat → α} {i : Nat} : ((List.range (i + 1)).map f) = (List.range i).map f ++ [f i] := by rw [List.range_succ, List.map_append]; rfl

theorem at_neg1 {α : Type} {xs : List α} {v : α} (h : 0 < xs.length) (e : xs[xs.length - 1]? = some v) : atI xs (-1) = some v := by
  have hne : xs ≠ [] := by intro c; rw [c] at h; exact Nat.lt_irrefl _ h
  obtain ⟨ys, z, rfl⟩ : ∃ ys z, xs = ys ++ [z] := ⟨xs.dropLast, xs.getLast hne, (List.dropLast_concat_getLast hne).symm⟩
  rw [List.length_append, show ys.length + [z].length - 1 = ys.length by simp, List.getElem?_append_right (Nat.le_refl _), Nat.sub_self] at e
  obtain rfl : z = v := Option.some.inj e
  exact atI_last _ _

def sp_l_same_n (n : Nat) (K : PySem.W.Frag) (T : Tb) : Sp := fun vs H Q _ => ∃ x y d, vs = [x, y] ∧ Dp K H x d ∧ Dp K H y d ∧ depOk n d = true ∧ ∀ H', Sm T H H' → Q (.bl true) H'
abbrev sp_l_same (K : PySem.W.Frag) (T : Tb) : Sp := sp_l_same_n 5 K T
theorem ok_l_same_n {f : Addr} {fd : FuncData} (F : Fun K "_law_same" "_law_same" s_l_same f fd) (B : Bn mg) (g : mg "_law_same" = some (.ref f)) (b : Binds K fd ["_law_found", "_law_due"] []) :
    ∀ n, FnOk P w K mg base CX0 (n + 1) f fd ["_law_found", "_law_due"] (sp_l_same_n n K T)
  | 0 => by
    refine F.ok sc_l_same (fun vs H Q E h => ?_) (fun cdv A outer s H vs Q E hr h => ?_)
    · obtain ⟨x, y, d, rfl, _⟩ := h
      rfl
    · obtain ⟨x, y, d, rfl, hx, hy, hd, q⟩ := h
      have tx := tyx_of hx
      have ty := tyx_of hy
      have q0 := q H Sm.refl
      refine ⟨_, (pss_cons (ps_if (pt_cmpR op_isN (pv 1) pe_non (nomark _)) (pss_one (ps_ret (pe_cmpR op_isN (pv 0) pe_non (nomark _)))) pss_nil)
      (pss_cons (ps_if (PW.pt (pw_or (pt_val (pe_callB call_isi (by rfl) B.isinstance_ (by decide +kernel) (pa_cons (pv 1) (pa_cons (pe_bltn (v := .ty "bool") (by rfl) B.bool_ (by decide +kernel) rfl) pa_nil)))) (pw_or1 (pt_val (pe_callB call_isi (by rfl) B.isinstance_ (by decide +kernel) (pa_cons (pv 0) (pa_cons (pe_bltn (v := .ty "bool") (by rfl) B.bool_ (by decide +kernel) rfl) pa_nil))))))) (pss_one (ps_ret (pe_and (pe_callB call_isi (by rfl) B.isinstance_ (by decide +kernel) (pa_cons (pv 1) (pa_cons (pe_bltn (v := .ty "bool") (by rfl) B.bool_ (by decide +kernel) rfl) pa_nil))) (pe_and (pe_callB call_isi (by rfl) B.isinstance_ (by decide +kernel) (pa_cons (pv 0) (pa_cons (pe_bltn (v := .ty "bool") (by rfl) B.bool_ (by decide +kernel) rfl) pa_nil))) (pe_one (pe_cmpR op_eq (pv 0) (pv 1) (nomark _))))))) pss_nil)
      (pss_cons (ps_if (pt_val (pe_callB call_isi (by rfl) B.isinstance_ (by decide +kernel) (pa_cons (pv 1) (pa_cons (pe_bltn (v := .ty "int") (by rfl) B.int_ (by decide +kernel) rfl) pa_nil)))) (pss_one (ps_ret (pe_and (pe_callB call_isi (by rfl) B.isinstance_ (by decide +kernel) (pa_cons (pv 0) (pa_cons (pe_bltn (v := .ty "int") (by rfl) B.int_ (by decide +kernel) rfl) pa_nil))) (pe_one (pe_cmpR op_eq (pv 0) (pv 1) (nomark _)))))) pss_nil)
      (pss_cons (ps_if (pt_val (pe_callB call_isi (by rfl) B.isinstance_ (by decide +kernel) (pa_cons (pv 1) (pa_cons (pe_bltn (v := .ty "str") (by rfl) B.str_ (by decide +kernel) rfl) pa_nil)))) (pss_one (ps_ret (pe_and (pe_callB call_isi (by rfl) B.isinstance_ (by decide +kernel) (pa_cons (pv 0) (pa_cons (pe_bltn (v := .ty "str") (by rfl) B.str_ (by decide +kernel) rfl) pa_nil))) (pe_one (pe_cmpR op_eq (pv 0) (pv 1) (nomark _)))))) pss_nil)
      (pss_cons (ps_if (PW.pt (pw_or (pt_cmpR op_ne (pe_callB call_isi (by rfl) B.isinstance_ (by decide +kernel) (pa_cons (pv 1) (pa_cons (pe_bltn (v := .ty "tuple") (by rfl) B.tuple_ (by decide +kernel) rfl) pa_nil))) (pe_callB call_isi (by rfl) B.isinstance_ (by decide +kernel) (pa_cons (pv 0) (pa_cons (pe_bltn (v := .ty "tuple") (by rfl) B.tuple_ (by decide +kernel) rfl) pa_nil))) (nomark _)) (pw_or1 (pt_cmpR op_ne (pe_callB call_isi (by rfl) B.isinstance_ (by decide +kernel) (pa_cons (pv 1) (pa_cons (pe_bltn (v := .ty "list") (by rfl) B.list_ (by decide +kernel) rfl) pa_nil))) (pe_callB call_isi (by rfl) B.isinstance_ (by decide +kernel) (pa_cons (pv 0) (pa_cons (pe_bltn (v := .ty "list") (by rfl) B.list_ (by decide +kernel) rfl) pa_nil))) (nomark _))))) (pss_one (ps_ret pe_bl)) pss_nil)
      (pss_one ps_never)))))), ?_⟩
      cases d with
      | none =>
        cases hx; cases hy
        exact ⟨_, rfl, rfl, _, rfl, iteT ⟨_, rfl, rfl, q0⟩⟩
      | bool b =>
        cases hx; cases hy
        refine ⟨_, rfl, rfl, _, rfl, iteF ?_⟩
        refine ⟨_, rfl, _, _, _, _, true, rfl, .ty "bool", ty, kit_ty kb_bool_bool, _, rfl, iteT (iteT ?_)⟩
        refine ⟨_, rfl, _, _, _, _, true, rfl, .ty "bool", ty, kit_ty kb_bool_bool, _, rfl, iteT ?_⟩
        refine ⟨_, rfl, _, _, _, _, true, rfl, .ty "bool", tx, kit_ty kb_bool_bool, _, rfl, iteT ?_⟩
        refine ⟨_, rfl, _, rfl, rfl, ?_⟩
        rw [decide_eq_true rfl]
        exact q0
      | int i =>
        cases hx; cases hy
        refine ⟨_, rfl, rfl, _, rfl, iteF ?_⟩
        refine ⟨_, rfl, _, _, _, _, false, rfl, .ty "bool", ty, kit_ty kb_int_bool, _, rfl, iteF ?_⟩
        refine ⟨_, rfl, _, _, _, _, false, rfl, .ty "bool", tx, kit_ty kb_int_bool, _, rfl, iteF ?_⟩
        refine ⟨_, rfl, _, _, _, _, true, rfl, .ty "int", ty, kit_ty kb_int_int, _, rfl, iteT ?_⟩
        refine ⟨_, rfl, _, _, _, _, true, rfl, .ty "int", tx, kit_ty kb_int_int, _, rfl, iteT ?_⟩
        refine ⟨_, rfl, _, rfl, rfl, ?_⟩
        rw [decide_eq_true rfl]
        exact q0
      | str z =>
        cases hx; cases hy
        refine ⟨_, rfl, rfl, _, rfl, iteF ?_⟩
        refine ⟨_, rfl, _, _, _, _, false, rfl, .ty "bool", ty, kit_ty kb_str_bool, _, rfl, iteF ?_⟩
        refine ⟨_, rfl, _, _, _, _, false, rfl, .ty "bool", tx, kit_ty kb_str_bool, _, rfl, iteF ?_⟩
        refine ⟨_, rfl, _, _, _, _, false, rfl, .ty "int", ty, kit_ty kb_str_int, _, rfl, iteF ?_⟩
        refine ⟨_, rfl, _, _, _, _, true, rfl, .ty "str", ty, kit_ty kb_str_str, _, rfl, iteT ?_⟩
        refine ⟨_, rfl, _, _, _, _, true, rfl, .ty "str", tx, kit_ty kb_str_str, _, rfl, iteT ?_⟩
        refine ⟨_, rfl, _, rfl, rfl, ?_⟩
        rw [decide_eq_true rfl]
        exact q0
      | list ds => cases hd
      | tuple ds => cases hd
      | dict _ => cases hd
  | n + 1 => by
    have F_l_same : Fn P w K mg base (n + 1) "_law_same" ["_law_found", "_law_due"] (sp_l_same_n n K T) := Fn.mk' (ok_l_same_n F B g b n) g F.kp b
    refine F.ok sc_l_same (fun vs H Q E h => ?_) (fun cdv A outer s H vs Q E hr h => ?_)
    · obtain ⟨x, y, d, rfl, _⟩ := h
      rfl
    · obtain ⟨x, y, d, rfl, hx, hy, hd, q⟩ := h
      have tx := tyx_of hx
      have ty := tyx_of hy
      have q0 := q H Sm.refl
      refine ⟨_, (pss_cons (ps_if (pt_cmpR op_isN (pv 1) pe_non (nomark _)) (pss_one (ps_ret (pe_cmpR op_isN (pv 0) pe_non (nomark _)))) pss_nil)
      (pss_cons (ps_if (PW.pt (pw_or (pt_val (pe_callB call_isi (by rfl) B.isinstance_ (by decide +kernel) (pa_cons (pv 1) (pa_cons (pe_bltn (v := .ty "bool") (by rfl) B.bool_ (by decide +kernel) rfl) pa_nil)))) (pw_or1 (pt_val (pe_callB call_isi (by rfl) B.isinstance_ (by decide +kernel) (pa_cons (pv 0) (pa_cons (pe_bltn (v := .ty "bool") (by rfl) B.bool_ (by decide +kernel) rfl) pa_nil))))))) (pss_one (ps_ret (pe_and (pe_callB call_isi (by rfl) B.isinstance_ (by decide +kernel) (pa_cons (pv 1) (pa_cons (pe_bltn (v := .ty "bool") (by rfl) B.bool_ (by decide +kernel) rfl) pa_nil))) (pe_and (pe_callB call_isi (by rfl) B.isinstance_ (by decide +kernel) (pa_cons (pv 0) (pa_cons (pe_bltn (v := .ty "bool") (by rfl) B.bool_ (by decide +kernel) rfl) pa_nil))) (pe_one (pe_cmpR op_eq (pv 0) (pv 1) (nomark _))))))) pss_nil)
      (pss_cons (ps_if (pt_val (pe_callB call_isi (by rfl) B.isinstance_ (by decide +kernel) (pa_cons (pv 1) (pa_cons (pe_bltn (v := .ty "int") (by rfl) B.int_ (by decide +kernel) rfl) pa_nil)))) (pss_one (ps_ret (pe_and (pe_callB call_isi (by rfl) B.isinstance_ (by decide +kernel) (pa_cons (pv 0) (pa_cons (pe_bltn (v := .ty "int") (by rfl) B.int_ (by decide +kernel) rfl) pa_nil))) (pe_one (pe_cmpR op_eq (pv 0) (pv 1) (nomark _)))))) pss_nil)
      (pss_cons (ps_if (pt_val (pe_callB call_isi (by rfl) B.isinstance_ (by decide +kernel) (pa_cons (pv 1) (pa_cons (pe_bltn (v := .ty "str") (by rfl) B.str_ (by decide +kernel) rfl) pa_nil)))) (pss_one (ps_ret (pe_and (pe_callB call_isi (by rfl) B.isinstance_ (by decide +kernel) (pa_cons (pv 0) (pa_cons (pe_bltn (v := .ty "str") (by rfl) B.str_ (by decide +kernel) rfl) pa_nil))) (pe_one (pe_cmpR op_eq (pv 0) (pv 1) (nomark _)))))) pss_nil)
      (pss_cons (ps_if (PW.pt (pw_or (pt_cmpR op_ne (pe_callB call_isi (by rfl) B.isinstance_ (by decide +kernel) (pa_cons (pv 1) (pa_cons (pe_bltn (v := .ty "tuple") (by rfl) B.tuple_ (by decide +kernel) rfl) pa_nil))) (pe_callB call_isi (by rfl) B.isinstance_ (by decide +kernel) (pa_cons (pv 0) (pa_cons (pe_bltn (v := .ty "tuple") (by rfl) B.tuple_ (by decide +kernel) rfl) pa_nil))) (nomark _)) (pw_or1 (pt_cmpR op_ne (pe_callB call_isi (by rfl) B.isinstance_ (by decide +kernel) (pa_cons (pv 1) (pa_cons (pe_bltn (v := .ty "list") (by rfl) B.list_ (by decide +kernel) rfl) pa_nil))) (pe_callB call_isi (by rfl) B.isinstance_ (by decide +kernel) (pa_cons (pv 0) (pa_cons (pe_bltn (v := .ty "list") (by rfl) B.list_ (by decide +kernel) rfl) pa_nil))) (nomark _))))) (pss_one (ps_ret pe_bl)) pss_nil)
      (pss_one (ps_ret (pe_and (pe_cmpR op_eq (pe_callB call_len_seq (by rfl) B.len_ (by decide +kernel) (pa_cons (pv 0) pa_nil)) (pe_callB call_len_seq (by rfl) B.len_ (by decide +kernel) (pa_cons (pv 1) pa_nil)) (nomark _)) (pe_one (pe_callB (cr_all rfl) (by rfl) B.all_ (by decide +kernel) (pa_cons (pe_lc (own := [("_law_k", 2)]) (g := (gName 2)) (tt := tYes) (by rfl) sc_l_same.nd (pi_range1 (by rfl) B.range_ (pa_cons (pe_callB call_len_seq (by rfl) B.len_ (by decide +kernel) (pa_cons (pv 1) pa_nil)) pa_nil)) (blkOk_by (own := [("_law_k", 2)]) (N := ["_law_found", "_law_due", "_law_k"]) (sc := (defScope s_l_same)) (by decide +kernel)) (fun _ _ _ _ _ => (pg_name (i := 2) sc_l_same.nd rfl (.inl rfl))) (fun _ _ _ _ _ => pts_nil) (fun _ _ _ _ _ => (pe_fn F_l_same hr (pa_cons (pe_ix (r := rIx K) ix_seq (pv 0) (pv 2) (fun _ _ => rfl)) (pa_cons (pe_ix (r := rIx K) ix_seq (pv 1) (pv 2) (fun _ _ => rfl)) pa_nil))))) pa_nil))))))))))), ?_⟩
      cases d with
      | none =>
        cases hx; cases hy
        exact ⟨_, rfl, rfl, _, rfl, iteT ⟨_, rfl, rfl, q0⟩⟩
      | bool b =>
        cases hx; cases hy
        refine ⟨_, rfl, rfl, _, rfl, iteF ?_⟩
        refine ⟨_, rfl, _, _, _, _, true, rfl, .ty "bool", ty, kit_ty kb_bool_bool, _, rfl, iteT (iteT ?_)⟩
        refine ⟨_, rfl, _, _, _, _, true, rfl, .ty "bool", ty, kit_ty kb_bool_bool, _, rfl, iteT ?_⟩
        refine ⟨_, rfl, _, _, _, _, true, rfl, .ty "bool", tx, kit_ty kb_bool_bool, _, rfl, iteT ?_⟩
        refine ⟨_, rfl, _, rfl, rfl, ?_⟩
        rw [decide_eq_true rfl]
        exact q0
      | int i =>
        cases hx; cases hy
        refine ⟨_, rfl, rfl, _, rfl, iteF ?_⟩
        refine ⟨_, rfl, _, _, _, _, false, rfl, .ty "bool", ty, kit_ty kb_int_bool, _, rfl, iteF ?_⟩
        refine ⟨_, rfl, _, _, _, _, false, rfl, .ty "bool", tx, kit_ty kb_int_bool, _, rfl, iteF ?_⟩
        refine ⟨_, rfl, _, _, _, _, true, rfl, .ty "int", ty, kit_ty kb_int_int, _, rfl, iteT ?_⟩
        refine ⟨_, rfl, _, _, _, _, true, rfl, .ty "int", tx, kit_ty kb_int_int, _, rfl, iteT ?_⟩
        refine ⟨_, rfl, _, rfl, rfl, ?_⟩
        rw [decide_eq_true rfl]
        exact q0
      | str z =>
        cases hx; cases hy
        refine ⟨_, rfl, rfl, _, rfl, iteF ?_⟩
        refine ⟨_, rfl, _, _, _, _, false, rfl, .ty "bool", ty, kit_ty kb_str_bool, _, rfl, iteF ?_⟩
        refine ⟨_, rfl, _, _, _, _, false, rfl, .ty "bool", tx, kit_ty kb_str_bool, _, rfl, iteF ?_⟩
        refine ⟨_, rfl, _, _, _, _, false, rfl, .ty "int", ty, kit_ty kb_str_int, _, rfl, iteF ?_⟩
        refine ⟨_, rfl, _, _, _, _, true, rfl, .ty "str", ty, kit_ty kb_str_str, _, rfl, iteT ?_⟩
        refine ⟨_, rfl, _, _, _, _, true, rfl, .ty "str", tx, kit_ty kb_str_str, _, rfl, iteT ?_⟩
        refine ⟨_, rfl, _, rfl, rfl, ?_⟩
        rw [decide_eq_true rfl]
        exact q0
      | list ds =>
        cases hx with
        | @lst ax xs _ sx ax_ =>
        cases hy with
        | @lst ay ys _ sy ay_ =>
        refine ⟨_, rfl, rfl, _, rfl, iteF ?_⟩
        refine ⟨_, rfl, _, _, _, _, false, rfl, .ty "bool", ty, kit_ty kb_list_bool, _, rfl, iteF ?_⟩
        refine ⟨_, rfl, _, _, _, _, false, rfl, .ty "bool", tx, kit_ty kb_list_bool, _, rfl, iteF ?_⟩
        refine ⟨_, rfl, _, _, _, _, false, rfl, .ty "int", ty, kit_ty kb_list_int, _, rfl, iteF ?_⟩
        refine ⟨_, rfl, _, _, _, _, false, rfl, .ty "str", ty, kit_ty kb_list_str, _, rfl, iteF ?_⟩
        refine ⟨_, rfl, _, _, _, _, false, rfl, .ty "tuple", ty, kit_ty kb_list_tuple, _, rfl, _, _, _, _, false, rfl, .ty "tuple", tx, kit_ty kb_list_tuple, rfl, _, rfl, iteF ?_⟩
        refine ⟨_, rfl, _, _, _, _, true, rfl, .ty "list", ty, kit_ty kb_list_list, _, rfl, _, _, _, _, true, rfl, .ty "list", tx, kit_ty kb_list_list, rfl, _, rfl, iteF ?_⟩
        have hd' : (decide (ds.length ≤ 9000) && ds.all (depOk n)) = true := hd
        rw [Bool.and_eq_true] at hd'
        have hle : ds.length ≤ 9000 := of_decide_eq_true hd'.1
        have lx := dpa_len ax_
        have ly := dpa_len ay_
        refine ⟨_, rfl, ax, xs, rfl, .inl sx, _, rfl, ay, ys, rfl, .inl sy, rfl, _, rfl, ?_⟩
        rw [lx, ly, decide_eq_true rfl]
        refine iteT ?_
        refine ⟨_, rfl, ay, ys, rfl, .inl sy, _, rfl, by rw [ly]; omega, by rw [ly]; omega, fun D hD => lc_range (lo := 0) (n := ys.length)
          (Qd := _) (fun i H' => Sm T H H' ∧ H' D = some (.lst (List.replicate i (V.bl true)))) ⟨same_upd hD, upd_same⟩ ?_ ?_⟩
        · rintro i H' hi ⟨sm, eD⟩
          rw [ly] at hi
          obtain ⟨vx, ex, dx⟩ := dpa_get ax_ (List.getElem?_eq_getElem hi)
          obtain ⟨vy, ey, dy⟩ := dpa_get ay_ (List.getElem?_eq_getElem hi)
          refine ⟨rfl, tyes_i ?_⟩
          refine ⟨_, rfl, _, rfl, .inl ⟨ax, xs, _, vx, rfl, rfl, sm.seq sx, at_of (j := i) (by omega) ex, ?_⟩⟩
          refine ⟨_, rfl, _, rfl, .inl ⟨ay, ys, _, vy, rfl, rfl, sm.seq sy, at_of (j := i) (by omega) ey, ?_⟩⟩
          refine ⟨vx, vy, ds[i], rfl, dp_same sm _ _ dx, dp_same sm _ _ dy, List.all_eq_true.mp hd'.2 _ (List.getElem_mem hi), fun H2 s2 => ⟨_, s2.k eD, ?_, same_mut (sm.trans s2) hD (s2.lst eD), ?_⟩⟩
          · rw [List.length_replicate]
            exact szl (by omega)
          · rw [upd_same, ← List.replicate_succ']
        · rintro H' ⟨sm, eD⟩
          rw [ly] at eD
          refine ⟨D, List.replicate ds.length true, rfl, SqL.of (by rw [eD, List.map_replicate]), ?_⟩
          rw [rep_all]
          exact q H' sm
      | tuple ds =>
        cases hx with
        | @tup ax xs _ sx ax_ =>
        cases hy with
        | @tup ay ys _ sy ay_ =>
        refine ⟨_, rfl, rfl, _, rfl, iteF ?_⟩
        refine ⟨_, rfl, _, _, _, _, false, rfl, .ty "bool", ty, kit_ty kb_tuple_bool, _, rfl, iteF ?_⟩
        refine ⟨_, rfl, _, _, _, _, false, rfl, .ty "bool", tx, kit_ty kb_tuple_bool, _, rfl, iteF ?_⟩
        refine ⟨_, rfl, _, _, _, _, false, rfl, .ty "int", ty, kit_ty kb_tuple_int, _, rfl, iteF ?_⟩
        refine ⟨_, rfl, _, _, _, _, false, rfl, .ty "str", ty, kit_ty kb_tuple_str, _, rfl, iteF ?_⟩
        refine ⟨_, rfl, _, _, _, _, true, rfl, .ty "tuple", ty, kit_ty kb_tuple_tuple, _, rfl, _, _, _, _, true, rfl, .ty "tuple", tx, kit_ty kb_tuple_tuple, rfl, _, rfl, iteF ?_⟩
        refine ⟨_, rfl, _, _, _, _, false, rfl, .ty "list", ty, kit_ty kb_tuple_list, _, rfl, _, _, _, _, false, rfl, .ty "list", tx, kit_ty kb_tuple_list, rfl, _, rfl, iteF ?_⟩
        have hd' : (decide (ds.length ≤ 9000) && ds.all (depOk n)) = true := hd
        rw [Bool.and_eq_true] at hd'
        have hle : ds.length ≤ 9000 := of_decide_eq_true hd'.1
        have lx := dpa_len ax_
        have ly := dpa_len ay_
        refine ⟨_, rfl, ax, xs, rfl, .inr sx, _, rfl, ay, ys, rfl, .inr sy, rfl, _, rfl, ?_⟩
        rw [lx, ly, decide_eq_true rfl]
        refine iteT ?_
        refine ⟨_, rfl, ay, ys, rfl, .inr sy, _, rfl, by rw [ly]; omega, by rw [ly]; omega, fun D hD => lc_range (lo := 0) (n := ys.length)
          (Qd := _) (fun i H' => Sm T H H' ∧ H' D = some (.lst (List.replicate i (V.bl true)))) ⟨same_upd hD, upd_same⟩ ?_ ?_⟩
        · rintro i H' hi ⟨sm, eD⟩
          rw [ly] at hi
          obtain ⟨vx, ex, dx⟩ := dpa_get ax_ (List.getElem?_eq_getElem hi)
          obtain ⟨vy, ey, dy⟩ := dpa_get ay_ (List.getElem?_eq_getElem hi)
          refine ⟨rfl, tyes_i ?_⟩
          refine ⟨_, rfl, _, rfl, .inr (.inl ⟨ax, xs, _, vx, rfl, rfl, same_tup sm sx, at_of (j := i) (by omega) ex, ?_⟩)⟩
          refine ⟨_, rfl, _, rfl, .inr (.inl ⟨ay, ys, _, vy, rfl, rfl, same_tup sm sy, at_of (j := i) (by omega) ey, ?_⟩)⟩
          refine ⟨vx, vy, ds[i], rfl, dp_same sm _ _ dx, dp_same sm _ _ dy, List.all_eq_true.mp hd'.2 _ (List.getElem_mem hi), fun H2 s2 => ⟨_, s2.k eD, ?_, same_mut (sm.trans s2) hD (s2.lst eD), ?_⟩⟩
          · rw [List.length_replicate]
            exact szl (by omega)
          · rw [upd_same, ← List.replicate_succ']
        · rintro H' ⟨sm, eD⟩
          rw [ly] at eD
          refine ⟨D, List.replicate ds.length true, rfl, SqL.of (by rw [eD, List.map_replicate]), ?_⟩
          rw [rep_all]
          exact q H' sm
      | dict _ => cases hd
theorem ok_l_same {f : Addr} {fd : FuncData} (F : Fun K "_law_same" "_law_same" s_l_same f fd) (B : Bn mg) (g : mg "_law_same" = some (.ref f)) (b : Binds K fd ["_law_found", "_law_due"] []) :
    FnOk P w K mg base CX0 6 f fd ["_law_found", "_law_due"] (sp_l_same K T) := ok_l_same_n F B g b 5

def sp_l_gcd (K : PySem.W.Frag) (T : Tb) : Sp := fun vs H Q _ => ∃ a b : Nat, vs = [.int a, .int b] ∧ Q (.int (Nat.gcd a b : Nat)) H
theorem ok_l_gcd {f : Addr} {fd : FuncData} (F : Fun K "_law_gcd" "_law_gcd" s_l_gcd f fd) : FnOk P w K mg base CX0 1 f fd ["_law_one", "_law_other"] (sp_l_gcd K T) := by
  refine F.ok sc_l_gcd (fun vs H Q E h => ?_) (fun cdv A outer s H vs Q E hr h => ?_)
  · obtain ⟨a, b, rfl, _⟩ := h
    rfl
  · obtain ⟨a, b, rfl, q⟩ := h
    refine ⟨_, (pss_cons (ps_while PassesOwn.never (pt_cmpR op_gt (pv 1) pe_int (nomark _)) (pss_one (ps_par (i := 0) (j := 1) (by rfl) sc_l_gcd.nd rfl rfl (by decide) rfl rfl (pa_cons (pv 1) (pa_cons (pe_op op_mod (pv 0) (pv 1)) pa_nil)) (by rfl))))
      (pss_one (ps_ret (pv 0)))), ?_⟩
    refine while_by (fun σ H' => ∃ x y : Nat, σ = [some (.int x), some (.int y)] ∧ H' = H ∧ Nat.gcd x y = Nat.gcd a b) (fun σ _ => match σ with | [_, some (.int y)] => y.toNat | _ => 0) ⟨a, b, rfl, rfl, rfl⟩ ?_ ?_
    · rintro σ H' ⟨x, y, rfl, rfl, hg⟩
      refine ⟨_, rfl, _, _, rfl, rfl, _, rfl, ite2 (fun e => ?_) (fun e => ?_)⟩
      · have hy : 0 < y := by
          have : (0 : Int) < (y : Int) := of_decide_eq_true e
          omega
        refine ⟨_, rfl, _, rfl, _, rfl, _, _, rfl, rfl, (by show (0 : Int) < (y : Int); omega), _, _, rfl, ⟨y, x % y, ?_, rfl, ?_⟩, ?_⟩
        · show [some (V.int y), some (V.int ((x : Int) % (y : Int)))] = _
          rw [Int.natCast_emod]
        · rw [← hg, Nat.gcd_comm x y, Nat.gcd_rec y x, Nat.gcd_comm]
        · show ((x : Int) % (y : Int)).toNat < (y : Int).toNat
          rw [← Int.natCast_emod, Int.toNat_natCast, Int.toNat_natCast]
          exact Nat.mod_lt _ hy
      · have hy : y = 0 := by
          have : ¬ (0 : Int) < (y : Int) := fun z => e (decide_eq_true z)
          omega
        subst hy
        refine ⟨_, rfl, ?_⟩
        rw [← hg, Nat.gcd_zero_right] at q
        exact q
    · rintro σ H Q Q' m ⟨v, e, i, j, e1, e2, k, e3, q⟩
      exact ⟨v, e, i, j, e1, e2, k, e3, m _ _ q⟩

def sp_l_amt (K : PySem.W.Frag) (T : Tb) : Sp := fun vs H Q _ => ∃ n d : Int, vs = [.int n, .int d] ∧ 0 < d ∧ d.natAbs < 2 ^ 8900 ∧ ∀ p H', Sm T H H' → H p = none → H' p = some (.tup (tv (amt n d))) → Q (.ref p) H'
theorem ok_l_amt {f : Addr} {fd : FuncData} (F : Fun K "_law_amt" "_law_amt" s_l_amt f fd) (B : Bn mg) (F_l_gcd : Fn P w K mg base 1 "_law_gcd" ["_law_one", "_law_other"] (sp_l_gcd K T)) : FnOk P w K mg base CX0 2 f fd ["_law_num", "_law_den"] (sp_l_amt K T) := by
  refine F.ok sc_l_amt (fun vs H Q E h => ?_) (fun cdv A outer s H vs Q E hr h => ?_)
  · obtain ⟨n, d, rfl, _⟩ := h
    rfl
  · obtain ⟨n, d, rfl, hd, hb, q⟩ := h
    refine ⟨_, (pss_cons (ps_set (i := 2) sc_l_amt.nd rfl (.inl rfl) (pe_fn F_l_gcd (hr.mono (by decide)) (pa_cons (pe_callB call_abs (by rfl) B.abs_ (by decide +kernel) (pa_cons (pv 0) pa_nil)) (pa_cons (pv 1) pa_nil))))
      (pss_one (ps_ret (pe_tup (pa_cons (pe_op op_fdivW (pv 0) (pv 2)) (pa_cons (pe_op op_fdivW (pv 1) (pv 2)) pa_nil)))))), ?_⟩
    have hg := gcd_bound (n := n) (d := d) (by omega) hb
    have e1 : (if n < 0 then -n else n) = (n.natAbs : Int) := by split <;> omega
    have e2 : d = (d.natAbs : Int) := by omega
    refine ⟨_, rfl, _, rfl, _, rfl, n.natAbs, d.natAbs, ?_, ?_⟩
    · show [V.int (if n < 0 then -n else n), V.int d] ++ [] = _
      rw [e1, ← e2]
      rfl
    · refine ⟨_, rfl, _, rfl, _, _, rfl, rfl, wide_div (b := 8900) (by omega) (by rw [Int.natAbs_natCast]; exact hg.2) (by decide) (by decide), ?_⟩
      refine ⟨_, rfl, _, rfl, _, _, rfl, rfl, wide_div (b := 8900) (by omega) (by rw [Int.natAbs_natCast]; exact hg.2) (by decide) (by decide), ?_⟩
      refine ⟨by show 2 ≤ sizeLine; decide, fun p hp => ?_⟩
      refine q p _ (same_upd hp) hp (upd_same.trans ?_)
      show some (HO.tup [V.int (n / ((Nat.gcd n.natAbs d.natAbs : Nat) : Int)), V.int (d / ((Nat.gcd n.natAbs d.natAbs : Nat) : Int))]) = some (HO.tup [V.int ((if d < 0 then -n else n) / ((Nat.gcd n.natAbs d.natAbs : Nat) : Int)), V.int ((d.natAbs : Int) / ((Nat.gcd n.natAbs d.natAbs : Nat) : Int))])
      rw [if_neg (by omega : ¬ d < 0), ← e2]

abbrev sp_l_add : PySem.W.Frag → Tb → Sp := spBin (fun x y => 0 < x.2 ∧ 0 < y.2) plusA
theorem ok_l_add {f : Addr} {fd : FuncData} (F : Fun K "_law_add" "_law_add" s_l_add f fd) (F_l_amt : Fn P w K mg base 2 "_law_amt" ["_law_num", "_law_den"] (sp_l_amt K T)) : FnOk P w K mg base CX0 3 f fd ["_law_one", "_law_other"] (sp_l_add K T) := by
  refine F.ok sc_l_add (fun vs H Q E h => ?_) (fun cdv A outer s H vs Q E hr h => ?_)
  · obtain ⟨a, b, x, y, rfl, _⟩ := h
    rfl
  · obtain ⟨a, b, x, y, rfl, ha, hb, ⟨bx, by_⟩, ⟨hx, hy⟩, q⟩ := h
    refine ⟨_, (pss_one (ps_ret (pe_fn F_l_amt (hr.mono (by decide)) (pa_cons (pe_op op_add (pe_op op_mulW (pe_ix ix_tup (pv 0) pe_int (fun _ _ => rfl)) (pe_ix ix_tup (pv 1) pe_int (fun _ _ => rfl))) (pe_op op_mulW (pe_ix ix_tup (pv 1) pe_int (fun _ _ => rfl)) (pe_ix ix_tup (pv 0) pe_int (fun _ _ => rfl)))) (pa_cons (pe_op op_mulW (pe_ix ix_tup (pv 0) pe_int (fun _ _ => rfl)) (pe_ix ix_tup (pv 1) pe_int (fun _ _ => rfl))) pa_nil))))), ?_⟩
    refine ⟨_, rfl, a, _, 0, .int x.1, rfl, rfl, ha, atI_nat (j := 0) rfl, _, rfl, b, _, 1, .int y.2, rfl, rfl, hb, atI_nat (j := 1) rfl, _, _, rfl, rfl, wm bx.1 by_.2, ?_⟩
    refine ⟨_, rfl, b, _, 0, .int y.1, rfl, rfl, hb, atI_nat (j := 0) rfl, _, rfl, a, _, 1, .int x.2, rfl, rfl, ha, atI_nat (j := 1) rfl, _, _, rfl, rfl, wm by_.1 bx.2, _, _, rfl, rfl, ?_⟩
    refine ⟨_, rfl, a, _, 1, .int x.2, rfl, rfl, ha, atI_nat (j := 1) rfl, _, rfl, b, _, 1, .int y.2, rfl, rfl, hb, atI_nat (j := 1) rfl, _, _, rfl, rfl, wm bx.2 by_.2, ?_⟩
    exact ⟨_, _, rfl, Int.mul_pos hx hy, wl bx.2 by_.2, q⟩

abbrev sp_l_sub : PySem.W.Frag → Tb → Sp := spBin (fun x y => 0 < x.2 ∧ 0 < y.2) minusA
theorem ok_l_sub {f : Addr} {fd : FuncData} (F : Fun K "_law_sub" "_law_sub" s_l_sub f fd) (F_l_amt : Fn P w K mg base 2 "_law_amt" ["_law_num", "_law_den"] (sp_l_amt K T)) : FnOk P w K mg base CX0 3 f fd ["_law_one", "_law_other"] (sp_l_sub K T) := by
  refine F.ok sc_l_sub (fun vs H Q E h => ?_) (fun cdv A outer s H vs Q E hr h => ?_)
  · obtain ⟨a, b, x, y, rfl, _⟩ := h
    rfl
  · obtain ⟨a, b, x, y, rfl, ha, hb, ⟨bx, by_⟩, ⟨hx, hy⟩, q⟩ := h
    refine ⟨_, (pss_one (ps_ret (pe_fn F_l_amt (hr.mono (by decide)) (pa_cons (pe_op op_sub (pe_op op_mulW (pe_ix ix_tup (pv 0) pe_int (fun _ _ => rfl)) (pe_ix ix_tup (pv 1) pe_int (fun _ _ => rfl))) (pe_op op_mulW (pe_ix ix_tup (pv 1) pe_int (fun _ _ => rfl)) (pe_ix ix_tup (pv 0) pe_int (fun _ _ => rfl)))) (pa_cons (pe_op op_mulW (pe_ix ix_tup (pv 0) pe_int (fun _ _ => rfl)) (pe_ix ix_tup (pv 1) pe_int (fun _ _ => rfl))) pa_nil))))), ?_⟩
    refine ⟨_, rfl, a, _, 0, .int x.1, rfl, rfl, ha, atI_nat (j := 0) rfl, _, rfl, b, _, 1, .int y.2, rfl, rfl, hb, atI_nat (j := 1) rfl, _, _, rfl, rfl, wm bx.1 by_.2, ?_⟩
    refine ⟨_, rfl, b, _, 0, .int y.1, rfl, rfl, hb, atI_nat (j := 0) rfl, _, rfl, a, _, 1, .int x.2, rfl, rfl, ha, atI_nat (j := 1) rfl, _, _, rfl, rfl, wm by_.1 bx.2, _, _, rfl, rfl, ?_⟩
    refine ⟨_, rfl, a, _, 1, .int x.2, rfl, rfl, ha, atI_nat (j := 1) rfl, _, rfl, b, _, 1, .int y.2, rfl, rfl, hb, atI_nat (j := 1) rfl, _, _, rfl, rfl, wm bx.2 by_.2, ?_⟩
    exact ⟨_, _, rfl, Int.mul_pos hx hy, wl bx.2 by_.2, q⟩

def sp_l_by (K : PySem.W.Frag) (T : Tb) : Sp := fun vs H Q _ => ∃ a x k, vs = [.ref a, .int k] ∧ SqT K H a (tv x) ∧ x.2.natAbs < 2 ^ 4000 ∧ (0 < k ∧ k < 2 ^ 64) ∧ 0 < x.2 ∧
  ∀ p H', Sm T H H' → H p = none → H' p = some (.tup (tv (amt x.1 (x.2 * k)))) → Q (.ref p) H'
theorem ok_l_by {f : Addr} {fd : FuncData} (F : Fun K "_law_by" "_law_by" s_l_by f fd) (F_l_amt : Fn P w K mg base 2 "_law_amt" ["_law_num", "_law_den"] (sp_l_amt K T)) : FnOk P w K mg base CX0 3 f fd ["_law_one", "_law_number"] (sp_l_by K T) := by
  refine F.ok sc_l_by (fun vs H Q E h => ?_) (fun cdv A outer s H vs Q E hr h => ?_)
  · obtain ⟨a, x, k, rfl, _⟩ := h
    rfl
  · obtain ⟨a, x, k, rfl, ha, bx, hk, hx, q⟩ := h
    refine ⟨_, (pss_one (ps_ret (pe_fn F_l_amt (hr.mono (by decide)) (pa_cons (pe_ix ix_tup (pv 0) pe_int (fun _ _ => rfl)) (pa_cons (pe_op op_mul (pe_ix ix_tup (pv 0) pe_int (fun _ _ => rfl)) (pv 1)) pa_nil))))), ?_⟩
    refine ⟨_, rfl, a, _, 0, .int x.1, rfl, rfl, ha, atI_nat (j := 0) rfl, ?_⟩
    refine ⟨_, rfl, a, _, 1, .int x.2, rfl, rfl, ha, atI_nat (j := 1) rfl, _, rfl, _, _, rfl, rfl, .inr ⟨by omega, by omega⟩, ?_⟩
    refine ⟨_, _, rfl, Int.mul_pos hx hk.1, ?_, q⟩
    rw [Int.natAbs_mul]
    have h1 : x.2.natAbs * k.natAbs < 2 ^ 4000 * 2 ^ 64 := Nat.mul_lt_mul'' bx (by omega)
    rw [← Nat.pow_add] at h1
    exact Nat.lt_trans h1 (Nat.pow_lt_pow_right (by decide) (by decide))

def sp_l_mul (K : PySem.W.Frag) (T : Tb) : Sp := fun vs H Q _ => ∃ a x k, vs = [.ref a, .int k] ∧ SqT K H a (tv x) ∧ Bd 4000 x ∧ (-(2 ^ 64) < k ∧ k < 2 ^ 64) ∧ 0 < x.2 ∧
  ∀ p H', Sm T H H' → H p = none → H' p = some (.tup (tv (amt (x.1 * k) x.2))) → Q (.ref p) H'
theorem ok_l_mul {f : Addr} {fd : FuncData} (F : Fun K "_law_mul" "_law_mul" s_l_mul f fd) (F_l_amt : Fn P w K mg base 2 "_law_amt" ["_law_num", "_law_den"] (sp_l_amt K T)) : FnOk P w K mg base CX0 3 f fd ["_law_one", "_law_number"] (sp_l_mul K T) := by
  refine F.ok sc_l_mul (fun vs H Q E h => ?_) (fun cdv A outer s H vs Q E hr h => ?_)
  · obtain ⟨a, x, k, rfl, _⟩ := h
    rfl
  · obtain ⟨a, x, k, rfl, ha, bx, hk, hx, q⟩ := h
    refine ⟨_, (pss_one (ps_ret (pe_fn F_l_amt (hr.mono (by decide)) (pa_cons (pe_op op_mul (pe_ix ix_tup (pv 0) pe_int (fun _ _ => rfl)) (pv 1)) (pa_cons (pe_ix ix_tup (pv 0) pe_int (fun _ _ => rfl)) pa_nil))))), ?_⟩
    refine ⟨_, rfl, a, _, 0, .int x.1, rfl, rfl, ha, atI_nat (j := 0) rfl, _, rfl, _, _, rfl, rfl, .inr hk, ?_⟩
    refine ⟨_, rfl, a, _, 1, .int x.2, rfl, rfl, ha, atI_nat (j := 1) rfl, ?_⟩
    exact ⟨_, _, rfl, hx, Nat.lt_trans bx.2 (Nat.pow_lt_pow_right (by decide) (by decide)), q⟩

def sp_l_less (K : PySem.W.Frag) (T : Tb) : Sp := fun vs H Q _ => ∃ a b x y, vs = [.ref a, .ref b] ∧ SqT K H a (tv x) ∧ SqT K H b (tv y) ∧ (Bd 4000 x ∧ Bd 4000 y) ∧ Q (.bl (belowA x y)) H
theorem ok_l_less {f : Addr} {fd : FuncData} (F : Fun K "_law_less" "_law_less" s_l_less f fd) : FnOk P w K mg base CX0 1 f fd ["_law_one", "_law_other"] (sp_l_less K T) := by
  refine F.ok sc_l_less (fun vs H Q E h => ?_) (fun cdv A outer s H vs Q E hr h => ?_)
  · obtain ⟨a, b, x, y, rfl, _⟩ := h
    rfl
  · obtain ⟨a, b, x, y, rfl, ha, hb, ⟨bx, by_⟩, q⟩ := h
    refine ⟨_, (pss_one (ps_ret (pe_cmpR op_lt (pe_op op_mulW (pe_ix ix_tup (pv 0) pe_int (fun _ _ => rfl)) (pe_ix ix_tup (pv 1) pe_int (fun _ _ => rfl))) (pe_op op_mulW (pe_ix ix_tup (pv 1) pe_int (fun _ _ => rfl)) (pe_ix ix_tup (pv 0) pe_int (fun _ _ => rfl))) (nomark _)))), ?_⟩
    refine ⟨_, rfl, a, _, 0, .int x.1, rfl, rfl, ha, atI_nat (j := 0) rfl, _, rfl, b, _, 1, .int y.2, rfl, rfl, hb, atI_nat (j := 1) rfl, _, _, rfl, rfl, wm bx.1 by_.2, ?_⟩
    exact ⟨_, rfl, b, _, 0, .int y.1, rfl, rfl, hb, atI_nat (j := 0) rfl, _, rfl, a, _, 1, .int x.2, rfl, rfl, ha, atI_nat (j := 1) rfl, _, _, rfl, rfl, wm by_.1 bx.2, _, _, rfl, rfl, q⟩

def sp_l_rates (K : PySem.W.Frag) (T : Tb) : Sp := fun vs H Q _ => ∃ a b us ns ps, vs = [.ref a, .ref b] ∧ SqL K H a (ns.map V.int) ∧ SqL K H b us ∧ DpAll K H us ((ps.map am).map amD) ∧ ns.length = ps.length ∧ ns.length ≤ 1000 ∧
  ∀ p H', Sm T H H' → H p = none → H' p = some (.lst ((spd ns ps).map V.int)) → Q (.ref p) H'
theorem ok_l_rates {f : Addr} {fd : FuncData} (F : Fun K "_law_rates" "_law_rates" s_l_rates f fd) (B : Bn mg) : FnOk P w K mg base CX0 1 f fd ["_law_paces", "_law_places"] (sp_l_rates K T) := by
  refine F.ok sc_l_rates (fun vs H Q E h => ?_) (fun cdv A outer s H vs Q E hr h => ?_)
  · obtain ⟨a, b, us, ns, ps, rfl, _⟩ := h
    rfl
  · obtain ⟨a, b, us, ns, ps, rfl, ha, hb, hd, hl, hl2, q⟩ := h
    refine ⟨_, (pss_cons (ps_set (i := 2) sc_l_rates.nd rfl (.inl rfl) (pe_lst pa_nil))
      (pss_cons (ps_for PassesOwn.never rfl (pi_range3 (by rfl) B.range_ (pa_cons (pe_op op_sub (pe_callB call_len_seq (by rfl) B.len_ (by decide +kernel) (pa_cons (pv 0) pa_nil)) pe_int) (pa_cons (pe_un un_neg pe_int) (pa_cons (pe_un un_neg pe_int) pa_nil)))) (pg_name (i := 3) sc_l_rates.nd rfl (.inl rfl))
      (pss_cons (ps_set (i := 4) sc_l_rates.nd rfl (.inl rfl) (pe_ix ix_list (pv 0) (pv 3) (fun _ _ => rfl)))
      (pss_cons (ps_if (PW.pt (pw_and (pt_cmpR op_gt (pe_callB call_len_seq (by rfl) B.len_ (by decide +kernel) (pa_cons (pv 2) pa_nil)) pe_int (nomark _)) (pw_and1 (pt_cmpR (op_eqD hr.units) (pe_ix ix_list (pv 1) (pv 3) (fun _ _ => rfl)) (pe_ix ix_list (pv 1) (pe_op op_add (pv 3) pe_int) (fun _ _ => rfl)) (nomark _))))) (pss_one (ps_set (i := 4) sc_l_rates.nd rfl (.inl rfl) (pe_callB (call_min2 rfl) (by rfl) B.min_ (by decide +kernel) (pa_cons (pv 4) (pa_cons (pe_ix ix_list (pv 2) pe_int (fun _ _ => rfl)) pa_nil))))) pss_nil)
      (pss_one (ps_expr (pe_bm PySem.F.plainAttrs_list PySem.F.slot_list_insert PySem.F.type_list_insert mt_insert (pv 2) (pa_cons pe_int (pa_cons (pv 4) pa_nil))))))))
      (pss_one (ps_ret (pv 2))))), ?_⟩
    refine ⟨Nat.zero_le _, fun o no => ?_⟩
    have u0 := same_upd (T := T) (o := .lst []) no
    refine ⟨_, rfl, a, _, rfl, .inl (u0.seq ha), _, _, rfl, rfl, 1, rfl, 1, rfl, _, _, _, (((ns.map V.int).length : Int) - 1 - -1).toNat, rfl, RgC.neg (by rw [List.length_map]; omega) (by rw [List.length_map]; omega) (by decide) (by decide), for_rangeC (fun i σ H3 => Sm T H H3 ∧ ∃ x3 x4, σ = [some (.ref a), some (.ref b), some (.ref o), x3, x4] ∧ H3 o = some (.lst ((spd (ns.drop (ns.length - i)) (ps.drop (ns.length - i))).map V.int))) ?_ ?_ ?_⟩
    · refine ⟨u0, _, _, rfl, ?_⟩
      rw [upd_same, Nat.sub_zero, List.drop_length]
      rfl
    · rintro i σ H3 hi ⟨s3, x3, x4, rfl, eo⟩
      rw [List.length_map] at hi
      have hin : i < ns.length := by omega
      obtain ⟨j, hj⟩ : ∃ j, j = ns.length - 1 - i := ⟨_, rfl⟩
      have hjn : j < ns.length := by omega
      have e1 : ns.length - i = j + 1 := by omega
      have e2 : ns.length - (i + 1) = j := by omega
      rw [e1] at eo
      have st := spd_step hl hjn
      have ez : (((ns.map V.int).length : Int) - 1 + (i : Int) * -1) = (j : Int) := by rw [List.length_map]; omega
      rw [ez]
      generalize hG : spd (ns.drop (j + 1)) (ps.drop (j + 1)) = G at *
      have lG : G.length = ns.length - (j + 1) := by rw [← hG, spd_len _ _ (by rw [List.length_drop, List.length_drop, hl]), List.length_drop]
      refine ⟨_, rfl, _, rfl, a, _, _, .int ns[j], rfl, rfl, s3.seq ha, at_map (i := j) rfl (List.getElem?_eq_getElem hjn), ?_⟩
      dsimp only [gName]
      refine seq_if (fun σ' H' => Sm T H3 H' ∧ ∃ x3 sp, σ' = [some (.ref a), some (.ref b), some (.ref o), x3, some (.int sp)] ∧ spd (ns.drop j) (ps.drop j) = sp :: G) (fun σ' H' p => ?_) (fun k => ?_)
      · obtain ⟨s4, x3, sp, rfl, es⟩ := p
        have eo4 := s4.k eo
        refine ⟨_, rfl, .inl ⟨rfl, _, SqL.of eo4⟩, _, rfl, o, _, 0, _, rfl, rfl, eo4, ?_, by decide, by decide, ?_⟩
        · rw [List.length_map, lG]
          exact szl (by omega)
        · refine ⟨same_mut (s3.trans s4) no eo4, _, _, rfl, ?_⟩
          rw [upd_same, e2, es]
          rfl
      · refine ⟨_, rfl, o, _, rfl, .inl (SqL.of eo), _, _, rfl, rfl, _, rfl, ?_⟩
        by_cases hlast : j + 1 < ns.length
        · rw [decide_eq_true (by rw [List.length_map]; omega)]
          refine iteT ?_
          obtain ⟨b1, g1, q1⟩ := am_at hd (i := j) (by omega)
          obtain ⟨b2, g2, q2⟩ := am_at hd (i := j + 1) (by omega)
          refine ⟨_, rfl, _, rfl, b, _, _, .ref b1, rfl, rfl, s3.seq hb, at_of (j := j) rfl g1, ?_⟩
          refine ⟨_, rfl, _, rfl, _, _, rfl, rfl, b, _, _, .ref b2, rfl, rfl, s3.seq hb, at_of (j := j + 1) (by omega) g2, ?_⟩
          refine ⟨amD (am ps[j]), amD (am ps[j + 1]), amD_dp (same_tup s3 q1), amD_dp (same_tup s3 q2), shaped_am _, shaped_am _, _, rfl, ?_⟩
          rw [eqv_am]
          rw [dif_pos hlast] at st
          by_cases he : ps[j] = ps[j + 1]
          · rw [decide_eq_true (by rw [he])]
            refine iteT ?_
            rw [if_pos he] at st
            obtain ⟨s, r, hg⟩ : ∃ s r, G = s :: r := by
              cases hg : G with
              | nil => rw [hg] at lG; simp at lG; omega
              | cons s r => exact ⟨s, r, rfl⟩
            refine ⟨_, rfl, _, rfl, o, _, _, _, rfl, rfl, SqL.of eo, atI_nat (j := 0) (v := .int s) (by rw [hg]; rfl), _, _, rfl, ?_⟩
            refine k _ _ ⟨Sm.refl, _, _, rfl, ?_⟩
            rw [st, hg, List.headD_cons]
            rfl
          · rw [decide_eq_false (fun z => he (am_inj z))]
            refine iteF ?_
            rw [if_neg he] at st
            exact k _ _ ⟨Sm.refl, _, _, rfl, st⟩
        · rw [decide_eq_false (by rw [List.length_map]; omega)]
          refine iteF (iteF ?_)
          rw [dif_neg hlast] at st
          exact k _ _ ⟨Sm.refl, _, _, rfl, st⟩
    · rintro σ H3 ⟨s3, x3, x4, rfl, eo⟩
      rw [List.length_map] at eo
      rw [show ns.length - (((ns.length : Nat) : Int) - 1 - -1).toNat = 0 by omega, List.drop_zero, List.drop_zero] at eo
      exact ⟨_, rfl, q o _ s3 no eo⟩

theorem by_am (r : Rat) {k : Int} (hk : 0 < k) : amt (am r).1 ((am r).2 * k) = am (r / (k : Rat)) := by
  have h1 := am_pos r
  rw [amt_am (Int.mul_ne_zero (by omega) (by omega))]
  congr 1
  have e1 := vl_am r
  unfold vl at e1
  have k1 := cn (a := (am r).2) (by omega)
  have k2 := cn (a := k) (by omega)
  rw [Rat.intCast_mul]
  grind
theorem mul_am (r : Rat) (k : Int) : amt ((am r).1 * k) (am r).2 = am (r * (k : Rat)) := by
  have h1 := am_pos r
  rw [amt_am (by omega)]
  congr 1
  have e1 := vl_am r
  unfold vl at e1
  have k1 := cn (a := (am r).2) (by omega)
  rw [Rat.intCast_mul]
  grind

def sp_l_until (K : PySem.W.Frag) (T : Tb) : Sp := fun vs H Q _ => ∃ (L D : Int) (a b : Addr) (us : List V) (ns : List Int) (ps : List Rat), vs = [.int L, .ref a, .ref b] ∧ SqL K H a (ns.map V.int) ∧ SqL K H b us ∧ DpAll K H us ((ps.map am).map amD) ∧ Wk D L ns ps ∧ (0 < D ∧ D.natAbs < 2 ^ 3900) ∧ (1 ≤ L ∧ L ≤ 1000) ∧
  ns ≠ [] ∧ ∀ p H', Sm T H H' → SqT K H' p (tv (am (meetM L ns ps))) → Q (.ref p) H'
theorem ok_l_until {f : Addr} {fd : FuncData} (F : Fun K "_law_until" "_law_until" s_l_until f fd) (B : Bn mg) (F_l_sub : Fn P w K mg base 3 "_law_sub" ["_law_one", "_law_other"] (sp_l_sub K T)) (F_l_by : Fn P w K mg base 3 "_law_by" ["_law_one", "_law_number"] (sp_l_by K T)) (F_l_less : Fn P w K mg base 1 "_law_less" ["_law_one", "_law_other"] (sp_l_less K T)) (F_l_rates : Fn P w K mg base 1 "_law_rates" ["_law_paces", "_law_places"] (sp_l_rates K T)) : FnOk P w K mg base CX0 4 f fd ["_law_length", "_law_paces", "_law_places"] (sp_l_until K T) := by
  refine F.ok sc_l_until (fun vs H Q E h => ?_) (fun cdv A outer s H vs Q E hr h => ?_)
  · obtain ⟨L, D, a, b, us, ns, ps, rfl, _⟩ := h
    rfl
  · obtain ⟨L, D, a, b, us, ns, ps, rfl, ha, hb, hd, wk, hD, hL, hn, q1⟩ := h
    refine ⟨_, (pss_cons (ps_set (i := 3) sc_l_until.nd rfl (.inl rfl) (pe_fn F_l_rates (hr.mono (by decide)) (pa_cons (pv 1) (pa_cons (pv 2) pa_nil))))
      (pss_cons (ps_set (i := 4) sc_l_until.nd rfl (.inl rfl) (pe_fn F_l_by (hr.mono (by decide)) (pa_cons (pe_fn F_l_sub (hr.mono (by decide)) (pa_cons (pe_tup (pa_cons (pv 0) (pa_cons pe_int pa_nil))) (pa_cons (pe_ix ix_list (pv 2) (pe_un un_neg pe_int) (fun _ _ => rfl)) pa_nil))) (pa_cons (pe_ix ix_list (pv 3) (pe_un un_neg pe_int) (fun _ _ => rfl)) pa_nil))))
      (pss_cons (ps_for PassesOwn.never rfl (pi_range1 (by rfl) B.range_ (pa_cons (pe_op op_sub (pe_callB call_len_seq (by rfl) B.len_ (by decide +kernel) (pa_cons (pv 1) pa_nil)) pe_int) pa_nil)) (pg_name (i := 5) sc_l_until.nd rfl (.inl rfl))
      (pss_one (ps_if (PW.pt (pw_and (pt_cmpR (op_neD hr.units) (pe_ix ix_list (pv 2) (pv 5) (fun _ _ => rfl)) (pe_ix ix_list (pv 2) (pe_op op_add (pv 5) pe_int) (fun _ _ => rfl)) (nomark _)) (pw_and1 (pt_cmpR op_gt (pe_ix ix_list (pv 3) (pv 5) (fun _ _ => rfl)) (pe_ix ix_list (pv 3) (pe_op op_add (pv 5) pe_int) (fun _ _ => rfl)) (nomark _))))) (pss_cons (ps_set (i := 6) sc_l_until.nd rfl (.inl rfl) (pe_fn F_l_by (hr.mono (by decide)) (pa_cons (pe_fn F_l_sub (hr.mono (by decide)) (pa_cons (pe_ix ix_list (pv 2) (pe_op op_add (pv 5) pe_int) (fun _ _ => rfl)) (pa_cons (pe_ix ix_list (pv 2) (pv 5) (fun _ _ => rfl)) pa_nil))) (pa_cons (pe_op op_sub (pe_ix ix_list (pv 3) (pv 5) (fun _ _ => rfl)) (pe_ix ix_list (pv 3) (pe_op op_add (pv 5) pe_int) (fun _ _ => rfl))) pa_nil))))
      (pss_one (ps_set (i := 4) sc_l_until.nd rfl (.inl rfl) (pe_ifExp (pt_val (pe_fn F_l_less (hr.mono (by decide)) (pa_cons (pv 6) (pa_cons (pv 4) pa_nil)))) (pv 6) (pv 4))))) pss_nil)))
      (pss_one (ps_ret (pv 4)))))), ?_⟩
    have hle := wk.eq
    have h8 := wk.n8
    have lu : us.length = ps.length := by rw [dpa_len hd, List.length_map, List.length_map]
    have hn0 : 0 < ns.length := List.length_pos_iff.mpr hn
    have lsp := spd_len ns ps hle
    refine ⟨_, rfl, _, rfl, a, b, us, ns, ps, rfl, ha, hb, hd, hle, by omega, fun go H3 s3 n3 e3 => ?_⟩
    obtain ⟨pb, gb, qb⟩ := am_at hd (i := ns.length - 1) (by omega)
    have hL1 : (1 : Rat) ≤ (L : Rat) := Rat.intCast_le_intCast.mpr hL.1
    have hL2 : (L : Rat) ≤ 1000 := Rat.intCast_le_intCast.mpr hL.2
    have c0 := wk.nn _ (List.getElem_mem (show ns.length - 1 < ps.length by omega))
    have c1 := wk.fire _ (List.getElem_mem (show ns.length - 1 < ps.length by omega))
    have c2 := wk.fr _ (List.getElem_mem (show ns.length - 1 < ps.length by omega))
    have p0 := wk.pace _ (List.getElem_mem (show ns.length - 1 < ns.length by omega))
    have fL : Fr D (L : Rat) := Fr.int (by omega) L
    have gl : (spd ns ps)[ns.length - 1]? = some (ns[ns.length - 1]) := by
      have := spd_last wk hn0
      rw [getD_lt (show ns.length - 1 < (spd ns ps).length by omega), getD_lt (show ns.length - 1 < ns.length by omega)] at this
      rw [List.getElem?_eq_getElem (show ns.length - 1 < (spd ns ps).length by omega), this]
    refine ⟨_, rfl, by show 2 ≤ sizeLine; decide, fun t nt => ?_⟩
    have u := same_upd (T := T) (o := HO.tup [V.int L, V.int 1]) nt
    have s3u := s3.trans u
    refine ⟨_, rfl, 1, rfl, b, _, _, .ref pb, rfl, rfl, s3u.seq hb, at_neg1 (by omega) (by rw [lu, ← hle]; exact gb), ?_⟩
    refine ⟨t, pb, (L, 1), am ps[ns.length - 1], rfl, SqT.of upd_same, same_tup s3u qb, ⟨bd_int (small (by omega)), bd_fr1 hD.1 hD.2 c2 (by grind) (by grind)⟩, ⟨by show (0 : Int) < 1; decide, am_pos _⟩, fun p1 H1 s1 n1 e1 => ?_⟩
    rw [← am_int L, minus_am] at e1
    have s01 := s3u.trans s1
    have e31 := (u.trans s1).k e3
    refine ⟨_, rfl, 1, rfl, go, _, _, .int ns[ns.length - 1], rfl, rfl, SqL.of e31, at_neg1 (by rw [List.length_map]; omega) (by rw [List.length_map, List.getElem?_map, lsp, gl]; rfl), ?_⟩
    refine ⟨p1, am ((L : Rat) - ps[ns.length - 1]), ns[ns.length - 1], rfl, SqT.of e1, (bd_fr1 hD.1 hD.2 (fL.sub c2) (by grind) (by grind)).2, ⟨by omega, by omega⟩, am_pos _, fun p2 H2 s2 n2 e2 => ?_⟩
    have s02 := s01.trans s2
    have e32 := s2.k e31
    have eL : ((L : Rat) - ps[ns.length - 1]) / ((ns[ns.length - 1] : Int) : Rat) = lastH L ns ps := by
      unfold lastH
      rw [getD_lt (show ns.length - 1 < ps.length by omega), getD_lt (show ns.length - 1 < ns.length by omega)]
    rw [by_am _ (by omega), eL] at e2
    refine ⟨_, rfl, a, _, rfl, .inl (s02.seq ha), _, _, rfl, rfl, ((ns.length - 1 : Nat) : Int), ?_, by omega, by omega, for_range (lo := 0) (n := ns.length - 1) (fun i σ H4 => Sm T H2 H4 ∧ ∃ ph x5 x6, σ = [some (.int L), some (.ref a), some (.ref b), some (.ref go), some (.ref ph), x5, x6] ∧ SqT K H4 ph (tv (am (meetF (spd ns ps) ps (lastH L ns ps) i)))) ⟨Sm.refl, p2, _, _, rfl, SqT.of e2⟩ ?_ ?_⟩
    · show [V.int (((ns.map V.int).length : Int) - 1)] = _
      rw [List.length_map, show ((ns.length : Int) - 1) = ((ns.length - 1 : Nat) : Int) by omega]
    · rintro i σ H4 hi ⟨s4, ph, x5, x6, rfl, hph⟩
      have hi' : i + 1 < ns.length := by omega
      have s04 := s02.trans s4
      have e4 := s4.k e32
      have g0 : (spd ns ps)[i]? = some ((spd ns ps).getD i 0) := by rw [List.getD_eq_getElem?_getD, List.getElem?_eq_getElem (show i < (spd ns ps).length by omega)]; rfl
      have g1 : (spd ns ps)[i + 1]? = some ((spd ns ps).getD (i + 1) 0) := by rw [List.getD_eq_getElem?_getD, List.getElem?_eq_getElem (show i + 1 < (spd ns ps).length by omega)]; rfl
      obtain ⟨b1, gb1, qb1⟩ := am_at hd (i := i) (by omega)
      obtain ⟨b2, gb2, qb2⟩ := am_at hd (i := i + 1) (by omega)
      have d0 := spd_bd wk (show i < ns.length by omega)
      have d1 := spd_bd wk hi'
      have stay : ¬ (spd ns ps).getD (i + 1) 0 < (spd ns ps).getD i 0 → SqT K H4 ph (tv (am (meetF (spd ns ps) ps (lastH L ns ps) (i + 1)))) := fun hg => by
        simp only [meetF]
        rw [if_neg hg]
        exact hph
      refine ⟨_, rfl, _, rfl, b, _, _, .ref b1, rfl, rfl, s04.seq hb, at_of (j := i) (by omega) gb1, _, rfl, _, rfl, _, _, rfl, rfl, b, _, _, .ref b2, rfl, rfl, s04.seq hb, at_of (j := i + 1) (by omega) gb2, ?_⟩
      refine ⟨amD (am ps[i]), amD (am ps[i + 1]), amD_dp (same_tup s04 qb1), amD_dp (same_tup s04 qb2), shaped_am _, shaped_am _, _, rfl, ?_⟩
      rw [eqv_am]
      by_cases he : ps[i] = ps[i + 1]
      · rw [decide_eq_true (by rw [he])]
        refine iteF (iteF ?_)
        have := spd_same wk hi' (by rw [getD_lt (show i < ps.length by omega), getD_lt (show i + 1 < ps.length by omega)]; exact he)
        exact ⟨s4, ph, _, _, rfl, stay (by omega)⟩
      · rw [decide_eq_false (fun z => he (am_inj z))]
        refine iteT ?_
        refine ⟨_, rfl, _, rfl, go, _, _, _, rfl, rfl, SqL.of e4, at_map (i := i) (by omega) g0, _, rfl, _, rfl, _, _, rfl, rfl, go, _, _, _, rfl, rfl, SqL.of e4, at_map (i := i + 1) (by omega) g1, _, _, rfl, rfl, _, rfl, ite2 (fun e => ?_) (fun e => ?_)⟩
        · have hg : (spd ns ps).getD (i + 1) 0 < (spd ns ps).getD i 0 := by
            have := of_decide_eq_true e
            omega
          have ap := apart wk hi' hg
          obtain ⟨k1, k11, k12, kf, kn, kL⟩ := meetF_ok wk (by omega) hn0 (i := i) (by omega)
          have r1 := wk.fr _ (List.getElem_mem (show i < ps.length by omega))
          have r2 := wk.fr _ (List.getElem_mem (show i + 1 < ps.length by omega))
          have t1 := wk.nn _ (List.getElem_mem (show i < ps.length by omega))
          have t2 := wk.nn _ (List.getElem_mem (show i + 1 < ps.length by omega))
          have v1 := wk.fire _ (List.getElem_mem (show i < ps.length by omega))
          have v2 := wk.fire _ (List.getElem_mem (show i + 1 < ps.length by omega))
          rw [getD_lt (show i < ps.length by omega), getD_lt (show i + 1 < ps.length by omega)] at ap
          refine ⟨_, rfl, _, rfl, _, _, rfl, rfl, b, _, _, .ref b2, rfl, rfl, s04.seq hb, at_of (j := i + 1) (by omega) gb2, _, rfl, _, rfl, b, _, _, .ref b1, rfl, rfl, s04.seq hb, at_of (j := i) (by omega) gb1, ?_⟩
          refine ⟨b2, b1, am ps[i + 1], am ps[i], rfl, same_tup s04 qb2, same_tup s04 qb1, ⟨bd_fr1 hD.1 hD.2 r2 (by grind) (by grind), bd_fr1 hD.1 hD.2 r1 (by grind) (by grind)⟩, ⟨am_pos _, am_pos _⟩, fun p5 H5 s5 n5 e5 => ?_⟩
          rw [minus_am] at e5
          have e5g := s5.k e4
          refine ⟨_, rfl, _, rfl, go, _, _, _, rfl, rfl, SqL.of e5g, at_map (i := i) (by omega) g0, _, rfl, _, rfl, _, _, rfl, rfl, go, _, _, _, rfl, rfl, SqL.of e5g, at_map (i := i + 1) (by omega) g1, _, _, rfl, rfl, ?_⟩
          refine ⟨p5, am (ps[i + 1] - ps[i]), (spd ns ps).getD i 0 - (spd ns ps).getD (i + 1) 0, rfl, SqT.of e5, (bd_fr1 hD.1 hD.2 (r2.sub r1) (by grind) (by grind)).2, ⟨by omega, by omega⟩, am_pos _, fun p6 H6 s6 n6 e6 => ?_⟩
          rw [by_am _ (by omega)] at e6
          have s46 := s5.trans s6
          have fc := (r2.sub r1).divI (k := (spd ns ps).getD i 0 - (spd ns ps).getD (i + 1) 0) (by omega) (by omega)
          have cpos := lt_div (k := (spd ns ps).getD i 0 - (spd ns ps).getD (i + 1) 0) (by omega) ap
          have cle := div_le1 (a := ps[i + 1] - ps[i]) (k := (spd ns ps).getD i 0 - (spd ns ps).getD (i + 1) 0) (by omega) (sub_nn ap)
          have em : meetF (spd ns ps) ps (lastH L ns ps) (i + 1) = mnR (meetF (spd ns ps) ps (lastH L ns ps) i) ((ps[i + 1] - ps[i]) / (((spd ns ps).getD i 0 - (spd ns ps).getD (i + 1) 0 : Int) : Rat)) := by
            simp only [meetF]
            rw [if_pos hg, getD_lt (show i < ps.length by omega), getD_lt (show i + 1 < ps.length by omega)]
          rw [em]
          generalize meetF (spd ns ps) ps (lastH L ns ps) i = mf at *
          generalize (ps[i + 1] - ps[i]) / (((spd ns ps).getD i 0 - (spd ns ps).getD (i + 1) 0 : Int) : Rat) = cd at *
          refine ⟨_, rfl, _, rfl, p6, ph, _, _, rfl, SqT.of e6, same_tup s46 hph, ⟨bd_fr hD.1 hD.2 (by omega) (by omega) fc (neg_le (Rat.le_of_lt cpos) (by decide)) (Rat.le_trans cle (sub_le' (Rat.le_trans v2 hL2) t1)), bd_fr hD.1 hD.2 k11 k12 kf (neg_le kn (by decide)) (Rat.le_trans kL hL2)⟩, _, rfl, ?_⟩
          rw [below_am]
          unfold mnR
          by_cases hc : cd < mf
          · rw [decide_eq_true hc, if_pos hc]
            exact iteT ⟨_, rfl, s4.trans s46, _, _, _, rfl, SqT.of e6⟩
          · rw [decide_eq_false hc, if_neg hc]
            exact iteF ⟨_, rfl, s4.trans s46, _, _, _, rfl, same_tup s46 hph⟩
        · exact ⟨s4, ph, _, _, rfl, stay (fun z => e (decide_eq_true (by omega)))⟩
    · rintro σ H4 ⟨s4, ph, x5, x6, rfl, hph⟩
      exact ⟨_, rfl, q1 ph H4 (s02.trans s4) hph⟩

structure StOk (ns : List Int) (ps : List Rat) (len : Int) : Prop where
  eq : ns.length = ps.length
  n8 : ns.length ≤ 8
  pace : ∀ n ∈ ns, 1 ≤ n ∧ n ≤ 12
  rise : ps.Pairwise (· ≤ ·)
  nn : ∀ p ∈ ps, 0 ≤ p
  fire : ∀ p ∈ ps, p < (len : Rat)
  fr : ∀ p ∈ ps, Fr 420 p
  l1 : 1 ≤ len
  l2 : len ≤ 1000
theorem cut_mid {ds : List Int} {lo m : Nat} {z1 z2 : Int} (h1 : z1 = (lo : Int)) (h2 : z2 = ((lo + m : Nat) : Int)) (hl : lo + m ≤ ds.length) : cutV (ds.map V.int) (some z1) (some z2) = ((ds.drop lo).take m).map V.int := by
  subst h1 h2
  unfold cutV
  rw [HT.sIx_nat, HT.sIx_nat, List.length_map, Nat.min_eq_left (by omega), Nat.min_eq_left (by omega), Nat.add_sub_cancel_left, List.map_take, List.map_drop]
theorem iteJ {c : Bool} {A B : Prop} (hA : A) (hB : A → B) : if c = true then A else B := by
  cases c
  · exact iteF (hB hA)
  · exact iteT hA
theorem iteTx {A B : Prop} (h : if true = true then A else B) : A := h

theorem fr7 {n : Int} {d : Int} (h1 : 1 ≤ d) (h7 : d ≤ 7) : Fr 420 ((n : Rat) / (d : Rat)) := by
  rcases (by omega : d = 1 ∨ d = 2 ∨ d = 3 ∨ d = 4 ∨ d = 5 ∨ d = 6 ∨ d = 7) with rfl | rfl | rfl | rfl | rfl | rfl | rfl
  · exact Fr.of (k := 420) (by decide) (by decide) (by decide)
  · exact Fr.of (k := 210) (by decide) (by decide) (by decide)
  · exact Fr.of (k := 140) (by decide) (by decide) (by decide)
  · exact Fr.of (k := 105) (by decide) (by decide) (by decide)
  · exact Fr.of (k := 84) (by decide) (by decide) (by decide)
  · exact Fr.of (k := 70) (by decide) (by decide) (by decide)
  · exact Fr.of (k := 60) (by decide) (by decide) (by decide)
theorem div_bd {n d : Int} (h1 : 1 ≤ n) (h12 : n ≤ 12) (hd : 1 ≤ d) : (0 : Rat) < (n : Rat) / (d : Rat) ∧ (n : Rat) / (d : Rat) ≤ 12 := by
  have kd := cp (show 0 < d by omega)
  have kn := cp (show 0 < n by omega)
  have d1 : (1 : Rat) ≤ (d : Rat) := Rat.intCast_le_intCast.mpr hd
  have n12 : (n : Rat) ≤ 12 := Rat.intCast_le_intCast.mpr h12
  have e : (n : Rat) / (d : Rat) * (d : Rat) = (n : Rat) := Rat.div_mul_cancel (cn (by omega))
  have p : (0 : Rat) < (n : Rat) / (d : Rat) := (Rat.lt_div_iff kd).mpr (by rw [Rat.zero_mul]; exact kn)
  refine ⟨p, ?_⟩
  have := Rat.mul_le_mul_of_nonneg_left d1 (Rat.le_of_lt p)
  rw [e, Rat.mul_one] at this
  grind
theorem floor_lt (r : Rat) : r < (((am r).1 / (am r).2 + 1 : Int) : Rat) := by
  have h := am_pos r
  have kd := cp h
  have e := vl_am r
  unfold vl at e
  have hz : (am r).1 < ((am r).1 / (am r).2 + 1) * (am r).2 := Int.lt_ediv_add_one_mul_self _ h
  have hq : ((am r).1 : Rat) < (((am r).1 / (am r).2 + 1 : Int) : Rat) * ((am r).2 : Rat) := by
    rw [← Rat.intCast_mul]
    exact Rat.intCast_lt_intCast.mpr hz
  have := (Rat.div_lt_iff kd).mpr hq
  rw [e] at this
  exact this
theorem floor_le (r : Rat) {B : Int} (h1 : r ≤ (B : Rat)) : (am r).1 / (am r).2 ≤ B := by
  have h := am_pos r
  have kd := cp h
  have e := vl_am r
  unfold vl at e
  have hz : (am r).1 / (am r).2 * (am r).2 ≤ (am r).1 := Int.ediv_mul_le _ (by omega)
  by_cases c : (am r).1 / (am r).2 ≤ B
  · exact c
  · have c' : B + 1 ≤ (am r).1 / (am r).2 := by omega
    have h2 : (B + 1) * (am r).2 ≤ (am r).1 / (am r).2 * (am r).2 := Int.mul_le_mul_of_nonneg_right c' (Int.le_of_lt h)
    have h3 : ((B + 1 : Int) : Rat) * ((am r).2 : Rat) ≤ ((am r).1 : Rat) := by
      rw [← Rat.intCast_mul]
      exact Rat.intCast_le_intCast.mpr (Int.le_trans h2 hz)
    have h4 : ((am r).1 : Rat) = r * ((am r).2 : Rat) := by
      have := Rat.div_mul_cancel (a := ((am r).1 : Rat)) (cn (a := (am r).2) (by omega))
      rw [e] at this
      exact this.symm
    have h5 := Rat.mul_le_mul_of_nonneg_right h1 (Rat.le_of_lt kd)
    rw [Rat.intCast_add] at h3
    have : ((1 : Int) : Rat) = 1 := rfl
    grind
theorem floor_nn (r : Rat) (h0 : 0 ≤ r) : 0 ≤ (am r).1 / (am r).2 := by
  refine Int.ediv_nonneg ?_ (Int.le_of_lt (am_pos r))
  exact Rat.num_nonneg.mpr h0
theorem bd_st {r : Rat} (hf : Fr 420 r) (h0 : 0 ≤ r) (h1 : r ≤ 96) : Bd 4000 (am r) := by
  have : Bd 20 (am r) := fr_bd (D := 420) (B := 96) (by decide) hf (by have : ((96 : Int) : Rat) = 96 := rfl; grind) h1 (by decide) (by decide)
  exact this.mono (by decide)
def sp_l_standing (K : PySem.W.Frag) (T : Tb) : Sp := fun vs H Q _ => ∃ c : Int, vs = [.int c] ∧ ∀ t pa pl H' us ns ps len, Sm T H H' → H t = none → H' t = some (.tup [.int len, .ref pa, .ref pl]) → H pa = none → H' pa = some (.lst (ns.map V.int)) → H pl = none → H' pl = some (.lst us) →
  DpAll K H' us ((ps.map am).map amD) → StOk ns ps len → Q (.ref t) H'
theorem ok_l_standing {f : Addr} {fd : FuncData} (F : Fun K "_law_standing" "_law_standing" s_l_standing f fd) (B : Bn mg) (F_l_draws : Fn P w K mg base 1 "_law_draws" ["_law_cell_here", "_law_parts"] (sp_l_draws K T)) (F_l_amt : Fn P w K mg base 2 "_law_amt" ["_law_num", "_law_den"] (sp_l_amt K T)) (F_l_add : Fn P w K mg base 3 "_law_add" ["_law_one", "_law_other"] (sp_l_add K T)) : FnOk P w K mg base CX0 4 f fd ["_law_cell_here"] (sp_l_standing K T) := by
  refine F.ok sc_l_standing (fun vs H Q E h => ?_) (fun cdv A outer s H vs Q E hr h => ?_)
  · obtain ⟨c, rfl, _⟩ := h
    rfl
  · obtain ⟨c, rfl, q⟩ := h
    refine ⟨_, (pss_cons (ps_set (i := 1) sc_l_standing.nd rfl (.inr rfl) (pe_fn F_l_draws (hr.mono (by decide)) (pa_cons (pv 0) (pa_cons (pe_op op_cat (pe_op op_cat (pe_op op_cat (pe_op op_cat (pe_lst (pa_cons pe_int (pa_cons pe_int (pa_cons pe_int (pa_cons pe_int pa_nil))))) (pe_op op_rep (pe_lst (pa_cons pe_int pa_nil)) pe_int)) (pe_op op_rep (pe_lst (pa_cons pe_int pa_nil)) pe_int)) (pe_lst (pa_cons pe_int pa_nil))) (pe_op op_rep (pe_lst (pa_cons pe_int pa_nil)) pe_int)) pa_nil))))
      (pss_cons (ps_set (i := 2) sc_l_standing.nd rfl (.inl rfl) (pe_ix ix_list (pv 1) pe_int (fun _ _ => rfl)))
      (pss_cons (ps_setLc (i := 3) (own := [("_law_one", 7)]) (g := (gName 7)) (tt := tYes) (by rfl) sc_l_standing.nd rfl rfl (sw_true rfl rfl rfl (by decide +kernel)) (pi_list (pe_slice sl_list (pv 1) (po_some pe_int) (po_some (pe_op op_add pe_int (pv 2))))) (blkOk_by (own := [("_law_one", 7)]) (N := ["_law_cell_here", "_law_drawn", "_law_many_here", "_law_paces", "_law_place", "_law_places", "_law_k", "_law_one"]) (sc := (defScope s_l_standing)) (by decide +kernel)) (fun _ _ _ _ _ => (pg_name (i := 7) sc_l_standing.nd rfl (.inl rfl))) (fun _ _ _ _ _ => pts_nil) (fun _ _ _ _ _ => (pe_ix (r := rIxL K) ix_list (pe_lst (pa_cons (pe_op op_add pe_int (pv 7)) (pa_cons (pe_op op_add pe_int (pe_op op_mod (pv 7) pe_int)) (pa_cons (pe_op op_sub pe_int (pe_op op_mod (pv 7) pe_int)) (pa_cons (pe_op op_add pe_int (pv 7)) pa_nil))))) (pe_ix (r := rIxL K) ix_list (pv 1) pe_int (fun _ _ => rfl)) (fun _ _ => rfl))))
      (pss_cons (ps_set (i := 4) sc_l_standing.nd rfl (.inl rfl) (pe_tup (pa_cons pe_int (pa_cons pe_int pa_nil))))
      (pss_cons (ps_set (i := 5) sc_l_standing.nd rfl (.inl rfl) (pe_lst pa_nil))
      (pss_cons (ps_for PassesOwn.never rfl (pi_range1 (by rfl) B.range_ (pa_cons (pv 2) pa_nil)) (pg_name (i := 6) sc_l_standing.nd rfl (.inl rfl))
      (pss_cons (ps_if (PW.pt (pw_and (pt_cmpR op_gt (pe_ix ix_list (pv 1) (pe_op op_add pe_int (pv 6)) (fun _ _ => rfl)) pe_int (nomark _)) (pw_and1 (PW.pt (pw_or (pt_cmpR op_gt (pv 6) pe_int (nomark _)) (pw_or1 (pt_cmpR op_gt (pe_ix ix_list (pv 1) pe_int (fun _ _ => rfl)) pe_int (nomark _)))))))) (pss_one (ps_set (i := 4) sc_l_standing.nd rfl (.inl rfl) (pe_fn F_l_add (hr.mono (by decide)) (pa_cons (pv 4) (pa_cons (pe_fn F_l_amt (hr.mono (by decide)) (pa_cons (pe_op op_add pe_int (pe_ix ix_list (pv 1) (pe_op op_add pe_int (pv 6)) (fun _ _ => rfl))) (pa_cons (pe_op op_add pe_int (pe_op op_mod (pe_op op_mul (pe_ix ix_list (pv 1) pe_int (fun _ _ => rfl)) (pv 6)) pe_int)) pa_nil))) pa_nil))))) pss_nil)
      (pss_one (ps_expr (pe_bm PySem.F.plainAttrs_list PySem.F.slot_list_append PySem.F.type_list_append mt_append (pv 5) (pa_cons (pv 4) pa_nil))))))
      (pss_one (ps_ret (pe_tup (pa_cons (pe_op op_add (pe_op op_add (pe_op op_fdivW (pe_ix ix_tup (pv 4) pe_int (fun _ _ => rfl)) (pe_ix ix_tup (pv 4) pe_int (fun _ _ => rfl))) pe_int) (pe_op op_mul (pe_ix ix_list (pv 1) pe_int (fun _ _ => rfl)) (pe_callTy call_int1 (by rfl) B.int_ (by decide +kernel) (pa_cons (pe_cmpR op_gt (pe_ix ix_list (pv 1) pe_int (fun _ _ => rfl)) pe_int (nomark _)) pa_nil)))) (pa_cons (pv 3) (pa_cons (pv 5) pa_nil)))))))))))), ?_⟩
    refine ⟨_, rfl, by show 4 ≤ sizeLine; decide, fun l1 n1 => ⟨by show 1 ≤ sizeLine; decide, fun l2 n2 => ?_⟩⟩
    refine ⟨_, _, _, rfl, rfl, upd_same, by decide, by decide, by show 1 * 8 ≤ sizeLine; decide, fun l3 n3 => ?_⟩
    have u1 := same_upd (T := T) (o := HO.lst [V.int 9, V.int 4, V.int 5, V.int 30]) n1
    have u2 := same_upd (T := T) (o := HO.lst [V.int 3]) n2
    have u3 := same_upd (T := T) (o := HO.lst (List.replicate 8 [V.int 3]).flatten) n3
    refine ⟨_, _, _, _, rfl, rfl, u3.k (u2.k upd_same), upd_same, by show 4 + 8 ≤ sizeLine; decide, fun l4 n4 => ⟨by show 1 ≤ sizeLine; decide, fun l5 n5 => ?_⟩⟩
    refine ⟨_, _, _, rfl, rfl, upd_same, by decide, by decide, by show 1 * 8 ≤ sizeLine; decide, fun l6 n6 => ?_⟩
    have u4 := same_upd (T := T) (o := HO.lst ([V.int 9, V.int 4, V.int 5, V.int 30] ++ (List.replicate 8 [V.int 3]).flatten)) n4
    have u5 := same_upd (T := T) (o := HO.lst [V.int 12]) n5
    have u6 := same_upd (T := T) (o := HO.lst (List.replicate 8 [V.int 12]).flatten) n6
    refine ⟨_, _, _, _, rfl, rfl, u6.k (u5.k upd_same), upd_same, by show 12 + 8 ≤ sizeLine; decide, fun l7 n7 => ⟨by show 1 ≤ sizeLine; decide, fun l8 n8 => ?_⟩⟩
    have u7 := same_upd (T := T) (o := HO.lst ([V.int 9, V.int 4, V.int 5, V.int 30] ++ (List.replicate 8 [V.int 3]).flatten ++ (List.replicate 8 [V.int 12]).flatten)) n7
    have u8 := same_upd (T := T) (o := HO.lst [V.int 4]) n8
    refine ⟨_, _, _, _, rfl, rfl, u8.k upd_same, upd_same, by show 20 + 1 ≤ sizeLine; decide, fun l9 n9 => ⟨by show 1 ≤ sizeLine; decide, fun l10 n10 => ?_⟩⟩
    refine ⟨_, _, _, rfl, rfl, upd_same, by decide, by decide, by show 1 * 8 ≤ sizeLine; decide, fun l11 n11 => ?_⟩
    have u9 := same_upd (T := T) (o := HO.lst ([V.int 9, V.int 4, V.int 5, V.int 30] ++ (List.replicate 8 [V.int 3]).flatten ++ (List.replicate 8 [V.int 12]).flatten ++ [V.int 4])) n9
    have u10 := same_upd (T := T) (o := HO.lst [V.int 12]) n10
    have u11 := same_upd (T := T) (o := HO.lst (List.replicate 8 [V.int 12]).flatten) n11
    refine ⟨_, _, _, _, rfl, rfl, u11.k (u10.k upd_same), upd_same, by show 21 + 8 ≤ sizeLine; decide, fun l12 n12 => ?_⟩
    have u12 := same_upd (T := T) (o := HO.lst ([V.int 9, V.int 4, V.int 5, V.int 30] ++ (List.replicate 8 [V.int 3]).flatten ++ (List.replicate 8 [V.int 12]).flatten ++ [V.int 4] ++ (List.replicate 8 [V.int 12]).flatten)) n12
    refine ⟨c, l12, [9, 4, 5, 30, 3, 3, 3, 3, 3, 3, 3, 3, 12, 12, 12, 12, 12, 12, 12, 12, 4, 12, 12, 12, 12, 12, 12, 12, 12], rfl, SqL.of upd_same, by decide, by decide, fun p3 H3 ds s3 np3 e3 hd => ?_⟩
    have s03 : Sm T H H3 := u1.trans (u2.trans (u3.trans (u4.trans (u5.trans (u6.trans (u7.trans (u8.trans (u9.trans (u10.trans (u11.trans (u12.trans s3)))))))))))
    clear s3 u1 u2 u3 u4 u5 u6 u7 u8 u9 u10 u11 u12
    have dl : ds.length = 29 := hd.length
    obtain ⟨d0, g0, h00, h01⟩ := hd.get (i := 0) rfl
    obtain ⟨d1, g1, h10, h11⟩ := hd.get (i := 1) rfl
    obtain ⟨d2, g2, h20, h21⟩ := hd.get (i := 2) rfl
    obtain ⟨d3, g3, h30, h31⟩ := hd.get (i := 3) rfl
    obtain ⟨d20, g20, h200, h201⟩ := hd.get (i := 20) rfl
    obtain ⟨m, rfl⟩ : ∃ m : Nat, d0 = (m : Int) := ⟨d0.toNat, by omega⟩
    refine ⟨_, rfl, p3, _, 0, .int m, rfl, rfl, SqL.of e3, at_map (i := 0) rfl g0, ?_⟩
    refine ⟨_, rfl, 21, rfl, _, rfl, _, _, rfl, rfl, _, rfl, p3, _, rfl, SqL.of e3, fun p4 np4 => ?_⟩
    have ec : cutV (ds.map V.int) (some 21) (some (21 + (m : Int))) = ((ds.drop 21).take m).map V.int := cut_mid (lo := 21) (m := m) rfl (by omega) (by omega)
    rw [ec]
    have u4 := same_upd (T := T) (o := HO.lst (((ds.drop 21).take m).map V.int)) np4
    refine ⟨p4, rfl, ⟨_, SqL.of upd_same⟩, fun D hD => lc_list (K := K) (a := p4) (xs := ((ds.drop 21).take m).map V.int) (Qd := _) (fun i H' => Sm T (upd H3 p4 (.lst (((ds.drop 21).take m).map V.int))) H' ∧ ∃ ns : List Int, H' D = some (.lst (ns.map V.int)) ∧ ns.length = i ∧ ∀ n ∈ ns, 1 ≤ n ∧ n ≤ 12) ⟨same_upd hD, [], upd_same, rfl, fun _ h => nomatch h⟩ (fun i H' _ ⟨sm, _⟩ => SqL.of (sm.k upd_same)) ?_ ?_⟩
    · rintro i v H' hi ⟨sm, ns, eD, hl, hn⟩
      rw [List.getElem?_map] at hi
      obtain ⟨one, hq, rfl⟩ : ∃ one, ((ds.drop 21).take m)[i]? = some one ∧ V.int one = v := Option.map_eq_some_iff.mp hi
      have him : i < m := by
        have := (List.getElem?_eq_some_iff.mp hq).1
        rw [List.length_take] at this
        omega
      have hone : 0 ≤ one ∧ one < 12 := by
        obtain ⟨x, gx, x0, x1⟩ : ∃ x, ds[21 + i]? = some x ∧ 0 ≤ x ∧ x < 12 := hd.get (q := 12) (by rcases (by omega : i = 0 ∨ i = 1 ∨ i = 2 ∨ i = 3 ∨ i = 4 ∨ i = 5 ∨ i = 6 ∨ i = 7) with rfl | rfl | rfl | rfl | rfl | rfl | rfl | rfl <;> rfl)
        rw [List.getElem?_take_of_lt him, List.getElem?_drop, gx] at hq
        cases hq
        exact ⟨x0, x1⟩
      refine ⟨rfl, tyes_i ?_⟩
      refine ⟨_, rfl, _, _, rfl, rfl, _, rfl, _, _, rfl, rfl, (by show (0 : Int) < 3; decide), _, _, rfl, rfl, _, rfl, _, _, rfl, rfl, (by show (0 : Int) < 2; decide), _, _, rfl, rfl, _, rfl, _, _, rfl, rfl, by show 4 ≤ sizeLine; decide, fun l nl => ?_⟩
      have ul := same_upd (T := T) (o := HO.lst [V.int (1 + one), V.int (1 + one % 3), V.int (12 - one % 2), V.int (1 + one)]) nl
      have hz : ∃ z : Int, 1 ≤ z ∧ z ≤ 12 ∧ atI [V.int (1 + one), V.int (1 + one % 3), V.int (12 - one % 2), V.int (1 + one)] d20 = some (.int z) := by
        rcases (by omega : d20 = 0 ∨ d20 = 1 ∨ d20 = 2 ∨ d20 = 3) with rfl | rfl | rfl | rfl
        · exact ⟨_, by omega, by omega, atI_nat (j := 0) rfl⟩
        · exact ⟨_, by omega, by omega, atI_nat (j := 1) rfl⟩
        · exact ⟨_, by omega, by omega, atI_nat (j := 2) rfl⟩
        · exact ⟨_, by omega, by omega, atI_nat (j := 3) rfl⟩
      obtain ⟨z, z1, z12, hz⟩ := hz
      have e5 := (u4.trans (sm.trans ul)).k e3
      have eD5 := ul.k eD
      refine ⟨_, rfl, p3, _, 20, .int d20, rfl, rfl, SqL.of e5, at_map (i := 20) rfl g20, l, _, _, _, rfl, rfl, SqL.of upd_same, hz, ?_⟩
      refine ⟨_, eD5, by rw [List.length_map]; exact szl (by omega), same_mut (sm.trans ul) hD eD5, ns ++ [z], by rw [upd_same, List.map_append]; rfl, by rw [List.length_append, hl]; rfl, fun n hn' => ?_⟩
      rcases List.mem_append.mp hn' with h | h
      · exact hn n h
      · rw [List.mem_singleton.mp h]
        exact ⟨z1, z12⟩
    · rintro H5 ⟨s5, ns, eD, hl, hn⟩
      have nl : ns.length = m := by
        rw [hl, List.length_map, List.length_take, List.length_drop]
        omega
      clear hl
      have s05 := s03.trans (u4.trans s5)
      have npa : H D = none := (s03.trans u4).free _ hD
      have e5 := (u4.trans s5).k e3
      refine ⟨by show 2 ≤ sizeLine; decide, fun t0 nt0 => ⟨Nat.zero_le _, fun o no => ?_⟩⟩
      have ut := same_upd (T := T) (o := HO.tup [V.int 0, V.int 1]) nt0
      have uo := same_upd (T := T) (o := HO.lst []) no
      refine ⟨_, rfl, m, rfl, by omega, by omega, for_range (lo := 0) (n := m) (fun i σ H6 => Sm T (upd H5 t0 (.tup [V.int 0, V.int 1])) H6 ∧ ∃ (r : Rat) (pr : Addr) (us : List V) (ps : List Rat) (x6 x7 : Option V), σ = [some (.int c), some (.ref p3), some (.int m), some (.ref D), some (.ref pr), some (.ref o), x6, x7] ∧ SqT K H6 pr (tv (am r)) ∧ H6 o = some (.lst us) ∧ DpAll K H6 us ((ps.map am).map amD) ∧ ps.length = i ∧ 0 ≤ r ∧ r ≤ 12 * (i : Rat) ∧ Fr 420 r ∧ ps.Pairwise (· ≤ ·) ∧ ∀ p ∈ ps, 0 ≤ p ∧ p ≤ r ∧ Fr 420 p) ?_ ?_ ?_⟩
      · refine ⟨uo, 0, t0, [], [], _, _, rfl, ?_, upd_same, .nil, rfl, by decide, by rw [show (((0 : Nat) : Rat)) = 0 from rfl, Rat.mul_zero]; decide, Fr.zero (by decide), .nil, fun _ h => nomatch h⟩
        rw [am_zero]
        exact SqT.of (uo.k upd_same)
      · rintro i σ H6 hi ⟨s6, r, pr, us, ps, x6, x7, rfl, hpr, eo, hus, hpl, r0, rb, rf, hp, hps⟩
        have e6 := (ut.trans s6).k e5
        obtain ⟨x, gx, x0, x1⟩ : ∃ x, ds[4 + i]? = some x ∧ 0 ≤ x ∧ x < 3 := hd.get (q := 3) (by rcases (by omega : i = 0 ∨ i = 1 ∨ i = 2 ∨ i = 3 ∨ i = 4 ∨ i = 5 ∨ i = 6 ∨ i = 7) with rfl | rfl | rfl | rfl | rfl | rfl | rfl | rfl <;> rfl)
        obtain ⟨y, gy, y0, y1⟩ : ∃ y, ds[12 + i]? = some y ∧ 0 ≤ y ∧ y < 12 := hd.get (q := 12) (by rcases (by omega : i = 0 ∨ i = 1 ∨ i = 2 ∨ i = 3 ∨ i = 4 ∨ i = 5 ∨ i = 6 ∨ i = 7) with rfl | rfl | rfl | rfl | rfl | rfl | rfl | rfl <;> rfl)
        have i8 : (i : Rat) ≤ 7 := by exact_mod_cast (by omega : i ≤ 7)
        have li : us.length = i := by rw [dpa_len hus, List.length_map, List.length_map, hpl]
        dsimp only [gName]
        refine seq_if (fun σ' H' => Sm T H6 H' ∧ ∃ (r' : Rat) (pr : Addr) (x6 x7 : Option V), σ' = [some (.int c), some (.ref p3), some (.int m), some (.ref D), some (.ref pr), some (.ref o), x6, x7] ∧ SqT K H' pr (tv (am r')) ∧ r ≤ r' ∧ r' ≤ r + 12 ∧ Fr 420 r') (fun σ' H' p => ?_) (fun k => ?_)
        · obtain ⟨s7, r', pr, x6, x7, rfl, hpr', h1, h2, hf'⟩ := p
          have eo7 := s7.k eo
          refine ⟨_, rfl, .inl ⟨rfl, _, SqL.of eo7⟩, _, rfl, o, _, _, rfl, rfl, eo7, szl (by omega), ?_⟩
          refine ⟨same_mut (s6.trans s7) no eo7, r', pr, us ++ [.ref pr], ps ++ [r'], _, _, rfl, sqT_mut hpr' eo7, upd_same, ?_, by rw [List.length_append, hpl]; rfl, by grind, by rw [show ((i + 1 : Nat) : Rat) = (i : Rat) + 1 by exact_mod_cast rfl]; grind, hf', ?_, ?_⟩
          · rw [List.map_append, List.map_append]
            refine dpa_app (pds_mut eo7 (dpa_same s7 _ _ hus)) (.cons (pd_mut (amD_dp hpr') eo7) .nil)
          · rw [List.pairwise_append]
            refine ⟨hp, List.pairwise_singleton _ _, fun a ha b hb => ?_⟩
            rw [List.mem_singleton.mp hb]
            have := (hps a ha).2.1
            grind
          · intro p hp'
            rcases List.mem_append.mp hp' with h | h
            · have := hps p h
              exact ⟨this.1, by grind, this.2.2⟩
            · rw [List.mem_singleton.mp h]
              exact ⟨by grind, by grind, hf'⟩
        · have same : ∀ x6 x7, ∃ (r' : Rat) (pr' : Addr) (y6 y7 : Option V), [some (V.int c), some (.ref p3), some (.int m), some (.ref D), some (.ref pr), some (.ref o), x6, x7] = [some (V.int c), some (.ref p3), some (.int m), some (.ref D), some (.ref pr'), some (.ref o), y6, y7] ∧ SqT K H6 pr' (tv (am r')) ∧ r ≤ r' ∧ r' ≤ r + 12 ∧ Fr 420 r' := fun x6 x7 => ⟨r, pr, x6, x7, rfl, hpr, by grind, by grind, rf⟩
          refine ⟨_, rfl, _, rfl, _, _, rfl, rfl, p3, _, _, .int x, rfl, rfl, SqL.of e6, at_map (i := 4 + i) (by omega) gx, _, _, rfl, rfl, _, rfl, ite2 (fun e => ?_) (fun e => ?_)⟩
          · refine ⟨_, rfl, _, _, rfl, rfl, _, rfl, ?_⟩
            refine iteJ ?_ (fun hA => ?_)
            · refine iteT ?_
              refine ⟨_, rfl, _, rfl, _, rfl, _, _, rfl, rfl, p3, _, _, .int y, rfl, rfl, SqL.of e6, at_map (i := 12 + i) (by omega) gy, _, _, rfl, rfl, ?_⟩
              refine ⟨_, rfl, p3, _, 2, .int d2, rfl, rfl, SqL.of e6, at_map (i := 2) rfl g2, _, rfl, _, _, rfl, rfl, .inl ⟨by omega, by omega⟩, _, _, rfl, rfl, (by show (0 : Int) < 7; decide), _, _, rfl, rfl, ?_⟩
              have w0 := Int.emod_nonneg (d2 * (0 + (i : Int))) (show (7 : Int) ≠ 0 by decide)
              have w1 := Int.emod_lt_of_pos (d2 * (0 + (i : Int))) (show (0 : Int) < 7 by decide)
              generalize d2 * (0 + (i : Int)) % 7 = w7 at *
              have hdv := div_bd (n := 1 + y) (d := 1 + w7) (by omega) (by omega) (by omega)
              have hfv := fr7 (n := 1 + y) (d := 1 + w7) (by omega) (by omega)
              refine ⟨1 + y, 1 + w7, rfl, by omega, Nat.lt_of_le_of_lt (by omega : (1 + w7).natAbs ≤ 7) (Nat.lt_of_lt_of_le (by decide : 7 < 2 ^ 3) (Nat.pow_le_pow_right (by decide) (by decide))), fun p7 H7 s7 np7 e7 => ?_⟩
              rw [amt_am (by omega)] at e7
              generalize ((1 + y : Int) : Rat) / ((1 + w7 : Int) : Rat) = dv at *
              refine ⟨pr, p7, am r, am dv, rfl, same_tup s7 hpr, SqT.of e7, ⟨bd_st rf r0 (by grind), bd_st hfv (by grind) (by grind)⟩, ⟨am_pos _, am_pos _⟩, fun p8 H8 s8 np8 e8 => ?_⟩
              rw [plus_am] at e8
              exact k _ _ ⟨s7.trans s8, r + dv, p8, _, _, rfl, SqT.of e8, by grind, by grind, rf.add hfv⟩
            · refine ⟨_, rfl, p3, _, 1, .int d1, rfl, rfl, SqL.of e6, at_map (i := 1) rfl g1, _, _, rfl, rfl, _, rfl, ite2 (fun e => iteTx hA) (fun e => ?_)⟩
              exact k _ _ ⟨Sm.refl, same _ _⟩
          · refine iteF ?_
            exact k _ _ ⟨Sm.refl, same _ _⟩
      · rintro σ H6 ⟨s6, r, pr, us, ps, x6, x7, rfl, hpr, eo, hus, hpl, r0, rb, rf, hp, hps⟩
        have e6 := (ut.trans s6).k e5
        have m8 : (m : Rat) ≤ 8 := by exact_mod_cast (by omega : m ≤ 8)
        have bnd := bd_st rf r0 (by grind)
        have f0 := floor_nn r r0
        have f1 := floor_le r (B := 96) (by have : ((96 : Int) : Rat) = 96 := rfl; grind)
        have fl := floor_lt r
        refine ⟨_, rfl, pr, _, 0, .int (am r).1, rfl, rfl, hpr, atI_nat (j := 0) rfl, _, rfl, pr, _, 1, .int (am r).2, rfl, rfl, hpr, atI_nat (j := 1) rfl, _, _, rfl, rfl, wide_div (b := 4000) (am_pos r) bnd.2 (by decide) (by decide), _, _, rfl, rfl, ?_⟩
        refine ⟨_, rfl, p3, _, 3, .int d3, rfl, rfl, SqL.of e6, at_map (i := 3) rfl g3, _, rfl, p3, _, 1, .int d1, rfl, rfl, SqL.of e6, at_map (i := 1) rfl g1, _, _, rfl, rfl, .inr ⟨_, rfl, ?_⟩⟩
        have hb : 0 ≤ d3 * (if decide (1 < d1) = true then (1 : Int) else 0) ∧ d3 * (if decide (1 < d1) = true then (1 : Int) else 0) ≤ 29 := by
          split
          · omega
          · omega
        refine ⟨_, _, rfl, rfl, .inl ⟨by omega, by omega⟩, _, _, rfl, rfl, _, rfl, _, rfl, by show 3 ≤ sizeLine; decide, fun t nt => ?_⟩
        generalize d3 * (if decide (1 < d1) = true then (1 : Int) else 0) = bb at *
        generalize (am r).1 / (am r).2 = fo at *
        have s06 := s05.trans (ut.trans s6)
        have uz := same_upd (T := T) (o := HO.tup [V.int (fo + 1 + bb), V.ref D, V.ref o]) nt
        have lt : ∀ p ∈ ps, p < ((fo + 1 + bb : Int) : Rat) := fun p hp' => by
          have := (hps p hp').2.1
          have h3 : ((fo + 1 : Int) : Rat) ≤ ((fo + 1 + bb : Int) : Rat) := Rat.intCast_le_intCast.mpr (by omega)
          grind
        refine q t D o _ us ns ps _ (s06.trans uz) (s06.free _ nt) upd_same npa ((ut.trans (s6.trans uz)).k eD) ((s05.trans ut).free _ no) (uz.k eo) (dpa_same uz _ _ hus) ⟨by rw [nl, hpl], by omega, hn, hp, fun p hp' => (hps p hp').1, lt, fun p hp' => (hps p hp').2.2, by omega, by omega⟩

def sp_p_walked (K : PySem.W.Frag) (T : Tb) : Sp := fun vs H Q _ => ∃ (D : Int) (a b hp : Addr) (us : List V) (ns : List Int) (ps : List Rat) (t : Rat), vs = [.ref a, .ref b, .ref hp] ∧ SqL K H a (ns.map V.int) ∧ SqL K H b us ∧ AmL K H us ps ∧ SqT K H hp (tv (am t)) ∧ ns.length = ps.length ∧ ns.length ≤ 1000 ∧
  (0 < D ∧ D.natAbs < 2 ^ 3900) ∧ (∀ j, j < ns.length → 1 ≤ (spd ns ps).getD j 0 ∧ (spd ns ps).getD j 0 ≤ 12) ∧ (∀ p ∈ ps, Fr D p ∧ 0 ≤ p ∧ p ≤ 50000) ∧ (Fr D t ∧ 0 ≤ t ∧ t ≤ 50000) ∧
  ∀ p H' us', Sm T H H' → H p = none → H' p = some (.lst us') → AmL K H' us' (walkM ns ps t) → Q (.ref p) H'
theorem ok_p_walked {f : Addr} {fd : FuncData} (F : Fun K "walked" "walked" s_p_walked f fd) (B : Bn mg) (F_p_plus : Fn P w K mg base 3 "plus" ["one", "other"] (sp_p_plus K T)) (F_p_times : Fn P w K mg base 3 "times" ["one", "other"] (sp_p_times K T)) (F_p_speeds : Fn P w K mg base 1 "speeds" ["paces", "places"] (sp_p_speeds K T)) : FnOk P w K mg base CX0 4 f fd ["paces", "places", "hours"] (sp_p_walked K T) := by
  refine F.ok sc_p_walked (fun vs H Q E h => ?_) (fun cdv A outer s H vs Q E hr h => ?_)
  · obtain ⟨D, a, b, hp, us, ns, ps, t, rfl, _⟩ := h
    rfl
  · obtain ⟨D, a, b, hp, us, ns, ps, t, rfl, ha, hb, hu, ht, hl, hl2, hD, hg, hps, ⟨tf, t0, t1⟩, q⟩ := h
    refine ⟨_, (pss_cons (ps_set (i := 3) sc_p_walked.nd rfl (.inl rfl) (pe_fn F_p_speeds (hr.mono (by decide)) (pa_cons (pv 0) (pa_cons (pv 1) pa_nil))))
      (pss_one (ps_ret (pe_lc (own := [("place", 4), ("speed", 5)]) (g := (gTup K 2 (gCons (gName 4) (gCons (gName 5) gNil)))) (tt := tYes) (by rfl) sc_p_walked.nd (pi_zip (by rfl) B.zip_ (pa_cons (pv 1) (pa_cons (pv 3) pa_nil))) (blkOk_by (own := [("place", 4), ("speed", 5)]) (N := ["paces", "places", "hours", "going", "place", "speed"]) (sc := (defScope s_p_walked)) (by decide +kernel)) (fun _ _ _ _ _ => (pg_tup rfl (pgs_cons (pg_name (i := 4) sc_p_walked.nd rfl (.inl rfl)) (pgs_cons (pg_name (i := 5) sc_p_walked.nd rfl (.inl rfl)) pgs_nil)))) (fun _ _ _ _ _ => pts_nil) (fun _ _ _ _ _ => (pe_fn F_p_plus (hr.mono (by decide)) (pa_cons (pv 4) (pa_cons (pe_fn F_p_times (hr.mono (by decide)) (pa_cons (pe_tup (pa_cons (pv 5) (pa_cons pe_int pa_nil))) (pa_cons (pv 2) pa_nil))) pa_nil)))))))), ?_⟩
    have lu := hu.len
    have lsp := spd_len ns ps hl
    refine ⟨_, rfl, _, rfl, a, b, us, ns, ps, rfl, ha, hb, hu, hl, hl2, fun go H1 s1 n1 e1 => ?_⟩
    refine ⟨_, rfl, _, rfl, b, go, us, (spd ns ps).map V.int, rfl, s1.seq hb, SqL.of e1, fun D0 hD0 => lc_it (walk_zip (n := ns.length) (by rw [lu, List.length_map, lsp]; omega)) (Qd := _) (fun i H' => Sm T H1 H' ∧ ∃ vs, H' D0 = some (.lst vs) ∧ AmL K H' vs ((List.range i).map fun j => ps.getD j 0 + t * (((spd ns ps).getD j 0 : Int) : Rat))) ⟨same_upd hD0, [], upd_same, .nil⟩ (fun i H' _ ⟨sm, _⟩ => ⟨(s1.trans sm).seq hb, SqL.of (sm.k e1)⟩) ?_ ?_⟩
    · rintro i x H2 H3 hi ⟨sm, vs, eD, hv⟩ ⟨tp, x1, y1, rfl, ntp, rfl, f1, f2⟩
      obtain ⟨b1, g1, q1⟩ := hu.at (i := i) (by omega)
      have gj : (spd ns ps)[i]? = some ((spd ns ps).getD i 0) := by rw [List.getD_eq_getElem?_getD, List.getElem?_eq_getElem (show i < (spd ns ps).length by omega)]; rfl
      simp only [g1] at f1
      simp only [List.getElem?_map, gj, Option.map_some] at f2
      cases f1
      cases f2
      have ut := same_upd (T := T) (o := .tup [V.ref b1, V.int ((spd ns ps).getD i 0)]) ntp
      have gi := hg i hi
      have hp1 := hps _ (getD_mem (d := (0 : Rat)) (show i < ps.length by omega))
      have c0 : (1 : Rat) ≤ (((spd ns ps).getD i 0 : Int) : Rat) := Rat.intCast_le_intCast.mpr gi.1
      have c1 : (((spd ns ps).getD i 0 : Int) : Rat) ≤ 12 := Rat.intCast_le_intCast.mpr gi.2
      refine ⟨tp, _, rfl, SqT.of upd_same, rfl, _, _, rfl, _, _, rfl, rfl, rfl, tyes_i ?_⟩
      refine ⟨_, rfl, _, rfl, by show 2 ≤ sizeLine; decide, fun t2 nt2 => ?_⟩
      have u2 := same_upd (T := T) (o := .tup [V.int ((spd ns ps).getD i 0), V.int 1]) nt2
      have s13 := s1.trans (sm.trans (ut.trans u2))
      refine ⟨_, rfl, t2, hp, ((spd ns ps).getD i 0, 1), am t, rfl, SqT.of upd_same, same_tup s13 ht, ⟨bd_int (small (by omega)), bdL hD.1 hD.2 tf t0 (Rat.le_trans t1 (by decide))⟩, ⟨by show (0 : Int) < 1; decide, am_pos _⟩, fun p4 H4 s4 n4 e4 => ?_⟩
      rw [← am_int, times_am, Rat.mul_comm] at e4
      have mr := mul_rng t0 t1 c0 c1
      have fm : Fr D (t * (((spd ns ps).getD i 0 : Int) : Rat)) := by rw [Rat.mul_comm]; exact tf.mulI _
      refine ⟨b1, p4, am (ps.getD i 0), am (t * (((spd ns ps).getD i 0 : Int) : Rat)), rfl, same_tup (s13.trans s4) q1, SqT.of e4, ⟨bdL hD.1 hD.2 hp1.1 hp1.2.1 (Rat.le_trans hp1.2.2 (by decide)), bdL hD.1 hD.2 fm mr.1 (Rat.le_trans mr.2 (by decide +kernel))⟩, ⟨am_pos _, am_pos _⟩, fun p5 H5 s5 n5 e5 => ?_⟩
      rw [plus_am] at e5
      have sA := ut.trans (u2.trans (s4.trans s5))
      have eD5 := sA.k eD
      have lv : vs.length = i := by rw [hv.len, List.length_map, List.length_range]
      refine ⟨_, eD5, szl (by omega), same_mut (sm.trans sA) hD0 eD5, _, upd_same, ?_⟩
      rw [take_range]
      exact (hv.keep sA).push eD5 (SqT.of e5)
    · rintro H2 ⟨sm, vs, eD, hv⟩
      exact q D0 H2 vs (s1.trans sm) (s1.free _ hD0) eD hv

theorem spd_bd2 {ns : List Int} {ps : List Rat} (hl : ns.length = ps.length) (hp : ∀ n ∈ ns, 1 ≤ n ∧ n ≤ 12) : ∀ j, j < ns.length → 1 ≤ (spd ns ps).getD j 0 ∧ (spd ns ps).getD j 0 ≤ 12 := by
  have key : ∀ k j, j < ns.length → ns.length - j ≤ k → 1 ≤ (spd ns ps).getD j 0 ∧ (spd ns ps).getD j 0 ≤ 12 := by
    intro k
    induction k with
    | zero => intro j h1 h2; omega
    | succ k ih =>
      intro j h1 h2
      have hp := hp _ (getD_mem (d := 0) h1)
      rw [spd_rec hl h1]
      split
      · rename_i h
        have := ih (j + 1) h.1 (by omega)
        unfold mnI
        split <;> omega
      · exact hp
  exact fun j h => key _ j h (Nat.le_refl _)
theorem walk_walk2 {D L : Int} {ns : List Int} {ps : List Rat} (w : Wk D L ns ps) {t h : Rat} (h0 : 0 ≤ t) (h1 : t ≤ h) (hm : 0 < ns.length → h ≤ meetM L ns ps) : walkM ns (walkM ns ps t) (h - t) = walkM ns ps h := by
  by_cases c : 0 < ns.length
  · exact walk_walk w h0 h1 (hm c)
  · have e : ns.length = 0 := by omega
    unfold walkM
    rw [e]
    rfl
theorem part_le {m k : Rat} (c : Int) {n : Int} (h0 : 0 ≤ m) (c0 : 0 ≤ c) (c1 : c ≤ n) (hn : 0 < n) (e : k = m * (c : Rat) / (n : Rat)) : 0 ≤ k ∧ k ≤ m := by
  have kn := cp hn
  have d := div_mul (a := m * (c : Rat)) hn
  rw [← e] at d
  have a0 : (0 : Rat) ≤ (c : Rat) := Rat.intCast_le_intCast.mpr c0
  have a1 : (c : Rat) ≤ (n : Rat) := Rat.intCast_le_intCast.mpr c1
  have b0 := Rat.mul_nonneg h0 a0
  have b1 := Rat.mul_le_mul_of_nonneg_left a1 h0
  constructor
  · by_cases z : k < 0
    · have := Rat.mul_lt_mul_of_pos_right z kn
      grind
    · exact Rat.not_lt.mp z
  · by_cases z : m < k
    · have := Rat.mul_lt_mul_of_pos_right z kn
      grind
    · exact Rat.not_lt.mp z
theorem walk_rng {ns : List Int} {ps : List Rat} {D : Int} {t : Rat} (hl : ns.length = ps.length) (hg : ∀ j, j < ns.length → 1 ≤ (spd ns ps).getD j 0 ∧ (spd ns ps).getD j 0 ≤ 12) (hp : ∀ p ∈ ps, Fr D p ∧ 0 ≤ p ∧ p ≤ 1000) (ht : Fr D t ∧ 0 ≤ t ∧ t ≤ 1000) : ∀ p ∈ walkM ns ps t, Fr D p ∧ 0 ≤ p ∧ p ≤ 50000 := by
  intro p hp'
  unfold walkM at hp'
  obtain ⟨j, hj, rfl⟩ := List.mem_map.mp hp'
  rw [List.mem_range] at hj
  have g := hg j hj
  have m := hp _ (getD_mem (d := (0 : Rat)) (show j < ps.length by omega))
  have c0 : (1 : Rat) ≤ (((spd ns ps).getD j 0 : Int) : Rat) := Rat.intCast_le_intCast.mpr g.1
  have c1 : (((spd ns ps).getD j 0 : Int) : Rat) ≤ 12 := Rat.intCast_le_intCast.mpr g.2
  have r := mul_rng ht.2.1 ht.2.2 c0 c1
  refine ⟨?_, by grind, by grind⟩
  refine m.1.add ?_
  rw [Rat.mul_comm]
  exact ht.1.mulI _
theorem depOk_aml {n : Nat} {rs : List Rat} (h : rs.length ≤ 9000) : depOk (n + 2) (.list ((rs.map am).map amD)) = true := depOk_amsN (by rw [List.length_map]; exact h)
def sp_LAW (K : PySem.W.Frag) (T : Tb) : Sp := fun vs H Q _ => ∃ (a : Addr) (ns : List Int), vs = [.ref a] ∧ SqL K H a (ns.map V.int) ∧ ns.length ≤ 63 ∧ (∀ z ∈ ns, Builtin.Int.intBits z ≤ 1048576) ∧ ∀ H', Q (.bl true) H'
theorem ok_LAW {f : Addr} {fd : FuncData} (F : Fun K "law" "law" s_LAW f fd) (B : Bn mg) (F_l_cell : Fn P w K mg base 1 "_law_cell" ["_law_script", "_law_k"] (sp_l_cell K T)) (F_l_draws : Fn P w K mg base 1 "_law_draws" ["_law_cell_here", "_law_parts"] (sp_l_draws K T)) (F_l_split : Fn P w K mg base 1 "_law_split" ["_law_cell_here", "_law_many_here"] (sp_l_split K T)) (F_l_many : Fn P w K mg base 1 "_law_many" ["_law_script", "_law_few"] (sp_l_many K T)) (F_l_same : Fn P w K mg base 6 "_law_same" ["_law_found", "_law_due"] (sp_l_same K T)) (F_l_add : Fn P w K mg base 3 "_law_add" ["_law_one", "_law_other"] (sp_l_add K T)) (F_l_sub : Fn P w K mg base 3 "_law_sub" ["_law_one", "_law_other"] (sp_l_sub K T)) (F_l_by : Fn P w K mg base 3 "_law_by" ["_law_one", "_law_number"] (sp_l_by K T)) (F_l_mul : Fn P w K mg base 3 "_law_mul" ["_law_one", "_law_number"] (sp_l_mul K T)) (F_l_rates : Fn P w K mg base 1 "_law_rates" ["_law_paces", "_law_places"] (sp_l_rates K T)) (F_l_until : Fn P w K mg base 4 "_law_until" ["_law_length", "_law_paces", "_law_places"] (sp_l_until K T)) (F_l_standing : Fn P w K mg base 4 "_law_standing" ["_law_cell_here"] (sp_l_standing K T)) (F_p_walked : Fn P w K mg base 4 "walked" ["paces", "places", "hours"] (sp_p_walked K T)) : FnOk P w K mg base CX0 8 f fd ["_law_script"] (sp_LAW K T) := by
  refine F.ok sc_LAW (fun vs H Q E h => ?_) (fun cdv A outer s H vs Q E hr h => ?_)
  · obtain ⟨a, ns, rfl, _⟩ := h
    rfl
  · obtain ⟨a, script, rfl, hS, hlen, hbits, q⟩ := h
    refine ⟨_, (pss_cons (ps_for PassesOwn.never rfl (pi_range1 (by rfl) B.range_ (pa_cons (pe_fn F_l_many (hr.mono (by decide)) (pa_cons (pv 0) (pa_cons pe_int pa_nil))) pa_nil)) (pg_name (i := 1) sc_LAW.nd rfl (.inl rfl))
      (pss_cons (ps_asg (pe_fn F_l_split (hr.mono (by decide)) (pa_cons (pe_fn F_l_cell (hr.mono (by decide)) (pa_cons (pv 0) (pa_cons (pv 1) pa_nil))) (pa_cons pe_int pa_nil))) (pg_unl rfl (pgs_cons (pg_name (i := 2) sc_LAW.nd rfl (.inl rfl)) (pgs_cons (pg_name (i := 3) sc_LAW.nd rfl (.inl rfl)) pgs_nil))))
      (pss_cons (ps_asg (pe_fn F_l_standing (hr.mono (by decide)) (pa_cons (pv 2) pa_nil)) (pg_tup rfl (pgs_cons (pg_name (i := 4) sc_LAW.nd rfl (.inl rfl)) (pgs_cons (pg_name (i := 5) sc_LAW.nd rfl (.inl rfl)) (pgs_cons (pg_name (i := 6) sc_LAW.nd rfl (.inr rfl)) pgs_nil)))))
      (pss_cons (ps_asg (pe_fn F_l_draws (hr.mono (by decide)) (pa_cons (pv 3) (pa_cons (pe_lst (pa_cons pe_int (pa_cons pe_int (pa_cons pe_int pa_nil)))) pa_nil))) (pg_unl rfl (pgs_cons (pg_name (i := 7) sc_LAW.nd rfl (.inl rfl)) (pgs_cons (pg_name (i := 8) sc_LAW.nd rfl (.inl rfl)) (pgs_cons (pg_name (i := 9) sc_LAW.nd rfl (.inl rfl)) pgs_nil)))))
      (pss_cons (ps_set (i := 10) sc_LAW.nd rfl (.inr rfl) (pe_tup (pa_cons pe_int (pa_cons pe_int pa_nil))))
      (pss_cons (ps_if (pt_cmpR op_gt (pe_callB call_len_seq (by rfl) B.len_ (by decide +kernel) (pa_cons (pv 5) pa_nil)) pe_int (nomark _)) (pss_one (ps_set (i := 10) sc_LAW.nd rfl (.inr rfl) (pe_fn F_l_by (hr.mono (by decide)) (pa_cons (pe_fn F_l_mul (hr.mono (by decide)) (pa_cons (pe_fn F_l_until (hr.mono (by decide)) (pa_cons (pv 4) (pa_cons (pv 5) (pa_cons (pv 6) pa_nil)))) (pa_cons (pe_callB (call_min2 rfl) (by rfl) B.min_ (by decide +kernel) (pa_cons (pv 7) (pa_cons (pe_op op_add pe_int (pv 8)) pa_nil))) pa_nil))) (pa_cons (pe_op op_add pe_int (pv 8)) pa_nil))))) pss_nil)
      (pss_cons (ps_set (i := 11) sc_LAW.nd rfl (.inr rfl) (pe_fn F_l_rates (hr.mono (by decide)) (pa_cons (pv 5) (pa_cons (pv 6) pa_nil))))
      (pss_cons (ps_setLc (i := 12) (own := [("_law_at", 17)]) (g := (gName 17)) (tt := tYes) (by rfl) sc_LAW.nd rfl rfl (sw_true rfl rfl rfl (by decide +kernel)) (pi_range1 (by rfl) B.range_ (pa_cons (pe_callB call_len_seq (by rfl) B.len_ (by decide +kernel) (pa_cons (pv 5) pa_nil)) pa_nil)) (blkOk_by (own := [("_law_at", 17)]) (N := ["_law_script", "_law_k", "_law_first", "_law_second", "_law_length", "_law_paces", "_law_places", "_law_num", "_law_den", "_law_cut", "_law_hours", "_law_rates_here", "_law_due", "_law_handed", "_law_found", "_law_part", "_law_half", "_law_at"]) (sc := (defScope s_LAW)) (by decide +kernel)) (fun _ _ _ _ _ => (pg_name (i := 17) sc_LAW.nd rfl (.inl rfl))) (fun _ _ _ _ _ => pts_nil) (fun _ _ _ _ _ => (pe_fn F_l_add (hr.mono (by decide)) (pa_cons (pe_ix (r := rIxL K) ix_list (pv 6) (pv 17) (fun _ _ => rfl)) (pa_cons (pe_fn F_l_mul (hr.mono (by decide)) (pa_cons (pv 10) (pa_cons (pe_ix (r := rIxL K) ix_list (pv 11) (pv 17) (fun _ _ => rfl)) pa_nil))) pa_nil)))))
      (pss_cons (ps_set (i := 13) sc_LAW.nd rfl (.inl rfl) (pe_lst (pa_cons (pe_callTy call_list_of (by rfl) B.list_ (by decide +kernel) (pa_cons (pv 5) pa_nil)) (pa_cons (pe_callTy call_list_of (by rfl) B.list_ (by decide +kernel) (pa_cons (pv 6) pa_nil)) pa_nil))))
      (pss_cons (ps_set (i := 14) sc_LAW.nd rfl (.inl rfl) (pe_fn F_p_walked (hr.mono (by decide)) (pa_cons (pe_ix ix_list (pv 13) pe_int (fun _ _ => rfl)) (pa_cons (pe_ix ix_list (pv 13) pe_int (fun _ _ => rfl)) (pa_cons (pv 10) pa_nil)))))
      (pss_cons (ps_if (pt_not (pt_val (pe_fn F_l_same (hr.mono (by decide)) (pa_cons (pv 14) (pa_cons (pv 12) pa_nil))))) (pss_one (ps_ret pe_bl)) pss_nil)
      (pss_cons (ps_expr (pe_bm PySem.F.plainAttrs_list PySem.F.slot_list_append PySem.F.type_list_append mt_append (pv 14) (pa_cons (pe_tup (pa_cons pe_int (pa_cons pe_int pa_nil))) pa_nil)))
      (pss_cons (ps_if (pt_not (pt_val (pe_fn F_l_same (hr.mono (by decide)) (pa_cons (pe_fn F_p_walked (hr.mono (by decide)) (pa_cons (pe_ix ix_list (pv 13) pe_int (fun _ _ => rfl)) (pa_cons (pe_ix ix_list (pv 13) pe_int (fun _ _ => rfl)) (pa_cons (pv 10) pa_nil)))) (pa_cons (pv 12) pa_nil))))) (pss_one (ps_ret pe_bl)) pss_nil)
      (pss_cons (ps_set (i := 15) sc_LAW.nd rfl (.inl rfl) (pe_fn F_l_by (hr.mono (by decide)) (pa_cons (pe_fn F_l_mul (hr.mono (by decide)) (pa_cons (pv 10) (pa_cons (pv 9) pa_nil))) (pa_cons pe_int pa_nil))))
      (pss_cons (ps_set (i := 16) sc_LAW.nd rfl (.inl rfl) (pe_fn F_p_walked (hr.mono (by decide)) (pa_cons (pe_ix ix_list (pv 13) pe_int (fun _ _ => rfl)) (pa_cons (pe_ix ix_list (pv 13) pe_int (fun _ _ => rfl)) (pa_cons (pv 15) pa_nil)))))
      (pss_cons (ps_if (pt_not (pt_val (pe_fn F_l_same (hr.mono (by decide)) (pa_cons (pe_fn F_p_walked (hr.mono (by decide)) (pa_cons (pe_ix ix_list (pv 13) pe_int (fun _ _ => rfl)) (pa_cons (pv 16) (pa_cons (pe_fn F_l_sub (hr.mono (by decide)) (pa_cons (pv 10) (pa_cons (pv 15) pa_nil))) pa_nil)))) (pa_cons (pv 12) pa_nil))))) (pss_one (ps_ret pe_bl)) pss_nil)
      (pss_one (ps_if (pt_not (pt_val (pe_fn F_l_same (hr.mono (by decide)) (pa_cons (pv 13) (pa_cons (pe_lst (pa_cons (pv 5) (pa_cons (pv 6) pa_nil))) pa_nil))))) (pss_one (ps_ret pe_bl)) pss_nil))))))))))))))))))
      (pss_one (ps_ret pe_bl))), ?_⟩
    refine ⟨_, rfl, a, script, 3, rfl, hS, by decide, by decide, fun m hm => ?_⟩
    refine ⟨m, rfl, by omega, by omega, for_range (lo := 0) (n := m) (fun i σ H3 => Sm T H H3 ∧ ∃ x1 x2 x3 x4 x5 x6 x7 x8 x9 x10 x11 x12 x13 x14 x15 x16 x17, σ = [some (.ref a), x1, x2, x3, x4, x5, x6, x7, x8, x9, x10, x11, x12, x13, x14, x15, x16, x17]) ⟨Sm.refl, _, _, _, _, _, _, _, _, _, _, _, _, _, _, _, _, _, rfl⟩ ?_ ?_⟩
    · rintro i σ H1 hi ⟨s1, x1, x2, x3, x4, x5, x6, x7, x8, x9, x10, x11, x12, x13, x14, x15, x16, x17, rfl⟩
      refine ⟨_, rfl, _, rfl, a, script, _, rfl, s1.seq hS, by omega, fun c0 => ⟨c0, 2, rfl, by decide, fun o H2 zs s2 no eo hl => ?_⟩⟩
      obtain ⟨z1, z2, rfl⟩ : ∃ z1 z2, zs = [z1, z2] := match zs, hl with | [z1, z2], _ => ⟨z1, z2, rfl⟩
      refine ⟨o, _, rfl, SqL.of eo, rfl, _, _, rfl, _, _, rfl, rfl, ?_⟩
      refine ⟨_, rfl, z1, rfl, fun t pa pl H3 us ns ps len s3 nt et npa epa npl epl hus st => ?_⟩
      refine ⟨t, _, rfl, SqT.of et, rfl, _, _, rfl, _, _, rfl, _, _, rfl, rfl, ?_⟩
      refine ⟨_, rfl, by show 3 ≤ sizeLine; decide, fun l1 nl1 => ?_⟩
      refine ⟨z2, l1, [13, 12, 13], rfl, SqL.of upd_same, by decide, by decide, fun p6 H6 ds s6 np6 e6 hdr => ?_⟩
      obtain ⟨num, r1, rfl, h10, h11, hdr⟩ := hdr.cons
      obtain ⟨den, r2, rfl, h20, h21, hdr⟩ := hdr.cons
      obtain ⟨cut, r3, rfl, h30, h31, hdr⟩ := hdr.cons
      obtain rfl := hdr.nil
      have s36 := (same_upd (T := T) (o := HO.lst [V.int 13, V.int 12, V.int 13]) nl1).trans s6
      refine ⟨p6, _, rfl, SqL.of e6, rfl, _, _, rfl, _, _, rfl, _, _, rfl, rfl, ?_⟩
      refine ⟨by show 2 ≤ sizeLine; decide, fun t0 nt0 => ?_⟩
      have u0 := same_upd (T := T) (o := HO.tup [V.int 0, V.int 1]) nt0
      have s37 := s36.trans u0
      have s07 := s1.trans (s2.trans (s3.trans s37))
      have epa7 := s37.k epa
      have epl7 := s37.k epl
      have hu7 : AmL K _ us ps := dpa_same s37 _ _ hus
      have lp := st.eq
      have l8 := st.n8
      have wk : Wk 420 len ns ps := ⟨st.eq, st.n8, st.pace, st.rise, st.nn, fun p hp => Rat.le_of_lt (st.fire p hp), st.fr⟩
      have hD : (0 : Int) < 420 ∧ (420 : Int).natAbs < 2 ^ 3900 := ⟨by decide, small (by decide)⟩
      have hL : 1 ≤ len ∧ len ≤ 1000 := ⟨st.l1, st.l2⟩
      have hL2 : (len : Rat) ≤ 1000 := Rat.intCast_le_intCast.mpr hL.2
      have lsp := spd_len ns ps lp
      have et0 : upd H6 t0 (.tup [V.int 0, V.int 1]) t0 = some (.tup [V.int 0, V.int 1]) := upd_same
      clear s36 u0 s6 e6 np6 s3 hus epa epl npa npl et nt nl1 nt0 s37
      generalize upd H6 t0 (.tup [V.int 0, V.int 1]) = H7 at *
      dsimp only [gName]
      refine seq_if (fun σ' H' => Sm T H7 H' ∧ ∃ hp x1 x2 x3 x7 x8 x11 x12 x13 x14 x15 x16 x17, σ' = [some (.ref a), x1, x2, x3, some (.int len), some (.ref pa), some (.ref pl), x7, x8, some (.int cut), some (.ref hp), x11, x12, x13, x14, x15, x16, x17] ∧ ∃ (h : Rat) (E : Int), SqT K H' hp (tv (am h)) ∧ (1 ≤ E ∧ E ≤ 144) ∧ Fr (420 * E) h ∧ 0 ≤ h ∧ h ≤ 1000 ∧ (0 < ns.length → h ≤ meetM len ns ps)) (fun σ' H' p => ?_) (fun k => ?_)
      · obtain ⟨s8, hp, x1, x2, x3, x7, x8, x11, x12, x13, x14, x15, x16, x17, rfl, h, E, hhp, hE, hf, h0, h1, hm'⟩ := p
        have epa8 := s8.k epa7
        have epl8 := s8.k epl7
        have hu8 := hu7.keep s8
        have s08 := s07.trans s8
        clear s8 s07 epa7 epl7 hu7
        have hD2 : 0 < 420 * E * 12 ∧ (420 * E * 12).natAbs < 2 ^ 3900 := ⟨by omega, small (by omega)⟩
        have hpc := spd_bd2 lp st.pace
        have psF : ∀ p ∈ ps, Fr (420 * E * 12) p ∧ 0 ≤ p ∧ p ≤ 1000 := fun p hp => ⟨((st.fr p hp).scale (by decide) (by omega)).scale (by omega) (by decide), st.nn p hp, Rat.le_trans (Rat.le_of_lt (st.fire p hp)) hL2⟩
        have psF' : ∀ p ∈ ps, Fr (420 * E * 12) p ∧ 0 ≤ p ∧ p ≤ 50000 := fun p hp => ⟨(psF p hp).1, (psF p hp).2.1, Rat.le_trans (psF p hp).2.2 (by decide +kernel)⟩
        have hF : Fr (420 * E * 12) h := hf.scale (by omega) (by decide)
        have h50 : h ≤ 50000 := Rat.le_trans h1 (by decide +kernel)
        have bh : Bd 4000 (am h) := bdL hD2.1 hD2.2 hF h0 (Rat.le_trans h50 (by decide +kernel))
        refine ⟨_, rfl, _, rfl, pa, pl, us, ns, ps, rfl, SqL.of epa8, SqL.of epl8, hu8, lp, by omega, fun go H9 s9 n9 e9 => ?_⟩
        refine ⟨_, rfl, pa, _, rfl, .inl (SqL.of (s9.k epa8)), _, rfl, by rw [List.length_map]; omega, by rw [List.length_map]; omega, fun D hDn => lc_range (lo := 0) (n := (ns.map V.int).length) (Qd := _) (fun i H' => Sm T H9 H' ∧ ∃ vs, H' D = some (.lst vs) ∧ AmL K H' vs ((List.range i).map fun j => ps.getD j 0 + h * (((spd ns ps).getD j 0 : Int) : Rat))) ⟨same_upd hDn, [], upd_same, .nil⟩ ?_ ?_⟩
        · rintro j H' hj ⟨sm, vs, eD, hv⟩
          rw [List.length_map] at hj
          obtain ⟨b1, g1, q1⟩ := hu8.at (i := j) (by omega)
          have q1 := same_tup (s9.trans sm) q1
          have gj : (spd ns ps)[j]? = some ((spd ns ps).getD j 0) := by rw [List.getD_eq_getElem?_getD, List.getElem?_eq_getElem (show j < (spd ns ps).length by omega)]; rfl
          have bj := hpc j hj
          have c0 : (1 : Rat) ≤ (((spd ns ps).getD j 0 : Int) : Rat) := Rat.intCast_le_intCast.mpr bj.1
          have c1 : (((spd ns ps).getD j 0 : Int) : Rat) ≤ 12 := Rat.intCast_le_intCast.mpr bj.2
          have mr := mul_rng h0 h1 c0 c1
          have fm : Fr (420 * E * 12) (h * (((spd ns ps).getD j 0 : Int) : Rat)) := by rw [Rat.mul_comm]; exact hF.mulI _
          have pj := psF' _ (getD_mem (d := (0 : Rat)) (show j < ps.length by omega))
          refine ⟨rfl, tyes_i ?_⟩
          refine ⟨_, rfl, _, rfl, pl, _, _, .ref b1, rfl, rfl, SqL.of ((s9.trans sm).k epl8), at_of (j := j) (by omega) g1, ?_⟩
          refine ⟨_, rfl, _, rfl, _, rfl, go, _, _, _, rfl, rfl, SqL.of (sm.k e9), at_map (i := j) (by omega) gj, ?_⟩
          refine ⟨hp, am h, (spd ns ps).getD j 0, rfl, same_tup (s9.trans sm) hhp, bh, ⟨by omega, by omega⟩, am_pos _, fun p3 H3 s3 n3 e3 => ?_⟩
          rw [mul_am] at e3
          refine ⟨b1, p3, am (ps.getD j 0), _, rfl, same_tup s3 q1, SqT.of e3, ⟨bdL hD2.1 hD2.2 pj.1 pj.2.1 (Rat.le_trans pj.2.2 (by decide +kernel)), bdL hD2.1 hD2.2 fm mr.1 (Rat.le_trans mr.2 (by decide +kernel))⟩, ⟨am_pos _, am_pos _⟩, fun p5 H5 s5 n5 e5 => ?_⟩
          rw [plus_am] at e5
          have sA := s3.trans s5
          have eD5 := sA.k eD
          have lv : vs.length = j := by rw [hv.len, List.length_map, List.length_range]
          refine ⟨_, eD5, szl (by omega), same_mut (sm.trans sA) hDn eD5, _, upd_same, ?_⟩
          rw [take_range]
          exact (hv.keep sA).push eD5 (SqT.of e5)
        · rintro HA ⟨sA, vs, eD, hv⟩
          rw [List.length_map] at hv
          have hv : AmL K HA vs (walkM ns ps h) := hv
          refine ⟨_, rfl, pa, _, rfl, .inl (SqL.of ((s9.trans sA).k epa8)), fun h1' n1' => ?_⟩
          have u1 := same_upd (T := T) (o := HO.lst (ns.map V.int)) n1'
          refine ⟨_, rfl, pl, us, rfl, .inl (SqL.of (u1.k ((s9.trans sA).k epl8))), fun h2' n2' => ⟨by show 2 ≤ sizeLine; decide, fun hh nh => ?_⟩⟩
          have u2 := same_upd (T := T) (o := HO.lst us) n2'
          have u3 := same_upd (T := T) (o := HO.lst [V.ref h1', V.ref h2']) nh
          have s23 := s9.trans (sA.trans (u1.trans (u2.trans u3)))
          have eh1 : upd (upd (upd HA h1' (.lst (ns.map V.int))) h2' (.lst us)) hh (.lst [V.ref h1', V.ref h2']) h1' = some (.lst (ns.map V.int)) := (u2.trans u3).k upd_same
          have eh2 : upd (upd (upd HA h1' (.lst (ns.map V.int))) h2' (.lst us)) hh (.lst [V.ref h1', V.ref h2']) h2' = some (.lst us) := u3.k upd_same
          have ehh : upd (upd (upd HA h1' (.lst (ns.map V.int))) h2' (.lst us)) hh (.lst [V.ref h1', V.ref h2']) hh = some (.lst [V.ref h1', V.ref h2']) := upd_same
          have hu4 := hu8.keep s23
          have epa4 := s23.k epa8
          have epl4 := s23.k epl8
          have s04 := s08.trans s23
          have eD4 := (u1.trans (u2.trans u3)).k eD
          have hv4 := hv.keep (u1.trans (u2.trans u3))
          have hhp4 := same_tup s23 hhp
          generalize upd (upd (upd HA h1' (.lst (ns.map V.int))) h2' (.lst us)) hh (.lst [V.ref h1', V.ref h2']) = H4 at *
          clear u1 u2 u3 s23 sA s9 e9 eD hv hu8 epa8 epl8 s08 hhp
          have lw : (walkM ns ps h).length ≤ 9000 := by rw [walkM_len]; omega
          refine ⟨_, rfl, hh, _, 0, .ref h1', rfl, rfl, SqL.of ehh, atI_nat (j := 0) rfl, _, rfl, hh, _, 1, .ref h2', rfl, rfl, SqL.of ehh, atI_nat (j := 1) rfl, _, rfl, ?_⟩
          refine ⟨420 * E * 12, h1', h2', hp, us, ns, ps, h, rfl, SqL.of ((Sm.refl (T := T)).k eh1), SqL.of ((Sm.refl (T := T)).k eh2), hu4.keep (Sm.refl (T := T)), same_tup (Sm.refl (T := T)) hhp4, lp, by omega, hD2, hpc, psF', ⟨hF, h0, h50⟩, fun pf H5 uf s5 npf epf hf5 => ?_⟩
          refine ⟨_, rfl, _, rfl, .ref pf, .ref D, _, rfl, hf5.dp (SqL.of epf), (hv4.keep s5).dp (SqL.of (s5.k eD4)), depOk_aml lw, fun H6' s6 => ⟨_, rfl, iteF ?_⟩⟩
          have epf6 := s6.k epf
          have luf : uf.length = ns.length := by rw [hf5.len, walkM_len]
          refine ⟨_, rfl, .inl ⟨rfl, _, SqL.of epf6⟩, by show 2 ≤ sizeLine; decide, fun tz ntz => ?_⟩
          have uz := same_upd (T := T) (o := HO.tup [V.int 0, V.int 1]) ntz
          have epf7 := uz.k epf6
          refine ⟨pf, _, _, rfl, rfl, epf7, szl (by omega), ?_⟩
          have s48 : Sm T H4 _ := same_mut (o := .lst (uf ++ [.ref tz])) (s5.trans (s6.trans uz)) npf epf7
          generalize upd (upd H6' tz (.tup [V.int 0, V.int 1])) pf (.lst (uf ++ [.ref tz])) = H8 at *
          clear uz epf7 epf6 s6 s5 hf5 epf npf
          refine ⟨_, rfl, hh, _, 0, .ref h1', rfl, rfl, SqL.of (s48.k ehh), atI_nat (j := 0) rfl, _, rfl, hh, _, 1, .ref h2', rfl, rfl, SqL.of (s48.k ehh), atI_nat (j := 1) rfl, _, rfl, ?_⟩
          refine ⟨420 * E * 12, h1', h2', hp, us, ns, ps, h, rfl, SqL.of (s48.k eh1), SqL.of (s48.k eh2), hu4.keep s48, same_tup s48 hhp4, lp, by omega, hD2, hpc, psF', ⟨hF, h0, h50⟩, fun pg H9 ug s9 npg epg hg9 => ?_⟩
          have s49 := s48.trans s9
          refine ⟨_, rfl, .ref pg, .ref D, _, rfl, hg9.dp (SqL.of epg), (hv4.keep s49).dp (SqL.of (s49.k eD4)), depOk_aml lw, fun H10 s10 => ⟨_, rfl, iteF ?_⟩⟩
          have s4A := s49.trans s10
          refine ⟨_, rfl, _, rfl, hp, am h, cut, rfl, same_tup s4A hhp4, bh, ⟨by omega, by omega⟩, am_pos _, fun p11 H11 s11 n11 e11 => ?_⟩
          rw [mul_am] at e11
          have cr0 : (0 : Rat) ≤ (cut : Rat) := Rat.intCast_le_intCast.mpr h30
          have cr1 : (cut : Rat) ≤ 12 := Rat.intCast_le_intCast.mpr (show cut ≤ (12 : Int) by omega)
          have fc : Fr (420 * E) (h * (cut : Rat)) := by rw [Rat.mul_comm]; exact hf.mulI _
          have mc0 := Rat.mul_nonneg h0 cr0
          have mc1 : h * (cut : Rat) ≤ 1000000 := Rat.le_trans (Rat.mul_le_mul_of_nonneg_left cr1 h0) (by grind)
          refine ⟨p11, am (h * (cut : Rat)), 12, rfl, SqT.of e11, (bdL (D := 420 * E) (by omega) (small (by omega)) fc mc0 mc1).2, ⟨by decide, by decide⟩, am_pos _, fun p12 H12 s12 n12 e12 => ?_⟩
          rw [by_am _ (by decide)] at e12
          obtain ⟨pt, hpt⟩ : ∃ pt, pt = h * (cut : Rat) / ((12 : Int) : Rat) := ⟨_, rfl⟩
          have pr := part_le cut (n := 12) h0 h30 (by omega) (by decide) hpt
          have ptF : Fr (420 * E * 12) pt := by rw [hpt]; exact fc.divI (by omega) (by decide)
          rw [← hpt] at e12
          have s4B := s4A.trans (s11.trans s12)
          have pt1 : pt ≤ 1000 := Rat.le_trans pr.2 h1
          refine ⟨_, rfl, hh, _, 0, .ref h1', rfl, rfl, SqL.of (s4B.k ehh), atI_nat (j := 0) rfl, _, rfl, hh, _, 1, .ref h2', rfl, rfl, SqL.of (s4B.k ehh), atI_nat (j := 1) rfl, _, rfl, ?_⟩
          refine ⟨420 * E * 12, h1', h2', p12, us, ns, ps, pt, rfl, SqL.of (s4B.k eh1), SqL.of (s4B.k eh2), hu4.keep s4B, SqT.of e12, lp, by omega, hD2, hpc, psF', ⟨ptF, pr.1, Rat.le_trans pt1 (by decide +kernel)⟩, fun ph H13 uh s13 nph eph hh13 => ?_⟩
          have s4C := s4B.trans s13
          refine ⟨_, rfl, hh, _, 0, .ref h1', rfl, rfl, SqL.of (s4C.k ehh), atI_nat (j := 0) rfl, _, rfl, _, rfl, _, rfl, ?_⟩
          refine ⟨hp, p12, am h, am pt, rfl, same_tup s4C hhp4, SqT.of (s13.k e12), ⟨bh, bdL hD2.1 hD2.2 ptF pr.1 (Rat.le_trans pt1 (by decide +kernel))⟩, ⟨am_pos _, am_pos _⟩, fun p14 H14 s14 n14 e14 => ?_⟩
          rw [minus_am] at e14
          have s4D := s4C.trans s14
          have wr := walk_rng lp hpc psF ⟨ptF, pr.1, pt1⟩
          have lw2 := walkM_len ns ps pt
          refine ⟨420 * E * 12, h1', ph, p14, uh, ns, walkM ns ps pt, h - pt, rfl, SqL.of (s4D.k eh1), SqL.of (s14.k eph), hh13.keep s14, SqT.of e14, lw2.symm, by omega, hD2, spd_bd2 lw2.symm st.pace, wr, ⟨hF.sub ptF, sub_nn' pr.2, sub_le' h50 pr.1⟩, fun pq H15 uq s15 npq epq hq15 => ?_⟩
          rw [walk_walk2 wk pr.1 pr.2 hm'] at hq15
          have s4E := s4D.trans s15
          refine ⟨_, rfl, .ref pq, .ref D, _, rfl, hq15.dp (SqL.of epq), (hv4.keep s4E).dp (SqL.of (s4E.k eD4)), depOk_aml lw, fun H16 s16 => ⟨_, rfl, iteF ?_⟩⟩
          have s4F := s4E.trans s16
          refine ⟨_, rfl, _, rfl, _, rfl, by show 2 ≤ sizeLine; decide, fun l nl => ?_⟩
          have ul := same_upd (T := T) (o := HO.lst [V.ref pa, V.ref pl]) nl
          have s6 := s4F.trans ul
          have dA : Dp K _ (.ref hh) (.list [.list (ns.map PyData.int), .list ((ps.map am).map amD)]) := .lst (SqL.of (s6.k ehh)) (.cons (dp_ints (SqL.of (s6.k eh1))) (.cons ((hu4.keep s6).dp (SqL.of (s6.k eh2))) .nil))
          have dB : Dp K _ (.ref l) (.list [.list (ns.map PyData.int), .list ((ps.map am).map amD)]) := .lst (SqL.of upd_same) (.cons (dp_ints (SqL.of (s6.k epa4))) (.cons ((hu4.keep s6).dp (SqL.of (s6.k epl4))) .nil))
          refine ⟨_, _, _, rfl, dA, dB, ?_, fun H7' s7 => ⟨_, rfl, iteF ?_⟩⟩
          · show (true && (depOk 4 (.list (ns.map PyData.int)) && (depOk 4 (.list ((ps.map am).map amD)) && true))) = true
            rw [depOk_ints (n := 3) (by omega), depOk_aml (n := 2) (by omega)]
            rfl
          · exact ⟨s04.trans (s6.trans s7), _, _, _, _, _, _, _, _, _, _, _, _, _, _, _, _, _, rfl⟩
      · refine ⟨_, rfl, pa, _, rfl, .inl (SqL.of epa7), _, _, rfl, rfl, _, rfl, ite2 (fun e => ?_) (fun e => ?_)⟩
        · have hn0 : 0 < ns.length := by
            have := of_decide_eq_true e
            rw [List.length_map] at this
            omega
          refine ⟨_, rfl, _, rfl, _, rfl, len, 420, pa, pl, us, ns, ps, rfl, SqL.of epa7, SqL.of epl7, hu7, wk, hD, hL, List.length_pos_iff.mp hn0, fun pu H8 s8 hpu => ?_⟩
          obtain ⟨k1, k11, k12, kf, kn, kL⟩ := meetF_ok wk (by decide) hn0 (i := ns.length - 1) (Nat.le_refl _)
          have kf : Fr (420 * k1) (meetM len ns ps) := kf
          have kn : 0 ≤ meetM len ns ps := kn
          have kL : meetM len ns ps ≤ (len : Rat) := kL
          refine ⟨_, rfl, _, rfl, _, _, rfl, rfl, num, 1 + den, rfl, ?_⟩
          obtain ⟨c, hc⟩ : ∃ c : Int, c = (if 1 + den < num then 1 + den else num) := ⟨_, rfl⟩
          have c0 : 0 ≤ c ∧ c ≤ 1 + den := by rw [hc]; split <;> omega
          rw [← hc]
          refine ⟨pu, am (meetM len ns ps), c, rfl, hpu, bd_fr hD.1 hD.2 k11 k12 kf (neg_le kn (by decide)) (Rat.le_trans kL hL2), ⟨by omega, by omega⟩, am_pos _, fun p9 H9 s9 n9 e9 => ?_⟩
          rw [mul_am] at e9
          have cr0 : (0 : Rat) ≤ (c : Rat) := Rat.intCast_le_intCast.mpr c0.1
          have cr1 : (c : Rat) ≤ 12 := Rat.intCast_le_intCast.mpr (show c ≤ (12 : Int) by omega)
          have fc : Fr (420 * k1) (meetM len ns ps * (c : Rat)) := by rw [Rat.mul_comm]; exact kf.mulI _
          have mc0 := Rat.mul_nonneg kn cr0
          have mL : meetM len ns ps ≤ 1000 := Rat.le_trans kL hL2
          have mc1 : meetM len ns ps * (c : Rat) ≤ 1000000 := Rat.le_trans (Rat.mul_le_mul_of_nonneg_left cr1 kn) (by grind)
          refine ⟨_, rfl, _, _, rfl, rfl, p9, am (meetM len ns ps * (c : Rat)), 1 + den, rfl, SqT.of e9, (bdL (D := 420 * k1) (by omega) (small (by omega)) fc mc0 mc1).2, ⟨by omega, by omega⟩, am_pos _, fun p10 H10 s10 n10 e10 => ?_⟩
          rw [by_am _ (by omega)] at e10
          have pr := part_le c (n := 1 + den) kn c0.1 c0.2 (by omega) rfl
          have hEE : 1 ≤ k1 * (1 + den) ∧ k1 * (1 + den) ≤ 144 := by
            have a1 : k1 * 1 ≤ k1 * (1 + den) := Int.mul_le_mul_of_nonneg_left (by omega) (by omega)
            have a2 : k1 * (1 + den) ≤ 12 * (1 + den) := Int.mul_le_mul_of_nonneg_right k12 (by omega)
            omega
          refine k _ _ ⟨s8.trans (s9.trans s10), p10, _, _, _, _, _, _, _, _, _, _, _, _, rfl, _, k1 * (1 + den), SqT.of e10, hEE, ?_, pr.1, Rat.le_trans pr.2 mL, fun _ => pr.2⟩
          rw [← Int.mul_assoc]
          exact fc.divI (by omega) (by omega)
        · have hn0 : ns.length = 0 := by
            have : ¬ (0 : Int) < ((ns.map V.int).length : Int) := fun z => e (decide_eq_true z)
            rw [List.length_map] at this
            omega
          refine k _ _ ⟨Sm.refl, t0, _, _, _, _, _, _, _, _, _, _, _, _, rfl, 0, 1, ?_, ⟨by decide, by decide⟩, Fr.zero (by decide), by decide, by decide, fun z => by omega⟩
          rw [am_zero]
          exact SqT.of et0
    · rintro σ H3 ⟨s3, x1, x2, x3, x4, x5, x6, x7, x8, x9, x10, x11, x12, x13, x14, x15, x16, x17, rfl⟩
      exact q H3

end
theorem all_mk {l : PySem.W.OpenLaw} {w : World} {K : PySem.W.Frag} {h : Heap} {mg : Str → Option Value} {fa f1 f2 f3 f4 f5 f6 f7 f8 f9 f10 f11 f12 f13 f14 f15 f16 f17 f18 f19 f20 f21 f22 : Addr} (X : K.In h) (G : h.Ns mainGlobals mg) (hfa : mg "law" = some (.ref fa))
    {od1 an1 od2 an2 od3 an3 od4 an4 od5 an5 od6 an6 od7 an7 od8 an8 od9 an9 od10 an10 od11 an11 od12 an12 od13 an13 od14 an14 od15 an15 od16 an16 od17 an17 od18 an18 od19 an19 od20 an20 od21 an21 od22 an22 : Option Addr} {sl1 sl2 sl3 sl4 sl5 sl6 sl7 sl8 sl9 sl10 sl11 sl12 sl13 sl14 sl15 sl16 sl17 sl18 sl19 sl20 sl21 sl22 : Array (Option Value)} {oc1 kV1 dc1 pm1 cd1 ct1 oc2 kV2 dc2 pm2 cd2 ct2 oc3 kV3 dc3 pm3 cd3 ct3 oc4 kV4 dc4 pm4 cd4 ct4 oc5 kV5 dc5 pm5 cd5 ct5 oc6 kV6 dc6 pm6 cd6 ct6 oc7 kV7 dc7 pm7 cd7 ct7 oc8 kV8 dc8 pm8 cd8 ct8 oc9 kV9 dc9 pm9 cd9 ct9 oc10 kV10 dc10 pm10 cd10 ct10 oc11 kV11 dc11 pm11 cd11 ct11 oc12 kV12 dc12 pm12 cd12 ct12 oc13 kV13 dc13 pm13 cd13 ct13 oc14 kV14 dc14 pm14 cd14 ct14 oc15 kV15 dc15 pm15 cd15 ct15 oc16 kV16 dc16 pm16 cd16 ct16 oc17 kV17 dc17 pm17 cd17 ct17 oc18 kV18 dc18 pm18 cd18 ct18 oc19 kV19 dc19 pm19 cd19 ct19 oc20 kV20 dc20 pm20 cd20 ct20 oc21 kV21 dc21 pm21 cd21 ct21 oc22 kV22 dc22 pm22 cd22 ct22 : Value}
    (a1 : PySem.W.nsIn K mainGlobals "common_divisor" = some (some (.ref f1))) (l1 : K.lookup f1 = some ⟨oc1, od1, .func (PySem.W.fnOf "common_divisor" "common_divisor" (defArgs s_p_common_divisor) (defBody s_p_common_divisor) (defScope s_p_common_divisor) .none kV1 dc1 pm1 an1 cd1 ct1), sl1⟩) (c1 : PySem.W.codeIn K cd1 "common_divisor" = true) (k1 : PySem.W.keepIn K (.ref f1) = true)
    (a2 : PySem.W.nsIn K mainGlobals "amount" = some (some (.ref f2))) (l2 : K.lookup f2 = some ⟨oc2, od2, .func (PySem.W.fnOf "amount" "amount" (defArgs s_p_amount) (defBody s_p_amount) (defScope s_p_amount) .none kV2 dc2 pm2 an2 cd2 ct2), sl2⟩) (c2 : PySem.W.codeIn K cd2 "amount" = true) (k2 : PySem.W.keepIn K (.ref f2) = true)
    (a3 : PySem.W.nsIn K mainGlobals "plus" = some (some (.ref f3))) (l3 : K.lookup f3 = some ⟨oc3, od3, .func (PySem.W.fnOf "plus" "plus" (defArgs s_p_plus) (defBody s_p_plus) (defScope s_p_plus) .none kV3 dc3 pm3 an3 cd3 ct3), sl3⟩) (c3 : PySem.W.codeIn K cd3 "plus" = true) (k3 : PySem.W.keepIn K (.ref f3) = true)
    (a4 : PySem.W.nsIn K mainGlobals "times" = some (some (.ref f4))) (l4 : K.lookup f4 = some ⟨oc4, od4, .func (PySem.W.fnOf "times" "times" (defArgs s_p_times) (defBody s_p_times) (defScope s_p_times) .none kV4 dc4 pm4 an4 cd4 ct4), sl4⟩) (c4 : PySem.W.codeIn K cd4 "times" = true) (k4 : PySem.W.keepIn K (.ref f4) = true)
    (a5 : PySem.W.nsIn K mainGlobals "_law_cell" = some (some (.ref f5))) (l5 : K.lookup f5 = some ⟨oc5, od5, .func (PySem.W.fnOf "_law_cell" "_law_cell" (defArgs s_l_cell) (defBody s_l_cell) (defScope s_l_cell) .none kV5 dc5 pm5 an5 cd5 ct5), sl5⟩) (c5 : PySem.W.codeIn K cd5 "_law_cell" = true) (k5 : PySem.W.keepIn K (.ref f5) = true)
    (a6 : PySem.W.nsIn K mainGlobals "_law_draws" = some (some (.ref f6))) (l6 : K.lookup f6 = some ⟨oc6, od6, .func (PySem.W.fnOf "_law_draws" "_law_draws" (defArgs s_l_draws) (defBody s_l_draws) (defScope s_l_draws) .none kV6 dc6 pm6 an6 cd6 ct6), sl6⟩) (c6 : PySem.W.codeIn K cd6 "_law_draws" = true) (k6 : PySem.W.keepIn K (.ref f6) = true)
    (a7 : PySem.W.nsIn K mainGlobals "_law_split" = some (some (.ref f7))) (l7 : K.lookup f7 = some ⟨oc7, od7, .func (PySem.W.fnOf "_law_split" "_law_split" (defArgs s_l_split) (defBody s_l_split) (defScope s_l_split) .none kV7 dc7 pm7 an7 cd7 ct7), sl7⟩) (c7 : PySem.W.codeIn K cd7 "_law_split" = true) (k7 : PySem.W.keepIn K (.ref f7) = true)
    (a8 : PySem.W.nsIn K mainGlobals "_law_many" = some (some (.ref f8))) (l8 : K.lookup f8 = some ⟨oc8, od8, .func (PySem.W.fnOf "_law_many" "_law_many" (defArgs s_l_many) (defBody s_l_many) (defScope s_l_many) .none kV8 dc8 pm8 an8 cd8 ct8), sl8⟩) (c8 : PySem.W.codeIn K cd8 "_law_many" = true) (k8 : PySem.W.keepIn K (.ref f8) = true)
    (a9 : PySem.W.nsIn K mainGlobals "speeds" = some (some (.ref f9))) (l9 : K.lookup f9 = some ⟨oc9, od9, .func (PySem.W.fnOf "speeds" "speeds" (defArgs s_p_speeds) (defBody s_p_speeds) (defScope s_p_speeds) .none kV9 dc9 pm9 an9 cd9 ct9), sl9⟩) (c9 : PySem.W.codeIn K cd9 "speeds" = true) (k9 : PySem.W.keepIn K (.ref f9) = true)
    (a10 : PySem.W.nsIn K mainGlobals "_law_same" = some (some (.ref f10))) (l10 : K.lookup f10 = some ⟨oc10, od10, .func (PySem.W.fnOf "_law_same" "_law_same" (defArgs s_l_same) (defBody s_l_same) (defScope s_l_same) .none kV10 dc10 pm10 an10 cd10 ct10), sl10⟩) (c10 : PySem.W.codeIn K cd10 "_law_same" = true) (k10 : PySem.W.keepIn K (.ref f10) = true)
    (a11 : PySem.W.nsIn K mainGlobals "_law_gcd" = some (some (.ref f11))) (l11 : K.lookup f11 = some ⟨oc11, od11, .func (PySem.W.fnOf "_law_gcd" "_law_gcd" (defArgs s_l_gcd) (defBody s_l_gcd) (defScope s_l_gcd) .none kV11 dc11 pm11 an11 cd11 ct11), sl11⟩) (c11 : PySem.W.codeIn K cd11 "_law_gcd" = true) (k11 : PySem.W.keepIn K (.ref f11) = true)
    (a12 : PySem.W.nsIn K mainGlobals "_law_amt" = some (some (.ref f12))) (l12 : K.lookup f12 = some ⟨oc12, od12, .func (PySem.W.fnOf "_law_amt" "_law_amt" (defArgs s_l_amt) (defBody s_l_amt) (defScope s_l_amt) .none kV12 dc12 pm12 an12 cd12 ct12), sl12⟩) (c12 : PySem.W.codeIn K cd12 "_law_amt" = true) (k12 : PySem.W.keepIn K (.ref f12) = true)
    (a13 : PySem.W.nsIn K mainGlobals "_law_add" = some (some (.ref f13))) (l13 : K.lookup f13 = some ⟨oc13, od13, .func (PySem.W.fnOf "_law_add" "_law_add" (defArgs s_l_add) (defBody s_l_add) (defScope s_l_add) .none kV13 dc13 pm13 an13 cd13 ct13), sl13⟩) (c13 : PySem.W.codeIn K cd13 "_law_add" = true) (k13 : PySem.W.keepIn K (.ref f13) = true)
    (a14 : PySem.W.nsIn K mainGlobals "_law_sub" = some (some (.ref f14))) (l14 : K.lookup f14 = some ⟨oc14, od14, .func (PySem.W.fnOf "_law_sub" "_law_sub" (defArgs s_l_sub) (defBody s_l_sub) (defScope s_l_sub) .none kV14 dc14 pm14 an14 cd14 ct14), sl14⟩) (c14 : PySem.W.codeIn K cd14 "_law_sub" = true) (k14 : PySem.W.keepIn K (.ref f14) = true)
    (a15 : PySem.W.nsIn K mainGlobals "_law_by" = some (some (.ref f15))) (l15 : K.lookup f15 = some ⟨oc15, od15, .func (PySem.W.fnOf "_law_by" "_law_by" (defArgs s_l_by) (defBody s_l_by) (defScope s_l_by) .none kV15 dc15 pm15 an15 cd15 ct15), sl15⟩) (c15 : PySem.W.codeIn K cd15 "_law_by" = true) (k15 : PySem.W.keepIn K (.ref f15) = true)
    (a16 : PySem.W.nsIn K mainGlobals "_law_mul" = some (some (.ref f16))) (l16 : K.lookup f16 = some ⟨oc16, od16, .func (PySem.W.fnOf "_law_mul" "_law_mul" (defArgs s_l_mul) (defBody s_l_mul) (defScope s_l_mul) .none kV16 dc16 pm16 an16 cd16 ct16), sl16⟩) (c16 : PySem.W.codeIn K cd16 "_law_mul" = true) (k16 : PySem.W.keepIn K (.ref f16) = true)
    (a17 : PySem.W.nsIn K mainGlobals "_law_less" = some (some (.ref f17))) (l17 : K.lookup f17 = some ⟨oc17, od17, .func (PySem.W.fnOf "_law_less" "_law_less" (defArgs s_l_less) (defBody s_l_less) (defScope s_l_less) .none kV17 dc17 pm17 an17 cd17 ct17), sl17⟩) (c17 : PySem.W.codeIn K cd17 "_law_less" = true) (k17 : PySem.W.keepIn K (.ref f17) = true)
    (a18 : PySem.W.nsIn K mainGlobals "_law_rates" = some (some (.ref f18))) (l18 : K.lookup f18 = some ⟨oc18, od18, .func (PySem.W.fnOf "_law_rates" "_law_rates" (defArgs s_l_rates) (defBody s_l_rates) (defScope s_l_rates) .none kV18 dc18 pm18 an18 cd18 ct18), sl18⟩) (c18 : PySem.W.codeIn K cd18 "_law_rates" = true) (k18 : PySem.W.keepIn K (.ref f18) = true)
    (a19 : PySem.W.nsIn K mainGlobals "_law_until" = some (some (.ref f19))) (l19 : K.lookup f19 = some ⟨oc19, od19, .func (PySem.W.fnOf "_law_until" "_law_until" (defArgs s_l_until) (defBody s_l_until) (defScope s_l_until) .none kV19 dc19 pm19 an19 cd19 ct19), sl19⟩) (c19 : PySem.W.codeIn K cd19 "_law_until" = true) (k19 : PySem.W.keepIn K (.ref f19) = true)
    (a20 : PySem.W.nsIn K mainGlobals "_law_standing" = some (some (.ref f20))) (l20 : K.lookup f20 = some ⟨oc20, od20, .func (PySem.W.fnOf "_law_standing" "_law_standing" (defArgs s_l_standing) (defBody s_l_standing) (defScope s_l_standing) .none kV20 dc20 pm20 an20 cd20 ct20), sl20⟩) (c20 : PySem.W.codeIn K cd20 "_law_standing" = true) (k20 : PySem.W.keepIn K (.ref f20) = true)
    (a21 : PySem.W.nsIn K mainGlobals "walked" = some (some (.ref f21))) (l21 : K.lookup f21 = some ⟨oc21, od21, .func (PySem.W.fnOf "walked" "walked" (defArgs s_p_walked) (defBody s_p_walked) (defScope s_p_walked) .none kV21 dc21 pm21 an21 cd21 ct21), sl21⟩) (c21 : PySem.W.codeIn K cd21 "walked" = true) (k21 : PySem.W.keepIn K (.ref f21) = true)
    (a22 : PySem.W.nsIn K mainGlobals "law" = some (some (.ref f22))) (l22 : K.lookup f22 = some ⟨oc22, od22, .func (PySem.W.fnOf "law" "law" (defArgs s_LAW) (defBody s_LAW) (defScope s_LAW) .none kV22 dc22 pm22 an22 cd22 ct22), sl22⟩) (c22 : PySem.W.codeIn K cd22 "law" = true) (k22 : PySem.W.keepIn K (.ref f22) = true)
    (z_abs : PySem.W.nsIn K mainGlobals "abs" = some none)
    (z_all : PySem.W.nsIn K mainGlobals "all" = some none)
    (z_bool : PySem.W.nsIn K mainGlobals "bool" = some none)
    (z_int : PySem.W.nsIn K mainGlobals "int" = some none)
    (z_isinstance : PySem.W.nsIn K mainGlobals "isinstance" = some none)
    (z_len : PySem.W.nsIn K mainGlobals "len" = some none)
    (z_list : PySem.W.nsIn K mainGlobals "list" = some none)
    (z_max : PySem.W.nsIn K mainGlobals "max" = some none)
    (z_min : PySem.W.nsIn K mainGlobals "min" = some none)
    (z_range : PySem.W.nsIn K mainGlobals "range" = some none)
    (z_reversed : PySem.W.nsIn K mainGlobals "reversed" = some none)
    (z_str : PySem.W.nsIn K mainGlobals "str" = some none)
    (z_sum : PySem.W.nsIn K mainGlobals "sum" = some none)
    (z_tuple : PySem.W.nsIn K mainGlobals "tuple" = some none)
    (z_zip : PySem.W.nsIn K mainGlobals "zip" = some none)
    : ∃ fd : FuncData, (∀ (s : Shared) (v : Value), BindsTo s fd ⟨[v], []⟩ [("_law_script", v)]) ∧ ∀ base : Heap, K.In base → base.Ns mainGlobals mg → FnOk l.prog w K mg base CX0 8 fa fd ["_law_script"] (sp_LAW K []) := by
  have e := hfa.symm.trans (PySem.W.mg_of X G a22)
  cases e
  have T1 := fun_mk (st := s_p_common_divisor) l1 c1 k1
  have b1 := T1.binds (ps := ["one", "other"]) fun _ _ _ _ _ _ us hl => match us, hl with | [_, _], _ => rfl
  have T2 := fun_mk (st := s_p_amount) l2 c2 k2
  have b2 := T2.binds (ps := ["num", "den"]) fun _ _ _ _ _ _ us hl => match us, hl with | [_, _], _ => rfl
  have T3 := fun_mk (st := s_p_plus) l3 c3 k3
  have b3 := T3.binds (ps := ["one", "other"]) fun _ _ _ _ _ _ us hl => match us, hl with | [_, _], _ => rfl
  have T4 := fun_mk (st := s_p_times) l4 c4 k4
  have b4 := T4.binds (ps := ["one", "other"]) fun _ _ _ _ _ _ us hl => match us, hl with | [_, _], _ => rfl
  have T5 := fun_mk (st := s_l_cell) l5 c5 k5
  have b5 := T5.binds (ps := ["_law_script", "_law_k"]) fun _ _ _ _ _ _ us hl => match us, hl with | [_, _], _ => rfl
  have T6 := fun_mk (st := s_l_draws) l6 c6 k6
  have b6 := T6.binds (ps := ["_law_cell_here", "_law_parts"]) fun _ _ _ _ _ _ us hl => match us, hl with | [_, _], _ => rfl
  have T7 := fun_mk (st := s_l_split) l7 c7 k7
  have b7 := T7.binds (ps := ["_law_cell_here", "_law_many_here"]) fun _ _ _ _ _ _ us hl => match us, hl with | [_, _], _ => rfl
  have T8 := fun_mk (st := s_l_many) l8 c8 k8
  have b8 := T8.binds (ps := ["_law_script", "_law_few"]) fun _ _ _ _ _ _ us hl => match us, hl with | [_, _], _ => rfl
  have T9 := fun_mk (st := s_p_speeds) l9 c9 k9
  have b9 := T9.binds (ps := ["paces", "places"]) fun _ _ _ _ _ _ us hl => match us, hl with | [_, _], _ => rfl
  have T10 := fun_mk (st := s_l_same) l10 c10 k10
  have b10 := T10.binds (ps := ["_law_found", "_law_due"]) fun _ _ _ _ _ _ us hl => match us, hl with | [_, _], _ => rfl
  have T11 := fun_mk (st := s_l_gcd) l11 c11 k11
  have b11 := T11.binds (ps := ["_law_one", "_law_other"]) fun _ _ _ _ _ _ us hl => match us, hl with | [_, _], _ => rfl
  have T12 := fun_mk (st := s_l_amt) l12 c12 k12
  have b12 := T12.binds (ps := ["_law_num", "_law_den"]) fun _ _ _ _ _ _ us hl => match us, hl with | [_, _], _ => rfl
  have T13 := fun_mk (st := s_l_add) l13 c13 k13
  have b13 := T13.binds (ps := ["_law_one", "_law_other"]) fun _ _ _ _ _ _ us hl => match us, hl with | [_, _], _ => rfl
  have T14 := fun_mk (st := s_l_sub) l14 c14 k14
  have b14 := T14.binds (ps := ["_law_one", "_law_other"]) fun _ _ _ _ _ _ us hl => match us, hl with | [_, _], _ => rfl
  have T15 := fun_mk (st := s_l_by) l15 c15 k15
  have b15 := T15.binds (ps := ["_law_one", "_law_number"]) fun _ _ _ _ _ _ us hl => match us, hl with | [_, _], _ => rfl
  have T16 := fun_mk (st := s_l_mul) l16 c16 k16
  have b16 := T16.binds (ps := ["_law_one", "_law_number"]) fun _ _ _ _ _ _ us hl => match us, hl with | [_, _], _ => rfl
  have T17 := fun_mk (st := s_l_less) l17 c17 k17
  have b17 := T17.binds (ps := ["_law_one", "_law_other"]) fun _ _ _ _ _ _ us hl => match us, hl with | [_, _], _ => rfl
  have T18 := fun_mk (st := s_l_rates) l18 c18 k18
  have b18 := T18.binds (ps := ["_law_paces", "_law_places"]) fun _ _ _ _ _ _ us hl => match us, hl with | [_, _], _ => rfl
  have T19 := fun_mk (st := s_l_until) l19 c19 k19
  have b19 := T19.binds (ps := ["_law_length", "_law_paces", "_law_places"]) fun _ _ _ _ _ _ us hl => match us, hl with | [_, _, _], _ => rfl
  have T20 := fun_mk (st := s_l_standing) l20 c20 k20
  have b20 := T20.binds (ps := ["_law_cell_here"]) fun _ _ _ _ _ _ us hl => match us, hl with | [_], _ => rfl
  have T21 := fun_mk (st := s_p_walked) l21 c21 k21
  have b21 := T21.binds (ps := ["paces", "places", "hours"]) fun _ _ _ _ _ _ us hl => match us, hl with | [_, _, _], _ => rfl
  have T22 := fun_mk (st := s_LAW) l22 c22 k22
  have B : Bn mg := ⟨PySem.W.mg_none_of X G z_abs, PySem.W.mg_none_of X G z_all, PySem.W.mg_none_of X G z_bool, PySem.W.mg_none_of X G z_int, PySem.W.mg_none_of X G z_isinstance, PySem.W.mg_none_of X G z_len, PySem.W.mg_none_of X G z_list, PySem.W.mg_none_of X G z_max, PySem.W.mg_none_of X G z_min, PySem.W.mg_none_of X G z_range, PySem.W.mg_none_of X G z_reversed, PySem.W.mg_none_of X G z_str, PySem.W.mg_none_of X G z_sum, PySem.W.mg_none_of X G z_tuple, PySem.W.mg_none_of X G z_zip⟩
  refine ⟨PySem.W.fnOf "law" "law" (defArgs s_LAW) (defBody s_LAW) (defScope s_LAW) .none kV22 dc22 pm22 an22 cd22 ct22, fun s v => .of_eq rfl, fun base _ _ => ?_⟩
  have F_p_common_divisor : Fn l.prog w K mg base 1 "common_divisor" ["one", "other"] (sp_p_common_divisor K []) := Fn.mk' (ok_p_common_divisor T1  ) (PySem.W.mg_of X G a1) k1 b1
  have F_p_amount : Fn l.prog w K mg base 2 "amount" ["num", "den"] (sp_p_amount K []) := Fn.mk' (ok_p_amount T2 B  F_p_common_divisor) (PySem.W.mg_of X G a2) k2 b2
  have F_p_plus : Fn l.prog w K mg base 3 "plus" ["one", "other"] (sp_p_plus K []) := Fn.mk' (ok_p_plus T3  F_p_amount) (PySem.W.mg_of X G a3) k3 b3
  have F_p_times : Fn l.prog w K mg base 3 "times" ["one", "other"] (sp_p_times K []) := Fn.mk' (ok_p_times T4  F_p_amount) (PySem.W.mg_of X G a4) k4 b4
  have F_l_cell : Fn l.prog w K mg base 1 "_law_cell" ["_law_script", "_law_k"] (sp_l_cell K []) := Fn.mk' (ok_l_cell T5 B  ) (PySem.W.mg_of X G a5) k5 b5
  have F_l_draws : Fn l.prog w K mg base 1 "_law_draws" ["_law_cell_here", "_law_parts"] (sp_l_draws K []) := Fn.mk' (ok_l_draws T6  ) (PySem.W.mg_of X G a6) k6 b6
  have F_l_split : Fn l.prog w K mg base 1 "_law_split" ["_law_cell_here", "_law_many_here"] (sp_l_split K []) := Fn.mk' (ok_l_split T7 B  ) (PySem.W.mg_of X G a7) k7 b7
  have F_l_many : Fn l.prog w K mg base 1 "_law_many" ["_law_script", "_law_few"] (sp_l_many K []) := Fn.mk' (ok_l_many T8 B  ) (PySem.W.mg_of X G a8) k8 b8
  have F_p_speeds : Fn l.prog w K mg base 1 "speeds" ["paces", "places"] (sp_p_speeds K []) := Fn.mk' (ok_p_speeds T9 B  ) (PySem.W.mg_of X G a9) k9 b9
  have F_l_same : Fn l.prog w K mg base 6 "_law_same" ["_law_found", "_law_due"] (sp_l_same K []) := Fn.mk' (ok_l_same T10 B (PySem.W.mg_of X G a10) b10  ) (PySem.W.mg_of X G a10) k10 b10
  have F_l_gcd : Fn l.prog w K mg base 1 "_law_gcd" ["_law_one", "_law_other"] (sp_l_gcd K []) := Fn.mk' (ok_l_gcd T11  ) (PySem.W.mg_of X G a11) k11 b11
  have F_l_amt : Fn l.prog w K mg base 2 "_law_amt" ["_law_num", "_law_den"] (sp_l_amt K []) := Fn.mk' (ok_l_amt T12 B  F_l_gcd) (PySem.W.mg_of X G a12) k12 b12
  have F_l_add : Fn l.prog w K mg base 3 "_law_add" ["_law_one", "_law_other"] (sp_l_add K []) := Fn.mk' (ok_l_add T13  F_l_amt) (PySem.W.mg_of X G a13) k13 b13
  have F_l_sub : Fn l.prog w K mg base 3 "_law_sub" ["_law_one", "_law_other"] (sp_l_sub K []) := Fn.mk' (ok_l_sub T14  F_l_amt) (PySem.W.mg_of X G a14) k14 b14
  have F_l_by : Fn l.prog w K mg base 3 "_law_by" ["_law_one", "_law_number"] (sp_l_by K []) := Fn.mk' (ok_l_by T15  F_l_amt) (PySem.W.mg_of X G a15) k15 b15
  have F_l_mul : Fn l.prog w K mg base 3 "_law_mul" ["_law_one", "_law_number"] (sp_l_mul K []) := Fn.mk' (ok_l_mul T16  F_l_amt) (PySem.W.mg_of X G a16) k16 b16
  have F_l_less : Fn l.prog w K mg base 1 "_law_less" ["_law_one", "_law_other"] (sp_l_less K []) := Fn.mk' (ok_l_less T17  ) (PySem.W.mg_of X G a17) k17 b17
  have F_l_rates : Fn l.prog w K mg base 1 "_law_rates" ["_law_paces", "_law_places"] (sp_l_rates K []) := Fn.mk' (ok_l_rates T18 B  ) (PySem.W.mg_of X G a18) k18 b18
  have F_l_until : Fn l.prog w K mg base 4 "_law_until" ["_law_length", "_law_paces", "_law_places"] (sp_l_until K []) := Fn.mk' (ok_l_until T19 B  F_l_sub F_l_by F_l_less F_l_rates) (PySem.W.mg_of X G a19) k19 b19
  have F_l_standing : Fn l.prog w K mg base 4 "_law_standing" ["_law_cell_here"] (sp_l_standing K []) := Fn.mk' (ok_l_standing T20 B  F_l_draws F_l_amt F_l_add) (PySem.W.mg_of X G a20) k20 b20
  have F_p_walked : Fn l.prog w K mg base 4 "walked" ["paces", "places", "hours"] (sp_p_walked K []) := Fn.mk' (ok_p_walked T21 B  F_p_plus F_p_times F_p_speeds) (PySem.W.mg_of X G a21) k21 b21
  exact ok_LAW T22 B  F_l_cell F_l_draws F_l_split F_l_many F_l_same F_l_add F_l_sub F_l_by F_l_mul F_l_rates F_l_until F_l_standing F_p_walked
end My
open PySem PySem.W PyProof.Rows
set_option maxRecDepth 100000 in
set_option maxHeartbeats 0 in
theorem PySem.Challenge.cw_pailchain_k10_whole_walked_by_pieces_holds : PySem.Challenge.rw_pailchain_k10_whole_walked_by_pieces.Holds := by
  w_on; o_law; k_head; (case hw => w_witness2)
  k_fill
  refine L2.walk_ofB (l := PySem.Challenge.rw_pailchain_k10_whole_walked_by_pieces) (n := 63) (k := 8) (x := "_law_script") (CX := fun _ => L2.CX0) (sp := fun w => My.sp_LAW _ []) rfl (by decide) rfl ⟨rfl, by decide, by decide⟩ (fun w h Y => PySem.W.kIn_of Y) ?F (fun _ _ a ns hl hb _ hS => ⟨a, ns, rfl, hS, hl, hb, fun _ => rfl⟩) (fun _ _ _ _ _ h => h)
  case F =>
    intro w mg fa h KX G hmg
    refine' My.all_mk KX G hmg ?a1 ?l1 ?c1 ?k1 ?a2 ?l2 ?c2 ?k2 ?a3 ?l3 ?c3 ?k3 ?a4 ?l4 ?c4 ?k4 ?a5 ?l5 ?c5 ?k5 ?a6 ?l6 ?c6 ?k6 ?a7 ?l7 ?c7 ?k7 ?a8 ?l8 ?c8 ?k8 ?a9 ?l9 ?c9 ?k9 ?a10 ?l10 ?c10 ?k10 ?a11 ?l11 ?c11 ?k11 ?a12 ?l12 ?c12 ?k12 ?a13 ?l13 ?c13 ?k13 ?a14 ?l14 ?c14 ?k14 ?a15 ?l15 ?c15 ?k15 ?a16 ?l16 ?c16 ?k16 ?a17 ?l17 ?c17 ?k17 ?a18 ?l18 ?c18 ?k18 ?a19 ?l19 ?c19 ?k19 ?a20 ?l20 ?c20 ?k20 ?a21 ?l21 ?c21 ?k21 ?a22 ?l22 ?c22 ?k22 ?z_abs ?z_all ?z_bool ?z_int ?z_isinstance ?z_len ?z_list ?z_max ?z_min ?z_range ?z_reversed ?z_str ?z_sum ?z_tuple ?z_zip
    (case a1 => k_is)
    (case l1 => k_is)
    (case c1 => k_is)
    (case k1 => k_is)
    (case a2 => k_is)
    (case l2 => k_is)
    (case c2 => k_is)
    (case k2 => k_is)
    (case a3 => k_is)
    (case l3 => k_is)
    (case c3 => k_is)
    (case k3 => k_is)
    (case a4 => k_is)
    (case l4 => k_is)
    (case c4 => k_is)
    (case k4 => k_is)
    (case a5 => k_is)
    (case l5 => k_is)
    (case c5 => k_is)
    (case k5 => k_is)
    (case a6 => k_is)
    (case l6 => k_is)
    (case c6 => k_is)
    (case k6 => k_is)
    (case a7 => k_is)
    (case l7 => k_is)
    (case c7 => k_is)
    (case k7 => k_is)
    (case a8 => k_is)
    (case l8 => k_is)
    (case c8 => k_is)
    (case k8 => k_is)
    (case a9 => k_is)
    (case l9 => k_is)
    (case c9 => k_is)
    (case k9 => k_is)
    (case a10 => k_is)
    (case l10 => k_is)
    (case c10 => k_is)
    (case k10 => k_is)
    (case a11 => k_is)
    (case l11 => k_is)
    (case c11 => k_is)
    (case k11 => k_is)
    (case a12 => k_is)
    (case l12 => k_is)
    (case c12 => k_is)
    (case k12 => k_is)
    (case a13 => k_is)
    (case l13 => k_is)
    (case c13 => k_is)
    (case k13 => k_is)
    (case a14 => k_is)
    (case l14 => k_is)
    (case c14 => k_is)
    (case k14 => k_is)
    (case a15 => k_is)
    (case l15 => k_is)
    (case c15 => k_is)
    (case k15 => k_is)
    (case a16 => k_is)
    (case l16 => k_is)
    (case c16 => k_is)
    (case k16 => k_is)
    (case a17 => k_is)
    (case l17 => k_is)
    (case c17 => k_is)
    (case k17 => k_is)
    (case a18 => k_is)
    (case l18 => k_is)
    (case c18 => k_is)
    (case k18 => k_is)
    (case a19 => k_is)
    (case l19 => k_is)
    (case c19 => k_is)
    (case k19 => k_is)
    (case a20 => k_is)
    (case l20 => k_is)
    (case c20 => k_is)
    (case k20 => k_is)
    (case a21 => k_is)
    (case l21 => k_is)
    (case c21 => k_is)
    (case k21 => k_is)
    (case a22 => k_is)
    (case l22 => k_is)
    (case c22 => k_is)
    (case k22 => k_is)
    (case z_abs => k_is)
    (case z_all => k_is)
    (case z_bool => k_is)
    (case z_int => k_is)
    (case z_isinstance => k_is)
    (case z_len => k_is)
    (case z_list => k_is)
    (case z_max => k_is)
    (case z_min => k_is)
    (case z_range => k_is)
    (case z_reversed => k_is)
    (case z_str => k_is)
    (case z_sum => k_is)
    (case z_tuple => k_is)
    (case z_zip => k_is)
