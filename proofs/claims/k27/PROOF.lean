import PyProof.Rows.All
import Wide.All
import OpenK.AllK
import Wide.FinOn
import HandS.ForMost
import HandS.Wide
import HandS.IsInst
import HandS.NoneIn
import HandS.EndBits
import HandS.FStr
import HandS.ClsMeth
import HandS.ExcField
import HandS.ExcInit
import HandS.ForExc
import HandS.EndTab
import HandS.Lambda
import HandS.AnyAll
import HandS.RevRange
import HandS.SortInts
import HandS.More
import HandS.Walk
import HandS.Flow
import HandS.Zip
import KE.GoesEnum
import PySem.Challenge.RW_pailchain_k27_shares_of_places
set_option Elab.async false
set_option linter.all false
set_option maxRecDepth 100000
set_option maxHeartbeats 4000000
namespace My
open PySem PySem.Spec PyProof.Rows L2
/-! ### a def of the text with its promise, ready to be called -/
structure Fn (P : Program) (w : World) (K : PySem.W.Frag) (mg : Str → Option Value) (base : Heap) (k : Nat) (x : Str) (ps : List Str) (sp : Sp) : Prop where
  ex : ∃ f fd, FnOk P w K mg base CX0 k f fd ps sp ∧ mg x = some (.ref f) ∧ PySem.W.keepIn K (.ref f) = true ∧ Binds K fd ps []
theorem Fn.mk' {P : Program} {w : World} {K : PySem.W.Frag} {mg : Str → Option Value} {base : Heap} {k : Nat} {x : Str} {ps : List Str} {sp : Sp} {f : Addr} {fd : FuncData}
    (h : FnOk P w K mg base CX0 k f fd ps sp) (g : mg x = some (.ref f)) (kp : PySem.W.keepIn K (.ref f) = true) (b : Binds K fd ps []) : Fn P w K mg base k x ps sp := ⟨⟨f, fd, h, g, kp, b⟩⟩
section
variable {X : Cx} {k : Nat} {x : Str} {ps : List Str} {sp : Sp} {e : Expr} {es : List Expr} {t : TA} {p pos : Pos}
theorem pe_fn (F : Fn X.prog X.w X.K X.mg X.base k x ps sp) (hr : Room k X.A) (ha : PA X (e :: es) t) (hg : Gl X x := by rfl) (hdb : (x == ("__debug__" : Str)) = false := by decide)
    (he : starEach (e :: es) X.env = (false, eval e X.env) :: starEach es X.env := by rfl) (hpl : (backTo pos (starEach es X.env)).any (·.1) = false := by rfl) :
    PE X (.Call (.Name x p) (e :: es) [] pos) (tCall sp [] E0 t) := by
  obtain ⟨f, fd, h, g, kp, b⟩ := F.ex
  exact pe_call h hr hg g kp b .nil pass0 ha hdb he hpl
theorem pe_fn0 (F : Fn X.prog X.w X.K X.mg X.base k x ps sp) (hr : Room k X.A) (hg : Gl X x := by rfl) (hdb : (x == ("__debug__" : Str)) = false := by decide) :
    PE X (.Call (.Name x p) [] [] pos) (tCall sp [] E0 tNil) := by
  obtain ⟨f, fd, h, g, kp, b⟩ := F.ex
  exact pe_call0 h hr hg g kp b .nil pass0 hdb
end
/-! ### heaps: what a def leaves; the tables of code objects may grow -/
/-- the tables that grow: a table of generator expressions (none), of lambdas (their name) -/
abbrev Tb := List (Addr × Option Str)
def OkP (H : Hp) (p : Addr × Option Str) : Prop := match p.2 with
  | none => GxR.TabG H p.1
  | some q => LamX.TabS H p.1 q
def Ok (T : Tb) (H : Hp) : Prop := ∀ p ∈ T, OkP H p
def nTbl : HO → Prop
  | .tbl _ => False
  | _ => True
structure Sm (T : Tb) (H H' : Hp) : Prop where
  keep : ∀ b o, H b = some o → nTbl o → H' b = some o
  ok : Ok T H → Ok T H'
  free : ∀ l, H' l = none → H l = none
theorem nTbl_ne {o : HO} (h : nTbl o) (ps : Array Value) : o ≠ .tbl ps := fun e => by rw [e] at h; exact h
theorem Sm.k {T : Tb} {H H' : Hp} (s : Sm T H H') {b : Addr} {o : HO} (e : H b = some o) (n : nTbl o := by trivial) : H' b = some o := s.keep b o e n
theorem Sm.refl {T : Tb} {H : Hp} : Sm T H H := ⟨fun _ _ e _ => e, fun h => h, fun _ h => h⟩
theorem Sm.trans {T : Tb} {H H1 H2 : Hp} (a : Sm T H H1) (b : Sm T H1 H2) : Sm T H H2 := ⟨fun c o e n => b.keep c o (a.keep c o e n) n, fun h => b.ok (a.ok h), fun l h => a.free l (b.free l h)⟩
theorem Sm.seq {T : Tb} {K : PySem.W.Frag} {H H' : Hp} {a : Addr} {xs : List V} (e : Sm T H H') (h : SqL K H a xs) : SqL K H' a xs := by
  rcases h with (h | ⟨o, h⟩) | h
  · exact .inl (.inl (e.keep _ _ h trivial))
  · exact .inl (.inr ⟨o, e.keep _ _ h trivial⟩)
  · exact .inr h
theorem same_tup {T : Tb} {K : PySem.W.Frag} {H H' : Hp} {a : Addr} {xs : List V} (e : Sm T H H') (h : SqT K H a xs) : SqT K H' a xs := by
  rcases h with (h | ⟨o, h⟩) | h
  · exact .inl (.inl (e.keep _ _ h trivial))
  · exact .inl (.inr ⟨o, e.keep _ _ h trivial⟩)
  · exact .inr h
theorem Sm.lst {T : Tb} {H H' : Hp} {a : Addr} {xs : List V} (e : Sm T H H') (h : H a = some (.lst xs)) : H' a = some (.lst xs) := e.keep _ _ h trivial
theorem okP_ext {H H' : Hp} {p : Addr × Option Str} (h : OkP H p) (e : ∀ b o, H b = some o → H' b = some o) : OkP H' p := by
  obtain ⟨P, q⟩ := p
  cases q with
  | none =>
    obtain ⟨ps, h1, h2⟩ := (show GxR.TabG H P from h)
    exact ⟨ps, e _ _ h1, h2⟩
  | some q => exact LamX.TabS.ext (show LamX.TabS H P q from h) e
/-- the one list at p is changed -/
theorem okP_mut {H : Hp} {p : Addr × Option Str} {a : Addr} {o : HO} {xs : List V} (h : OkP H p) (ha : H a = some (.lst xs)) : OkP (upd H a o) p := by
  have k : ∀ b u, H b = some u → u ≠ .lst xs → upd H a o b = some u := fun b u e n => by
    rw [upd_ne (fun z => n (by rw [z, ha] at e; exact (Option.some.inj e).symm))]
    exact e
  obtain ⟨P, q⟩ := p
  cases q with
  | none =>
    obtain ⟨ps, h1, h2⟩ := (show GxR.TabG H P from h)
    exact ⟨ps, k _ _ h1 (fun z => by cases z), h2⟩
  | some q =>
    obtain ⟨ps, h1, h2, h3⟩ := (show LamX.TabS H P q from h)
    refine ⟨ps, k _ _ h1 (fun z => by cases z), h2, fun pos cv hc => ?_⟩
    obtain ⟨c, e1, e2⟩ := h3 pos cv hc
    exact ⟨c, e1, k _ _ e2 (fun z => by unfold LamX.CodeO at z; cases z)⟩
theorem same_upd {T : Tb} {H : Hp} {p : Addr} {o : HO} (h : H p = none) : Sm T H (upd H p o) := by
  have k : ∀ b x, H b = some x → upd H p o b = some x := fun b x e => by
    rw [upd_ne (ne_of_none e h)]
    exact e
  refine ⟨fun b x e _ => k b x e, fun h q hq => okP_ext (h q hq) k, fun l hl => ?_⟩
  cases q : H l with
  | none => rfl
  | some x => rw [k _ _ q] at hl; cases hl
theorem same_mut {T : Tb} {H H' : Hp} {p : Addr} {o : HO} {xs : List V} (e : Sm T H H') (h : H p = none) (hp : H' p = some (.lst xs)) : Sm T H (upd H' p o) := by
  refine ⟨fun b x q n => ?_, fun hk q hq => okP_mut (e.ok hk q hq) hp, fun l hl => ?_⟩
  · rw [upd_ne (ne_of_none q h)]
    exact e.keep b x q n
  · by_cases z : l = p
    · rw [z]; exact h
    · rw [upd_ne z] at hl
      exact e.free l hl
theorem seq_k {t u : TS} {D : Ends} {σ : L2.St} {H : Hp} (P : L2.St → Hp → Prop) (hu : ∀ σ' H', P σ' H' → u D σ' H') (h : (∀ σ' H', P σ' H' → u D σ' H') → tSeq t u D σ H) : tSeq t u D σ H := h hu
theorem seq_if {c : TT} {t1 t2 u : TS} {D : Ends} {σ : L2.St} {H : Hp} (P : L2.St → Hp → Prop) (hu : ∀ σ' H', P σ' H' → u D σ' H') (h : (∀ σ' H', P σ' H' → u D σ' H') → tSeq (tIfS c t1 t2) u D σ H) : tSeq (tIfS c t1 t2) u D σ H := h hu
theorem seq_as {te : TE} {g : TG} {u : TS} {D : Ends} {σ : L2.St} {H : Hp} (P : L2.St → Hp → Prop) (hu : ∀ σ' H', P σ' H' → u D σ' H') (h : (∀ σ' H', P σ' H' → u D σ' H') → tSeq (tAsg te g) u D σ H) : tSeq (tAsg te g) u D σ H := h hu
theorem sz {n : Nat} (h : n ≤ 10000) : n ≤ sizeLine := Nat.le_trans h (by decide)
theorem szl {n : Nat} (h : n < 10000) : n < sizeLine := Nat.lt_of_lt_of_le h (by decide)
/-! ### data -/
mutual
theorem dp_same {T : Tb} {K : PySem.W.Frag} {H H' : Hp} (e : Sm T H H') : ∀ (d : PyData) (v : V), Dp K H v d → Dp K H' v d
  | .none, _, h => by cases h; exact .non
  | .bool b, _, h => by cases h; exact .bl b
  | .int i, _, h => by cases h; exact .int i
  | .str x, _, h => by cases h; exact .str x
  | .list ds, _, h => by
    cases h with
    | lst hs ha => exact .lst (e.seq hs) (dpa_same e ds _ ha)
  | .tuple ds, _, h => by
    cases h with
    | tup hs ha => exact .tup (same_tup e hs) (dpa_same e ds _ ha)
  | .dict _, _, h => by cases h
theorem dpa_same {T : Tb} {K : PySem.W.Frag} {H H' : Hp} (e : Sm T H H') : ∀ (ds : List PyData) (vs : List V), DpAll K H vs ds → DpAll K H' vs ds
  | [], _, h => by cases h; exact .nil
  | d :: ds, _, h => by
    cases h with
    | cons h1 h2 => exact .cons (dp_same e d _ h1) (dpa_same e ds _ h2)
end
theorem dpa_len {K : PySem.W.Frag} {H : Hp} : ∀ {vs : List V} {ds : List PyData}, DpAll K H vs ds → vs.length = ds.length
  | _, [], h => by cases h; rfl
  | _, _ :: _, h => by
    cases h with
    | cons _ h2 => exact congrArg (· + 1) (dpa_len h2)
theorem dpa_get {K : PySem.W.Frag} {H : Hp} : ∀ {vs : List V} {ds : List PyData}, DpAll K H vs ds → ∀ {i : Nat} {d : PyData}, ds[i]? = some d → ∃ v, vs[i]? = some v ∧ Dp K H v d
  | _, [], h, i, d, e => by simp at e
  | _, d0 :: ds, h, 0, d, e => by
    cases h with
    | cons h1 h2 =>
      obtain rfl : d0 = d := Option.some.inj e
      exact ⟨_, rfl, h1⟩
  | _, d0 :: ds, h, i + 1, d, e => by
    cases h with
    | cons h1 h2 => exact dpa_get h2 (i := i) e
def depOk : Nat → PyData → Bool
  | _, .none => true
  | _, .bool _ => true
  | _, .int _ => true
  | _, .str _ => true
  | n + 1, .list ds => decide (ds.length ≤ 9000) && ds.all (depOk n)
  | n + 1, .tuple ds => decide (ds.length ≤ 9000) && ds.all (depOk n)
  | _, _ => false
def tyD : PyData → String
  | .none => "NoneType"
  | .bool _ => "bool"
  | .int _ => "int"
  | .str _ => "str"
  | .list _ => "list"
  | .tuple _ => "tuple"
  | .dict _ => "dict"
theorem tyx_of {K : PySem.W.Frag} {H : Hp} : ∀ {d : PyData} {v : V}, Dp K H v d → TyX K H v (.type (tyD d))
  | _, _, .non => .base .non
  | _, _, .bl b => .base (.bl b)
  | _, _, .int i => .base (.int i)
  | _, _, .str x => .base (.str x)
  | _, _, .lst (.inl (.inl h)) _ => .base (.lst h)
  | _, _, .lst (.inl (.inr ⟨_, h⟩)) _ => .base (.frz h)
  | _, _, .lst (.inr ⟨_, _, _, h, c, _⟩) _ => .kList h c
  | _, _, .tup (.inl (.inl h)) _ => .base (.tup h)
  | _, _, .tup (.inl (.inr ⟨_, h⟩)) _ => .fTuple h
  | _, _, .tup (.inr ⟨_, _, _, h, c, _⟩) _ => .kTuple h c
theorem rep_all (n : Nat) : (List.replicate n true).all id = true := by
  induction n with
  | zero => rfl
  | succ n ih => rw [List.replicate_succ, List.all_cons, ih]; rfl
def rLen (K : PySem.W.Frag) : List V → Hp → VK → Prop := fun xs H Q => ∃ p ys, xs = [.ref p] ∧ (SqL K H p ys ∨ SqT K H p ys) ∧ Q (.int ys.length) H
def rLst (K : PySem.W.Frag) : List V → Hp → VK → Prop := fun xs H Q => ∃ p ys, xs = [.ref p] ∧ (SqL K H p ys ∨ SqT K H p ys) ∧ ∀ (l : Addr), H l = none → Q (.ref l) (upd H l (.lst ys))
theorem call_list1 {X : Cx} : CallR X (.type "list") (rLst X.K) := call_list_of
theorem call_len1 {X : Cx} : CallR X (.builtin "len") (rLen X.K) := call_len_seq
theorem kb_bool_bool : kitB "bool" "bool" = some true := by decide +kernel
theorem kb_bool_int : kitB "bool" "int" = some true := by decide +kernel
theorem kb_bool_str : kitB "bool" "str" = some false := by decide +kernel
theorem kb_bool_list : kitB "bool" "list" = some false := by decide +kernel
theorem kb_bool_tuple : kitB "bool" "tuple" = some false := by decide +kernel
theorem kb_int_bool : kitB "int" "bool" = some false := by decide +kernel
theorem kb_int_int : kitB "int" "int" = some true := by decide +kernel
theorem kb_int_str : kitB "int" "str" = some false := by decide +kernel
theorem kb_int_list : kitB "int" "list" = some false := by decide +kernel
theorem kb_int_tuple : kitB "int" "tuple" = some false := by decide +kernel
theorem kb_str_bool : kitB "str" "bool" = some false := by decide +kernel
theorem kb_str_int : kitB "str" "int" = some false := by decide +kernel
theorem kb_str_str : kitB "str" "str" = some true := by decide +kernel
theorem kb_str_list : kitB "str" "list" = some false := by decide +kernel
theorem kb_str_tuple : kitB "str" "tuple" = some false := by decide +kernel
theorem kb_list_bool : kitB "list" "bool" = some false := by decide +kernel
theorem kb_list_int : kitB "list" "int" = some false := by decide +kernel
theorem kb_list_str : kitB "list" "str" = some false := by decide +kernel
theorem kb_list_list : kitB "list" "list" = some true := by decide +kernel
theorem kb_list_tuple : kitB "list" "tuple" = some false := by decide +kernel
theorem kb_tuple_bool : kitB "tuple" "bool" = some false := by decide +kernel
theorem kb_tuple_int : kitB "tuple" "int" = some false := by decide +kernel
theorem kb_tuple_str : kitB "tuple" "str" = some false := by decide +kernel
theorem kb_tuple_list : kitB "tuple" "list" = some false := by decide +kernel
theorem kb_tuple_tuple : kitB "tuple" "tuple" = some true := by decide +kernel
theorem kb_NoneType_bool : kitB "NoneType" "bool" = some false := by decide +kernel
theorem kb_NoneType_int : kitB "NoneType" "int" = some false := by decide +kernel
theorem kb_NoneType_str : kitB "NoneType" "str" = some false := by decide +kernel
theorem kb_NoneType_list : kitB "NoneType" "list" = some false := by decide +kernel
theorem kb_NoneType_tuple : kitB "NoneType" "tuple" = some false := by decide +kernel
theorem tyes_t {σ : L2.St} {H : Hp} {Q : Bool → Hp → Prop} (h : Q true H) : tYes σ H Q := h
theorem tyes_i {σ : L2.St} {H : Hp} {A B : Hp → Prop} (h : A H) : tYes σ H (fun b H3 => if b = true then A H3 else B H3) := iteT (A := A H) (B := B H) h
/-! ### draws -/
def Drawn : List Int → List Int → Prop
  | [], [] => True
  | d :: ds, q :: qs => (0 ≤ d ∧ d < q) ∧ Drawn ds qs
  | _, _ => False
theorem Drawn.cons {ds qs : List Int} {q : Int} (h : Drawn ds (q :: qs)) : ∃ d r, ds = d :: r ∧ 0 ≤ d ∧ d < q ∧ Drawn r qs := by
  cases ds with
  | nil => exact h.elim
  | cons d r => exact ⟨d, r, rfl, h.1.1, h.1.2, h.2⟩
theorem Drawn.nil {ds : List Int} (h : Drawn ds []) : ds = [] := by
  cases ds with
  | nil => rfl
  | cons d r => exact h.elim
theorem Drawn.snoc : ∀ {ds qs : List Int} {d q : Int}, Drawn ds qs → 0 ≤ d → d < q → Drawn (ds ++ [d]) (qs ++ [q])
  | [], [], _, _, _, h0, h1 => ⟨⟨h0, h1⟩, trivial⟩
  | [], _ :: _, _, _, h, _, _ => h.elim
  | _ :: _, [], _, _, h, _, _ => h.elim
  | _ :: _, _ :: _, _, _, h, h0, h1 => ⟨h.1, Drawn.snoc h.2 h0 h1⟩
theorem Drawn.length : ∀ {ds qs : List Int}, Drawn ds qs → ds.length = qs.length
  | [], [], _ => rfl
  | [], _ :: _, h => h.elim
  | _ :: _, [], h => h.elim
  | _ :: _, _ :: _, h => congrArg (· + 1) (Drawn.length h.2)
/-! ### amounts -/
abbrev Am := Int × Int
def tv (x : Am) : List V := [.int x.1, .int x.2]
def amt (n d : Int) : Am := ((if d < 0 then -n else n) / (Nat.gcd n.natAbs d.natAbs : Nat), (d.natAbs : Int) / (Nat.gcd n.natAbs d.natAbs : Nat))
theorem amD_dp {K : PySem.W.Frag} {H : Hp} {p : Addr} {x : Am} (h : SqT K H p (tv x)) : Dp K H (.ref p) (.tuple [.int x.1, .int x.2]) := .tup h (.cons (.int _) (.cons (.int _) .nil))
abbrev amD (x : Am) : PyData := .tuple [.int x.1, .int x.2]
theorem tup_dp {K : PySem.W.Frag} {H : Hp} {p : Addr} {x : Am} (h : H p = some (.tup (tv x))) : Dp K H (.ref p) (amD x) := amD_dp (SqT.of h)
theorem pd_at {K : PySem.W.Frag} {H : Hp} {v : V} {x : Am} (h : Dp K H v (amD x)) : ∃ b, v = .ref b ∧ SqT K H b (tv x) := by
  cases h with
  | tup hs ha =>
    cases ha with
    | cons h1 h2 =>
      cases h2 with
      | cons h3 h4 =>
        cases h4
        cases h1
        cases h3
        exact ⟨_, rfl, hs⟩
theorem dpa_app {K : PySem.W.Frag} {H : Hp} : ∀ {vs : List V} {ds : List PyData} {ws : List V} {es : List PyData}, DpAll K H vs ds → DpAll K H ws es → DpAll K H (vs ++ ws) (ds ++ es)
  | _, [], _, _, h, g => by cases h; exact g
  | _, _ :: _, _, _, h, g => by
    cases h with
    | cons h1 h2 => exact .cons h1 (dpa_app h2 g)
theorem dpa_take {K : PySem.W.Frag} {H : Hp} : ∀ {vs : List V} {ds : List PyData} (n : Nat), DpAll K H vs ds → DpAll K H (vs.take n) (ds.take n)
  | _, _, 0, _ => .nil
  | _, [], n + 1, h => by cases h; exact .nil
  | _, _ :: _, n + 1, h => by
    cases h with
    | cons h1 h2 => exact .cons h1 (dpa_take n h2)
theorem dpa_drop {K : PySem.W.Frag} {H : Hp} : ∀ {vs : List V} {ds : List PyData} (n : Nat), DpAll K H vs ds → DpAll K H (vs.drop n) (ds.drop n)
  | _, _, 0, h => h
  | _, [], n + 1, h => by cases h; exact .nil
  | _, _ :: _, n + 1, h => by
    cases h with
    | cons h1 h2 => exact dpa_drop n h2
/-- pairs stay where a list is changed -/
theorem pd_mut {K : PySem.W.Frag} {H : Hp} {v : V} {x : Am} {a : Addr} {o : HO} {xs : List V} (h : Dp K H v (amD x)) (ha : H a = some (.lst xs)) : Dp K (upd H a o) v (amD x) := by
  obtain ⟨b, rfl, hs⟩ := pd_at h
  refine amD_dp ?_
  rcases hs with (hs | ⟨u, hs⟩) | hs
  · exact .inl (.inl (by rw [upd_ne (ne_of hs ha (fun z => by cases z))]; exact hs))
  · exact .inl (.inr ⟨u, by rw [upd_ne (ne_of hs ha (fun z => by cases z))]; exact hs⟩)
  · exact .inr hs
theorem pds_mut {K : PySem.W.Frag} {H : Hp} {a : Addr} {o : HO} {xs : List V} (ha : H a = some (.lst xs)) : ∀ {vs : List V} {qs : List Am}, DpAll K H vs (qs.map amD) → DpAll K (upd H a o) vs (qs.map amD)
  | _, [], h => by cases h; exact .nil
  | _, _ :: _, h => by
    cases h with
    | cons h1 h2 => exact .cons (pd_mut h1 ha) (pds_mut ha h2)
theorem cut_take (xs : List V) (k : Nat) {z : Int} (hz : z = (k : Int)) : cutV xs none (some z) = xs.take k := by
  subst hz
  unfold cutV
  rw [HT.sIx_none, HT.sIx_nat, List.drop_zero, Nat.sub_zero]
  by_cases h : k ≤ xs.length
  · rw [Nat.min_eq_left h]
  · rw [Nat.min_eq_right (by omega), List.take_length, List.take_of_length_le (by omega)]
theorem cut_drop (xs : List V) (k : Nat) {z : Int} (hz : z = (k : Int)) : cutV xs (some z) none = xs.drop k := by
  subst hz
  unfold cutV
  rw [HT.sIx_none, HT.sIx_nat]
  by_cases h : k ≤ xs.length
  · rw [Nat.min_eq_left h, List.take_of_length_le (by rw [List.length_drop]; omega)]
  · rw [Nat.min_eq_right (by omega), List.drop_length, List.drop_of_length_le (by omega), List.take_nil]
theorem dpa_rep {K : PySem.W.Frag} {H : Hp} {vs : List V} {qs : List Am} (h : DpAll K H vs (qs.map amD)) : ∀ n, DpAll K H (List.replicate n vs).flatten (((List.replicate n qs).flatten).map amD)
  | 0 => .nil
  | n + 1 => by
    rw [List.replicate_succ, List.replicate_succ, List.flatten_cons, List.flatten_cons, List.map_append]
    exact dpa_app h (dpa_rep h n)
theorem len_rep {α : Type} (l : List α) : ∀ n, ((List.replicate n l).flatten).length = n * l.length
  | 0 => by simp
  | n + 1 => by rw [List.replicate_succ, List.flatten_cons, List.length_append, len_rep l n, Nat.succ_mul, Nat.add_comm]
/-! ### told tuples in a list that grows -/
def noL : Nat → PyData → Bool
  | _, .none => true
  | _, .bool _ => true
  | _, .int _ => true
  | _, .str _ => true
  | n + 1, .tuple ds => ds.all (noL n)
  | _, _ => false
theorem sqT_mut {K : PySem.W.Frag} {H : Hp} {t a : Addr} {o : HO} {xs ys : List V} (hs : SqT K H t ys) (ha : H a = some (.lst xs)) : SqT K (upd H a o) t ys := by
  rcases hs with (hs | ⟨u, hs⟩) | hs
  · exact .inl (.inl (by rw [upd_ne (ne_of hs ha (fun z => by cases z))]; exact hs))
  · exact .inl (.inr ⟨u, by rw [upd_ne (ne_of hs ha (fun z => by cases z))]; exact hs⟩)
  · exact .inr hs
mutual
theorem noL_mut {K : PySem.W.Frag} {H : Hp} {a : Addr} {o : HO} {xs : List V} (ha : H a = some (.lst xs)) : ∀ (n : Nat) (d : PyData) (v : V), noL n d = true → Dp K H v d → Dp K (upd H a o) v d
  | _, .none, _, _, h => by cases h; exact .non
  | _, .bool b, _, _, h => by cases h; exact .bl b
  | _, .int i, _, _, h => by cases h; exact .int i
  | _, .str x, _, _, h => by cases h; exact .str x
  | 0, .tuple _, _, e, _ => by cases e
  | n + 1, .tuple ds, _, e, h => by
    cases h with
    | tup hs hall => exact .tup (sqT_mut hs ha) (noLs_mut ha n ds _ e hall)
  | 0, .list _, _, e, _ => by cases e
  | _ + 1, .list _, _, e, _ => by cases e
  | 0, .dict _, _, e, _ => by cases e
  | _ + 1, .dict _, _, e, _ => by cases e
theorem noLs_mut {K : PySem.W.Frag} {H : Hp} {a : Addr} {o : HO} {xs : List V} (ha : H a = some (.lst xs)) : ∀ (n : Nat) (ds : List PyData) (vs : List V), ds.all (noL n) = true → DpAll K H vs ds → DpAll K (upd H a o) vs ds
  | _, [], _, _, h => by cases h; exact .nil
  | n, d :: ds, _, e, h => by
    cases h with
    | cons h1 h2 =>
      rw [List.all_cons, Bool.and_eq_true] at e
      exact .cons (noL_mut ha n d _ e.1 h1) (noLs_mut ha n ds _ e.2 h2)
end
/-- the list at fo holds ds -/
def Fd (K : PySem.W.Frag) (H : Hp) (fo : Addr) (ds : List PyData) : Prop := ∃ ts, H fo = some (.lst ts) ∧ DpAll K H ts ds
theorem Fd.keep {T : Tb} {K : PySem.W.Frag} {H H' : Hp} {fo : Addr} {ds : List PyData} (h : Fd K H fo ds) (s : Sm T H H') : Fd K H' fo ds := by
  obtain ⟨ts, h1, h2⟩ := h
  exact ⟨ts, s.k h1, dpa_same s _ _ h2⟩
theorem Fd.push {K : PySem.W.Frag} {H : Hp} {fo : Addr} {ds : List PyData} {ts : List V} {d : PyData} {v : V} (h1 : H fo = some (.lst ts)) (h2 : DpAll K H ts ds) (hv : Dp K H v d) (n1 : ds.all (noL 3) = true := by rfl) (n2 : noL 3 d = true := by rfl) :
    Fd K (upd H fo (.lst (ts ++ [v]))) fo (ds ++ [d]) :=
  ⟨ts ++ [v], upd_same, dpa_app (noLs_mut h1 3 ds _ n1 h2) (.cons (noL_mut h1 3 d v n2 hv) .nil)⟩
theorem Fd.dp {K : PySem.W.Frag} {H : Hp} {fo : Addr} {ds : List PyData} (h : Fd K H fo ds) : Dp K H (.ref fo) (.list ds) := by
  obtain ⟨ts, h1, h2⟩ := h
  exact .lst (SqL.of h1) h2
theorem depOk_ams {qs : List Am} (h : qs.length ≤ 9000) : depOk 5 (.list (qs.map amD)) = true := by
  show (decide ((qs.map amD).length ≤ 9000) && (qs.map amD).all (depOk 4)) = true
  rw [List.length_map, decide_eq_true h, Bool.true_and, List.all_map]
  exact List.all_eq_true.mpr fun q _ => rfl

def topS (i : Nat) : Stmt := PySem.Challenge.pw_pailchain_k27_shares_of_places.main.body.getD i (.Pass ⟨0, 0, 0, 0⟩)
abbrev s_l_word : Stmt := topS 37
theorem sc_l_word : FnScope ["_law_asked", "e"] ["_law_asked"] (defScope s_l_word) := ⟨rfl, rfl, rfl, by decide +kernel, rfl, by decide +kernel, by decide +kernel⟩
abbrev s_p_is_number : Stmt := topS 17
theorem sc_p_is_number : FnScope ["thing"] ["thing"] (defScope s_p_is_number) := ⟨rfl, rfl, rfl, by decide +kernel, rfl, by decide +kernel, by decide +kernel⟩
abbrev s_p_is_within : Stmt := topS 18
theorem sc_p_is_within : FnScope ["thing", "least", "most"] ["thing", "least", "most"] (defScope s_p_is_within) := ⟨rfl, rfl, rfl, by decide +kernel, rfl, by decide +kernel, by decide +kernel⟩
abbrev s_p_common_divisor : Stmt := topS 2
theorem sc_p_common_divisor : FnScope ["one", "other"] ["one", "other"] (defScope s_p_common_divisor) := ⟨rfl, rfl, rfl, by decide +kernel, rfl, by decide +kernel, by decide +kernel⟩
abbrev s_p_amount : Stmt := topS 3
theorem sc_p_amount : FnScope ["num", "den", "shared"] ["num", "den"] (defScope s_p_amount) := ⟨rfl, rfl, rfl, by decide +kernel, rfl, by decide +kernel, by decide +kernel⟩
abbrev s_p_minus : Stmt := topS 4
theorem sc_p_minus : FnScope ["one", "other"] ["one", "other"] (defScope s_p_minus) := ⟨rfl, rfl, rfl, by decide +kernel, rfl, by decide +kernel, by decide +kernel⟩
abbrev s_p_over : Stmt := topS 5
theorem sc_p_over : FnScope ["one", "other"] ["one", "other"] (defScope s_p_over) := ⟨rfl, rfl, rfl, by decide +kernel, rfl, by decide +kernel, by decide +kernel⟩
abbrev s_p_below : Stmt := topS 6
theorem sc_p_below : FnScope ["one", "other"] ["one", "other"] (defScope s_p_below) := ⟨rfl, rfl, rfl, by decide +kernel, rfl, by decide +kernel, by decide +kernel⟩
abbrev s_p_PailError___init__ : Stmt := inClass (topS 8) 0
theorem sc_p_PailError___init__ : FnScope ["self", "word"] ["self", "word"] (defScope s_p_PailError___init__) := ⟨rfl, rfl, rfl, by decide +kernel, rfl, by decide +kernel, by decide +kernel⟩
abbrev s_p_BadWay___init__ : Stmt := inClass (topS 9) 0
theorem sc_p_BadWay___init__ : FnScope ["self"] ["self"] (defScope s_p_BadWay___init__) := ⟨rfl, rfl, rfl, by decide +kernel, rfl, by decide +kernel, by decide +kernel⟩
abbrev s_p_BadPace___init__ : Stmt := inClass (topS 11) 0
theorem sc_p_BadPace___init__ : FnScope ["self"] ["self"] (defScope s_p_BadPace___init__) := ⟨rfl, rfl, rfl, by decide +kernel, rfl, by decide +kernel, by decide +kernel⟩
abbrev s_p_BadCount___init__ : Stmt := inClass (topS 12) 0
theorem sc_p_BadCount___init__ : FnScope ["self"] ["self"] (defScope s_p_BadCount___init__) := ⟨rfl, rfl, rfl, by decide +kernel, rfl, by decide +kernel, by decide +kernel⟩
abbrev s_p_BadPlace___init__ : Stmt := inClass (topS 10) 0
theorem sc_p_BadPlace___init__ : FnScope ["self"] ["self"] (defScope s_p_BadPlace___init__) := ⟨rfl, rfl, rfl, by decide +kernel, rfl, by decide +kernel, by decide +kernel⟩
abbrev s_p_NotRising___init__ : Stmt := inClass (topS 13) 0
theorem sc_p_NotRising___init__ : FnScope ["self"] ["self"] (defScope s_p_NotRising___init__) := ⟨rfl, rfl, rfl, by decide +kernel, rfl, by decide +kernel, by decide +kernel⟩
abbrev s_l_cell : Stmt := topS 32
theorem sc_l_cell : FnScope ["_law_script", "_law_k"] ["_law_script", "_law_k"] (defScope s_l_cell) := ⟨rfl, rfl, rfl, by decide +kernel, rfl, by decide +kernel, by decide +kernel⟩
abbrev s_l_draws : Stmt := topS 33
theorem sc_l_draws : FnScope ["_law_cell_here", "_law_parts", "_law_one", "_law_two", "_law_six", "_law_found", "_law_part"] ["_law_cell_here", "_law_parts"] (defScope s_l_draws) := ⟨rfl, rfl, rfl, by decide +kernel, rfl, by decide +kernel, by decide +kernel⟩
abbrev s_l_split : Stmt := topS 34
theorem sc_l_split : FnScope ["_law_cell_here", "_law_many_here", "_law_found", "_law_big", "_law_k"] ["_law_cell_here", "_law_many_here"] (defScope s_l_split) := ⟨rfl, rfl, rfl, by decide +kernel, rfl, by decide +kernel, by decide +kernel⟩
abbrev s_l_many : Stmt := topS 35
theorem sc_l_many : FnScope ["_law_script", "_law_few"] ["_law_script", "_law_few"] (defScope s_l_many) := ⟨rfl, rfl, rfl, by decide +kernel, rfl, by decide +kernel, by decide +kernel⟩
abbrev s_l_same : Stmt := topS 36
theorem sc_l_same : FnScope ["_law_found", "_law_due", "_law_k"] ["_law_found", "_law_due"] (defScope s_l_same) := ⟨rfl, rfl, rfl, by decide +kernel, rfl, by decide +kernel, by decide +kernel⟩
abbrev s_l_gcd : Stmt := topS 38
theorem sc_l_gcd : FnScope ["_law_one", "_law_other"] ["_law_one", "_law_other"] (defScope s_l_gcd) := ⟨rfl, rfl, rfl, by decide +kernel, rfl, by decide +kernel, by decide +kernel⟩
abbrev s_l_amt : Stmt := topS 39
theorem sc_l_amt : FnScope ["_law_num", "_law_den", "_law_by_here"] ["_law_num", "_law_den"] (defScope s_l_amt) := ⟨rfl, rfl, rfl, by decide +kernel, rfl, by decide +kernel, by decide +kernel⟩
abbrev s_l_sub : Stmt := topS 40
theorem sc_l_sub : FnScope ["_law_one", "_law_other"] ["_law_one", "_law_other"] (defScope s_l_sub) := ⟨rfl, rfl, rfl, by decide +kernel, rfl, by decide +kernel, by decide +kernel⟩
abbrev s_l_by : Stmt := topS 41
theorem sc_l_by : FnScope ["_law_one", "_law_number"] ["_law_one", "_law_number"] (defScope s_l_by) := ⟨rfl, rfl, rfl, by decide +kernel, rfl, by decide +kernel, by decide +kernel⟩
abbrev s_l_less : Stmt := topS 42
theorem sc_l_less : FnScope ["_law_one", "_law_other"] ["_law_one", "_law_other"] (defScope s_l_less) := ⟨rfl, rfl, rfl, by decide +kernel, rfl, by decide +kernel, by decide +kernel⟩
abbrev s_p_check_pace : Stmt := topS 19
theorem sc_p_check_pace : FnScope ["pace"] ["pace"] (defScope s_p_check_pace) := ⟨rfl, rfl, rfl, by decide +kernel, rfl, by decide +kernel, by decide +kernel⟩
abbrev s_p_check_paces : Stmt := topS 20
theorem sc_p_check_paces : FnScope ["paces", "most", "pace"] ["paces", "most"] (defScope s_p_check_paces) := ⟨rfl, rfl, rfl, by decide +kernel, rfl, by decide +kernel, by decide +kernel⟩
abbrev s_p_check_rising : Stmt := topS 28
theorem sc_p_check_rising : FnScope ["paces", "slow", "quick"] ["paces"] (defScope s_p_check_rising) := ⟨rfl, rfl, rfl, by decide +kernel, rfl, by decide +kernel, by decide +kernel⟩
abbrev s_l_rising_of : Stmt := topS 46
theorem sc_l_rising_of : FnScope ["_law_cell_here", "_law_drawn", "_law_many_here", "_law_one"] ["_law_cell_here"] (defScope s_l_rising_of) := ⟨rfl, rfl, rfl, by decide +kernel, rfl, by decide +kernel, by decide +kernel⟩
abbrev s_p_is_stretch : Stmt := topS 24
theorem sc_p_is_stretch : FnScope ["thing", "part"] ["thing"] (defScope s_p_is_stretch) := ⟨rfl, rfl, rfl, by decide +kernel, rfl, by decide +kernel, by decide +kernel⟩
abbrev s_p_check_way : Stmt := topS 25
theorem sc_p_check_way : FnScope ["way", "stretch"] ["way"] (defScope s_p_check_way) := ⟨rfl, rfl, rfl, by decide +kernel, rfl, by decide +kernel, by decide +kernel⟩
abbrev s_p_labour : Stmt := topS 26
theorem sc_p_labour : FnScope ["way", "count", "toil"] ["way"] (defScope s_p_labour) := ⟨rfl, rfl, rfl, by decide +kernel, rfl, by decide +kernel, by decide +kernel⟩
abbrev s_l_way : Stmt := topS 43
theorem sc_l_way : FnScope ["_law_cell_here", "_law_drawn", "_law_cap", "_law_many_here", "_law_k"] ["_law_cell_here"] (defScope s_l_way) := ⟨rfl, rfl, rfl, by decide +kernel, rfl, by decide +kernel, by decide +kernel⟩
abbrev s_l_labour : Stmt := topS 44
theorem sc_l_labour : FnScope ["_law_way_here", "_law_found", "_law_count", "_law_toil", "_law_step"] ["_law_way_here"] (defScope s_l_labour) := ⟨rfl, rfl, rfl, by decide +kernel, rfl, by decide +kernel, by decide +kernel⟩
abbrev s_l_way_ok : Stmt := topS 45
theorem sc_l_way_ok : FnScope ["_law_way_here", "_law_count", "_law_toil"] ["_law_way_here"] (defScope s_l_way_ok) := ⟨rfl, rfl, rfl, by decide +kernel, rfl, by decide +kernel, by decide +kernel⟩
abbrev s_l_spoilt_paces : Stmt := topS 47
theorem sc_l_spoilt_paces : FnScope ["_law_cell_here", "_law_paces", "_law_kind", "_law_at", "_law_odd", "_law_far"] ["_law_cell_here", "_law_paces"] (defScope s_l_spoilt_paces) := ⟨rfl, rfl, rfl, by decide +kernel, rfl, by decide +kernel, by decide +kernel⟩
abbrev s_l_paces_word : Stmt := topS 48
theorem sc_l_paces_word : FnScope ["_law_paces", "_law_one"] ["_law_paces"] (defScope s_l_paces_word) := ⟨rfl, rfl, rfl, by decide +kernel, rfl, by decide +kernel, by decide +kernel⟩
abbrev s_p_check_places : Stmt := topS 29
theorem sc_p_check_places : FnScope ["places", "fire", "here", "there"] ["places", "fire"] (defScope s_p_check_places) := ⟨rfl, rfl, rfl, by decide +kernel, rfl, by decide +kernel, by decide +kernel⟩
abbrev s_p_shares : Stmt := topS 30
theorem sc_p_shares : FnScope ["way", "paces", "places", "fire", "ends", "pace", "place", "end"] ["way", "paces", "places"] (defScope s_p_shares) := ⟨rfl, rfl, rfl, by decide +kernel, rfl, by decide +kernel, by decide +kernel⟩
abbrev s_l_spots : Stmt := topS 49
theorem sc_l_spots : FnScope ["_law_cell_here", "_law_many_here", "_law_whole", "_law_drawn", "_law_found", "_law_total", "_law_at", "_law_one"] ["_law_cell_here", "_law_many_here", "_law_whole"] (defScope s_l_spots) := ⟨rfl, rfl, rfl, by decide +kernel, rfl, by decide +kernel, by decide +kernel⟩
abbrev s_LAW : Stmt := topS 50
theorem sc_LAW : FnScope ["_law_script", "_law_k", "_law_one", "_law_two", "_law_three", "_law_four", "_law_five", "_law_way_here", "_law_paces", "_law_places", "_law_kind", "_law_bent", "_law_small", "_law_word_here", "_law_turn", "_law_found", "_law_goals", "_law_due", "_law_handed", "_law_at"] ["_law_script"] (defScope s_LAW) := ⟨rfl, rfl, rfl, by decide +kernel, rfl, by decide +kernel, by decide +kernel⟩
structure Bn (mg : Str → Option Value) : Prop where
  ValueError_ : mg "ValueError" = none
  abs_ : mg "abs" = none
  all_ : mg "all" = none
  bool_ : mg "bool" = none
  int_ : mg "int" = none
  isinstance_ : mg "isinstance" = none
  len_ : mg "len" = none
  list_ : mg "list" = none
  max_ : mg "max" = none
  min_ : mg "min" = none
  range_ : mg "range" = none
  sorted_ : mg "sorted" = none
  str_ : mg "str" = none
  sum_ : mg "sum" = none
  tuple_ : mg "tuple" = none
  zip_ : mg "zip" = none

theorem gcd_cut {a b : Nat} (hb : 0 < b) : ∃ g x y : Nat, 0 < g ∧ g = Nat.gcd a b ∧ a = g * x ∧ b = g * y ∧ 0 < y ∧ Nat.gcd x y = 1 := by
  have hg : 0 < Nat.gcd a b := Nat.gcd_pos_of_pos_right _ hb
  obtain ⟨x, hx⟩ := Nat.gcd_dvd_left a b
  obtain ⟨y, hy⟩ := Nat.gcd_dvd_right a b
  refine ⟨Nat.gcd a b, x, y, hg, rfl, hx, hy, ?_, ?_⟩
  · cases y with
    | zero => rw [Nat.mul_zero] at hy; omega
    | succ n => exact Nat.succ_pos n
  · have e : Nat.gcd a b * Nat.gcd x y = Nat.gcd a b * 1 := by
      have h2 : Nat.gcd (Nat.gcd a b * x) (Nat.gcd a b * y) = Nat.gcd a b * Nat.gcd x y := Nat.gcd_mul_left _ _ _
      rw [← hx, ← hy] at h2
      rw [← h2, Nat.mul_one]
    exact Nat.eq_of_mul_eq_mul_left hg e
/-- an amount in lowest terms -/
def Low (x : Int × Int) : Prop := 0 < x.2 ∧ Nat.gcd x.1.natAbs x.2.natAbs = 1
theorem amt_spec {n d : Int} (hd : d ≠ 0) : Low (amt n d) ∧ (amt n d).1 * d = n * (amt n d).2 ∧ (amt n d).1.natAbs ≤ n.natAbs ∧ (amt n d).2.natAbs ≤ d.natAbs := by
  obtain ⟨g, x, y, hg, eg, ex, ey, hy, h1⟩ := gcd_cut (a := n.natAbs) (b := d.natAbs) (by omega)
  have gi : ((g : Nat) : Int) ≠ 0 := by omega
  have e2 : (amt n d).2 = (y : Int) := by
    show ((d.natAbs : Nat) : Int) / ((Nat.gcd n.natAbs d.natAbs : Nat) : Int) = _
    rw [← eg, ey, Int.natCast_mul, Int.mul_ediv_cancel_left _ gi]
  have hyd : d.natAbs ≥ y := by
    rw [ey]; exact Nat.le_mul_of_pos_left _ hg
  have hxn : n.natAbs ≥ x := by
    rw [ex]; exact Nat.le_mul_of_pos_left _ hg
  have exi : ((n.natAbs : Nat) : Int) = (g : Int) * (x : Int) := by rw [ex, Int.natCast_mul]
  have eyi : ((d.natAbs : Nat) : Int) = (g : Int) * (y : Int) := by rw [ey, Int.natCast_mul]
  have main : ∀ (s : Int), (s = 1 ∨ s = -1) → (if d < 0 then -n else n) = s * ((g : Int) * (x : Int)) → (n = s * ((g : Int) * (x : Int)) ∧ d = (g : Int) * (y : Int) ∨ n = -(s * ((g : Int) * (x : Int))) ∧ d = -((g : Int) * (y : Int))) →
      Low (amt n d) ∧ (amt n d).1 * d = n * (amt n d).2 ∧ (amt n d).1.natAbs ≤ n.natAbs ∧ (amt n d).2.natAbs ≤ d.natAbs := by
    intro s hs e hnd
    have e1 : (amt n d).1 = s * (x : Int) := by
      show (if d < 0 then -n else n) / ((Nat.gcd n.natAbs d.natAbs : Nat) : Int) = _
      rw [← eg, e, Int.mul_left_comm, Int.mul_ediv_cancel_left _ gi]
    have ab : (s * (x : Int)).natAbs = x := by
      rcases hs with rfl | rfl
      · rw [Int.one_mul, Int.natAbs_natCast]
      · rw [Int.neg_mul, Int.one_mul, Int.natAbs_neg, Int.natAbs_natCast]
    refine ⟨⟨by rw [e2]; omega, ?_⟩, ?_, ?_, ?_⟩
    · rw [e1, e2, ab, Int.natAbs_natCast]; exact h1
    · rw [e1, e2]
      rcases hnd with ⟨a, b⟩ | ⟨a, b⟩
      · rw [a, b, Int.mul_assoc, Int.mul_assoc, Int.mul_left_comm (x : Int) (g : Int) (y : Int), Int.mul_assoc]
      · rw [a, b, Int.mul_neg, Int.neg_mul, Int.mul_assoc, Int.mul_assoc, Int.mul_left_comm (x : Int) (g : Int) (y : Int), Int.mul_assoc]
    · rw [e1, ab]; exact hxn
    · rw [e2, Int.natAbs_natCast]; exact hyd
  by_cases hdn : d < 0
  · by_cases hnn : n < 0
    · exact main 1 (.inl rfl) (by rw [if_pos hdn, Int.one_mul]; omega) (.inr ⟨by rw [Int.one_mul]; omega, by omega⟩)
    · exact main (-1) (.inr rfl) (by rw [if_pos hdn, Int.neg_mul, Int.one_mul]; omega) (.inr ⟨by rw [Int.neg_mul, Int.one_mul]; omega, by omega⟩)
  · by_cases hnn : n < 0
    · exact main (-1) (.inr rfl) (by rw [if_neg hdn, Int.neg_mul, Int.one_mul]; omega) (.inl ⟨by rw [Int.neg_mul, Int.one_mul]; omega, by omega⟩)
    · exact main 1 (.inl rfl) (by rw [if_neg hdn, Int.one_mul]; omega) (.inl ⟨by rw [Int.one_mul]; omega, by omega⟩)
/-- two amounts in lowest terms of the same worth are the same -/
theorem low_eq {x y : Int × Int} (hx : Low x) (hy : Low y) (e : x.1 * y.2 = y.1 * x.2) : x = y := by
  obtain ⟨a, b⟩ := x
  obtain ⟨c, d⟩ := y
  obtain ⟨hb, g1⟩ := hx
  obtain ⟨hd, g2⟩ := hy
  simp only at hb g1 hd g2 e
  have en : a.natAbs * d.natAbs = c.natAbs * b.natAbs := by rw [← Int.natAbs_mul, ← Int.natAbs_mul, e]
  have h1 : b.natAbs ∣ d.natAbs := by
    have : b.natAbs ∣ a.natAbs * d.natAbs := ⟨c.natAbs, by rw [en, Nat.mul_comm]⟩
    exact Nat.Coprime.dvd_of_dvd_mul_left (show Nat.Coprime b.natAbs a.natAbs by rw [Nat.Coprime, Nat.gcd_comm]; exact g1) this
  have h2 : d.natAbs ∣ b.natAbs := by
    have : d.natAbs ∣ c.natAbs * b.natAbs := ⟨a.natAbs, by rw [← en, Nat.mul_comm]⟩
    exact Nat.Coprime.dvd_of_dvd_mul_left (show Nat.Coprime d.natAbs c.natAbs by rw [Nat.Coprime, Nat.gcd_comm]; exact g2) this
  have h3 : b.natAbs = d.natAbs := Nat.dvd_antisymm h1 h2
  have h4 : b = d := by omega
  subst h4
  have h5 : a = c := Int.eq_of_mul_eq_mul_right (by omega) e
  rw [h5]
theorem amt_low {x : Int × Int} (h : Low x) : amt x.1 x.2 = x := by
  have s := amt_spec (n := x.1) (d := x.2) (by have := h.1; omega)
  exact low_eq s.1 h s.2.1
theorem amt_eq {n d m e : Int} (hd : d ≠ 0) (he : e ≠ 0) (h : n * e = m * d) : amt n d = amt m e := by
  have s := amt_spec (n := n) (d := d) hd
  have t := amt_spec (n := m) (d := e) he
  refine low_eq s.1 t.1 ?_
  -- (amt n d).1 * d = n * (amt n d).2 ; (amt m e).1 * e = m * (amt m e).2
  have key : ((amt n d).1 * (amt m e).2) * (d * e) = ((amt m e).1 * (amt n d).2) * (d * e) := by
    calc ((amt n d).1 * (amt m e).2) * (d * e) = ((amt n d).1 * d) * ((amt m e).2 * e) := by ac_rfl
      _ = (n * (amt n d).2) * ((amt m e).2 * e) := by rw [s.2.1]
      _ = (n * e) * ((amt n d).2 * (amt m e).2) := by ac_rfl
      _ = (m * d) * ((amt n d).2 * (amt m e).2) := by rw [h]
      _ = (m * (amt m e).2) * ((amt n d).2 * d) := by ac_rfl
      _ = ((amt m e).1 * e) * ((amt n d).2 * d) := by rw [t.2.1]
      _ = ((amt m e).1 * (amt n d).2) * (d * e) := by ac_rfl
  exact Int.eq_of_mul_eq_mul_right (Int.mul_ne_zero hd he) key

section
variable {P : Program} {w : World} {K : PySem.W.Frag} {T : Tb} {mg : Str → Option Value} {base : Heap}
/-! ### refusals: own error classes whose __init__ calls the base's -/
/-- C.m(e, ..), m a def read off the own class C -/
theorem pe_clsfn {X : Cx} {x m : Str} {C f : Addr} {mc : Value} {k : Nat} {fd : FuncData} {ps : List Str} {sp : Sp} {e : Expr} {es : List Expr} {t : TA} {p1 p2 pos : Pos} {pl : Sem Bool}
    (r : ClX.CRead X.K C mc) (hat : PySem.W.findCls X.K (.ref C) mc m = some (.val (.ref f))) (F : FnOk X.prog X.w X.K X.mg X.base CX0 k f fd ps sp) (hr : Room k X.A) (hg : Gl X x) (hm : X.mg x = some (.ref C))
    (hk : PySem.W.keepIn X.K (.ref f) = true) (hb : Binds X.K fd ps []) (ha : PA X (e :: es) t)
    (hc : eval (.Call (.Attribute (.Name x p1) m p2) (e :: es) [] pos) X.env = (do
      let ov ← eval (.Name x p1) X.env
      standAt p2.atName
      let (f, first) ← holding [ov] (getMethod ov m pl)
      callWith pos f first (backTo pos (starEach (e :: es) X.env)) (backToKw pos (keywordEach [] X.env))) := by rfl)
    (hdb : (x == ("__debug__" : Str)) = false := by decide) (he : starEach (e :: es) X.env = (false, eval e X.env) :: starEach es X.env := by rfl) (hpl : (backTo pos (starEach es X.env)).any (·.1) = false := by rfl) :
    PE X (.Call (.Attribute (.Name x p1) m p2) (e :: es) [] pos) (tCall sp [] E0 t) := by
  refine ⟨fun pins s σ H Q I h => ?_⟩
  refine PySem.W.methodCall_KW (ld_glob I hg hm ?_ hdb) hc
  refine PySem.W.method_cls I.kIn r.ga (PySem.W.cls_value I.kIn r.rd hat rfl ?_)
  show wpAny _ _ (callWith pos (Value.ref f) [] (backTo pos (starEach (e :: es) X.env)) []) _ _ _
  refine PySem.W.callWith_K (h₀ := X.base) I.ok.mod.kin hk (thn (ha.run pos pins _ σ H _ (I.tok _) h) fun us s1 ⟨vs, H1, I1, r1, q1⟩ => ⟨I1.kIn, ?_⟩) he hpl
  exact run_fn F hr hb .nil pass0 I1 r1 q1
/-- C(), C's own __init__ keeping sp -/
theorem pmk_oex0 {X : Cx} {x : Str} {C fI : Addr} {k : Nat} {fd : FuncData} {ps : List Str} {sp : Sp} {p pos : Pos} (T : OexC X.K C) (iC : PySem.W.findIn X.K (.ref C) "__init__" = some (some (.ref fI))) (tI : PySem.W.typeIn X.K (.ref fI) = some (.type "function"))
    (F1 : FnOk X.prog X.w X.K X.mg X.base CX0 k fI fd ps sp) (hr : Room (k + 1) X.A) (hb : Binds X.K fd ps []) (hg : Gl X x) (hm : X.mg x = some (.ref C)) (hdb : (x == ("__debug__" : Str)) = false := by decide) :
    PMk X (.Call (.Name x p) [] [] pos) (tMkO C sp [] tNil) := by
  intro pins s σ H Q I h
  obtain ⟨nm, q, N, bs, bm, sn, sub, ab, col, dd, k0, k1, k2, k3, k5, hC, hbm⟩ := T.cls
  refine wpAny_Call_Name_kw (ld_glob I hg hm ?_ hdb)
  refine PySem.W.callWith_K0 I.kIn T.kC ?_
  show wpAny _ _ (call (.ref C) []) _ _ _
  obtain ⟨hz, q1⟩ : ([] : List V).length ≤ 1000 ∧ _ := h
  obtain ⟨hp, g, dr, tk, os⟩ := s
  have hsz : hp.objs.size ≤ hp.objs.size + 1 := Nat.le_succ _
  have hn : H (hp.objs.size + 1) = none := I.hok.fresh hsz
  have hq := q1 (hp.objs.size + 1) hn
  have kk : ∀ b o, hp.get? b = some o → ((hp.push (PySem.W.kdv_tup [])).push (PySem.HandSPX.excO C hp.objs.size)).get? b = some o := fun b o e => Heap.get?_push_of_some _ (Heap.get?_push_of_some _ e)
  have hget : ((hp.push (PySem.W.kdv_tup [])).push (PySem.HandSPX.excO C hp.objs.size)).get? (hp.objs.size + 1) = some (PySem.HandSPX.excO C hp.objs.size) := by heap_get
  have I2 : Inv X pins σ (upd H (hp.objs.size + 1) (exo (hp.objs.size + 1) C none)) ⟨(hp.push (PySem.W.kdv_tup [])).push (PySem.HandSPX.excO C hp.objs.size), g, dr, tk, os⟩ :=
    I.laid (t' := tk) (a := hp.objs.size + 1) (o := exo (hp.objs.size + 1) C none) (h' := (hp.push (PySem.W.kdv_tup [])).push (PySem.HandSPX.excO C hp.objs.size)) kk hsz (exo_ok hget)
  have r2 : Vals (V.ref (hp.objs.size + 1) :: ([] ++ [])) ([Value.ref (hp.objs.size + 1)] ++ []) := .cons rfl .nil
  have hl : (Value.ref (hp.objs.size + 1) :: [] ++ []).length = ps.length := by
    have e := r2.length
    rw [F1.len _ _ _ _ hq] at e
    exact e.symm
  have hus : ([] : List Value).length ≤ sizeLine := Nat.zero_le _
  refine wpAny_call (PySem.HandSPX.call_own F.excBase_ValueError (fun Y => PySem.HandSPX.refsVE_contains Y bm hbm) (I.kIn _ _ hC) (PySem.W.looks_findIn I.kIn iC) (fun self => PySem.W.bind_fn I.kIn self tI) hus
    (codeAny_mono (F1.run _ X.stack _ _ ⟨Value.ref (hp.objs.size + 1) :: [], []⟩ ([Value.ref (hp.objs.size + 1)] ++ []) _ _ (fun _ _ _ => False) (hr.make C [] []) (I2.env0.make C [] []) (hb _ (Value.ref (hp.objs.size + 1) :: []) I2.kIn hl) r2 hq) fun r s' hq' => ?_))
  cases r with
  | error er => exact (show False from hq').elim
  | ok fl =>
    cases fl with
    | ret u =>
      obtain ⟨v, H2, os2, bare2, un2, hok2, rv, ev, d, fs, ea, ed, hd1, q2⟩ := hq'
      subst ev
      obtain ⟨h2, g2, d2, t2, os'⟩ := s'
      exact ⟨rv, mk_end (raises_own T.exC T.tyC) I hsz kk un2 hok2 os2 bare2 ea ed hd1 q2⟩
    | next => exact False.elim hq'
    | brk => exact False.elim hq'
    | cont => exact False.elim hq'
/-- what stands of a refusal that flies: its word -/
def Rf (K : PySem.W.Frag) (CP : Addr) (word : Str) (cls : Value) (d : Option Addr) (H' : Hp) : Prop :=
  ∃ C dd, cls = .ref C ∧ d = some dd ∧ XfC K C ∧ PySem.W.findIn K (.ref C) "word" = some none ∧ PySem.W.exmOne K (.ref C) (.ref CP) = some true ∧ H' dd = some (.xd [(("word" : Str), .str word)])
theorem Rf.keep {T : Tb} {K : PySem.W.Frag} {CP : Addr} {word : Str} {cls : Value} {d : Option Addr} {H H' : Hp} (h : Rf K CP word cls d H) (s : Sm T H H') : Rf K CP word cls d H' := by
  obtain ⟨C, dd, h1, h2, h3, h4, h5, h6⟩ := h
  exact ⟨C, dd, h1, h2, h3, h4, h5, s.k h6⟩
/-- the promise of PailError.__init__ and of those under it -/
def spInit2 (K : PySem.W.Frag) : Sp := fun vs H Q _ => ∃ (a C : Addr) (w : Str), vs = [.ref a, .str w] ∧ OexC K C ∧ PySem.W.findIn K (.ref C) "word" = some none ∧ H a = some (exo a C none) ∧
  ∀ dx, H dx = none → dx ≠ a → Q .non (upd (upd H dx (exd dx [(("word" : Str), .str w)])) a (exo a C (some dx)))
def spInit (w : Str) (K : PySem.W.Frag) : Sp := fun vs H Q _ => ∃ (a C : Addr), vs = [.ref a] ∧ OexC K C ∧ PySem.W.findIn K (.ref C) "word" = some none ∧ H a = some (exo a C none) ∧
  ∀ dx, H dx = none → dx ≠ a → Q .non (upd (upd H dx (exd dx [(("word" : Str), .str w)])) a (exo a C (some dx)))
/-- the error class by the name x, its word -/
structure Err (P : Program) (w : World) (K : PySem.W.Frag) (mg : Str → Option Value) (base : Heap) (CP : Addr) (x word : Str) : Prop where
  ex : ∃ (C fI : Addr) (fd : FuncData), mg x = some (.ref C) ∧ OexC K C ∧ XfC K C ∧ PySem.W.findIn K (.ref C) "word" = some none ∧ PySem.W.exmOne K (.ref C) (.ref CP) = some true ∧
    PySem.W.findIn K (.ref C) "__init__" = some (some (.ref fI)) ∧ PySem.W.typeIn K (.ref fI) = some (.type "function") ∧ FnOk P w K mg base CX0 2 fI fd ["self"] (spInit word K) ∧ Binds K fd ["self"] []
def tErr (K : PySem.W.Frag) (CP : Addr) (word : Str) : L2.St → Hp → XK → Prop := fun _ H Q => ∀ cls dd, H dd = none → Rf K CP word cls (some dd) (upd H dd (.xd [(("word" : Str), .str word)])) → Q cls (some dd) (upd H dd (.xd [(("word" : Str), .str word)]))
theorem pmk_err {X : Cx} {CP : Addr} {x word : Str} {p pos : Pos} (R : Err X.prog X.w X.K X.mg X.base CP x word) (hr : Room 3 X.A) (hg : Gl X x) (hdb : (x == ("__debug__" : Str)) = false := by decide) :
    PMk X (.Call (.Name x p) [] [] pos) (tErr X.K CP word) := by
  obtain ⟨C, fI, fd, g, oc, xf, nw, ex, iC, tI, F, b⟩ := R.ex
  intro pins s σ H Q I h
  refine pmk_oex0 (k := 2) oc iC tI F hr b hg g hdb pins s σ H Q I ⟨Nat.zero_le _, fun a ha => ⟨a, C, rfl, oc, nw, upd_same, fun dx hdx hne => ⟨rfl, dx, [(("word" : Str), .str word)], upd_same, ?_, ?_, ?_⟩⟩⟩
  · rw [upd_ne hne, upd_same]
  · rw [upd_ne hne] at hdx
    exact hdx
  · have hd : H dx = none := by
      rw [upd_ne hne] at hdx
      exact hdx
    have e : upd (L2.del (upd (upd (upd H a (exo a C none)) dx (exd dx [(("word" : Str), .str word)])) a (exo a C (some dx))) a) dx (.xd [(("word" : Str), .str word)]) = upd H dx (.xd [(("word" : Str), .str word)]) := by
      funext c
      by_cases h1 : c = dx
      · rw [h1, upd_same, upd_same]
      · rw [upd_ne h1, upd_ne h1]
        by_cases h2 : c = a
        · rw [h2, L2.del_same, ha]
        · rw [L2.del_ne h2, upd_ne h2, upd_ne h1, upd_ne h2]
    rw [e]
    exact h (.ref C) dx hd ⟨C, dx, rfl, rfl, xf, nw, ex, upd_same⟩
/-- e.word, e the refusal that the suite holds -/
def tXw (K : PySem.W.Frag) (a : Addr) (cls : Value) (d : Option Addr) (te : TE) : TE := fun σ H Q => te σ H fun x H1 => x = .ref a ∧ ∃ (C dd : Addr) (v : V), cls = .ref C ∧ XfC K C ∧ PySem.W.findIn K (.ref C) "word" = some none ∧ d = some dd ∧ H1 dd = some (.xd [(("word" : Str), v)]) ∧ Q v H1
theorem pe_xw {X : Cx} {a : Addr} {oe : Obj} {cls : Value} {d : Option Addr} {pn : List (Addr × Obj)} {e : Expr} {te : TE} {pos : Pos}
    (hz : Zc cls d oe) (hf : ∃ vs, oe.data = .fields vs) (he : PE (X.suite a ((a, oe) :: pn)) e te) (hb : attributeBase e "word" X.env (eval e X.env) = eval e X.env := by rfl) :
    PE (X.suite a ((a, oe) :: pn)) (.Attribute e "word" pos) (tXw X.K a cls d te) := by
  refine ⟨fun pins s σ H Q I h => ?_⟩
  refine attr_of hb (thn (he.run pins s σ H _ I h) fun u s1 hh => ?_)
  obtain ⟨x, H1, I1, rx, ex, C, dd, v, ec, T, hno, ed, ea, q⟩ := hh
  subst ex
  obtain rfl : u = Value.ref a := rx
  subst ec
  subst ed
  obtain ⟨ha, _⟩ := I1.pin (a, oe) (List.mem_append_left _ List.mem_cons_self)
  obtain ⟨vs, hd⟩ := hf
  have hx : ObjOk X.prog X.w H1 s1.heap dd (.xd [(("word" : Str), v)]) := I1.hok dd _ ea
  obtain ⟨mA, hns, hr⟩ := hx
  obtain ⟨od, ho, hl⟩ := lookIn_ns hns
  have l : List.lookup ("word" : Str) [(("word" : Str), v)] = some v := by simp [List.lookup]
  obtain ⟨u, hu, ru⟩ := RelO.some_of (v := v) (o := mA "word") (by rw [← l]; exact hr "word")
  have J : PySem.W.InstAt s1.heap a oe C (some od) := ⟨ha, hz.1, by unfold PySem.W.notCls; rw [hd] <;> rfl, by rw [hz.2]; exact ho⟩
  exact HandSPX.exc_get I1.kIn J T.ga T.gg T.exC (PySem.W.findObj_own T.hdC hno rfl (by rw [hl, hu])) (handed_of ru) ⟨v, H1, I1.tok _, ru, q⟩
/-! ### a def that may raise, ready to be called -/
structure Fx (P : Program) (w : World) (K : PySem.W.Frag) (mg : Str → Option Value) (base : Heap) (k : Nat) (x : Str) (ps : List Str) (sp : Sp) : Prop where
  ex : ∃ f fd, FnOk P w K mg base (L2.CX P w) k f fd ps sp ∧ mg x = some (.ref f) ∧ PySem.W.keepIn K (.ref f) = true ∧ Binds K fd ps []
theorem Fx.mk' {P : Program} {w : World} {K : PySem.W.Frag} {mg : Str → Option Value} {base : Heap} {k : Nat} {x : Str} {ps : List Str} {sp : Sp} {f : Addr} {fd : FuncData}
    (h : FnOk P w K mg base (L2.CX P w) k f fd ps sp) (g : mg x = some (.ref f)) (kp : PySem.W.keepIn K (.ref f) = true) (b : Binds K fd ps []) : Fx P w K mg base k x ps sp := ⟨⟨f, fd, h, g, kp, b⟩⟩
theorem pe_fx {X : Cx} {k : Nat} {x : Str} {ps : List Str} {sp : Sp} {e : Expr} {es : List Expr} {t : TA} {p pos : Pos} {E : XK} (F : Fx X.prog X.w X.K X.mg X.base k x ps sp) (hr : Room k X.A) (tk : Takes X (fun cls d _ H => E cls d H)) (ha : PA X (e :: es) t) (hg : Gl X x := by rfl) (hdb : (x == ("__debug__" : Str)) = false := by decide)
    (he : starEach (e :: es) X.env = (false, eval e X.env) :: starEach es X.env := by rfl) (hpl : (backTo pos (starEach es X.env)).any (·.1) = false := by rfl) :
    PE X (.Call (.Name x p) (e :: es) [] pos) (tCall sp [] E t) := by
  obtain ⟨f, fd, h, g, kp, b⟩ := F.ex
  exact pe_call h hr hg g kp b .nil (passes_call tk fun _ _ _ _ h => h) ha hdb he hpl
/-- .. where nothing is to be let out -/
theorem pe_fx0 {X : Cx} {k : Nat} {x : Str} {ps : List Str} {sp : Sp} {e : Expr} {es : List Expr} {t : TA} {p pos : Pos} (F : Fx X.prog X.w X.K X.mg X.base k x ps sp) (hr : Room k X.A) (ha : PA X (e :: es) t) (hg : Gl X x := by rfl) (hdb : (x == ("__debug__" : Str)) = false := by decide)
    (he : starEach (e :: es) X.env = (false, eval e X.env) :: starEach es X.env := by rfl) (hpl : (backTo pos (starEach es X.env)).any (·.1) = false := by rfl) :
    PE X (.Call (.Name x p) (e :: es) [] pos) (tCall sp [] E0 t) := by
  obtain ⟨f, fd, h, g, kp, b⟩ := F.ex
  exact pe_call h hr hg g kp b .nil passL ha hdb he hpl
/-! ### a def whose code object is told -/
structure FunC (K : PySem.W.Frag) (x qual : Str) (st : Stmt) (f : Addr) (fd : FuncData) (c : Addr) : Prop where
  ex : ∃ (oc : Value) (od : Option Addr) (kV doc pm : Value) (an : Option Addr) (ct : Value) (osl : Array (Option Value)),
    fd = PySem.W.fnOf x qual (defArgs st) (defBody st) (defScope st) .none kV doc pm an (.ref c) ct ∧ K.lookup f = some ⟨oc, od, .func fd, osl⟩ ∧ PySem.W.codeIn K (.ref c) qual = true
  kp : PySem.W.keepIn K (.ref f) = true
theorem FunC.ok {P : Program} {w : World} {K : PySem.W.Frag} {mg : Str → Option Value} {base : Heap} {x qual : Str} {st : Stmt} {f c : Addr} {fd : FuncData} {N ps : List Str} {k : Nat} {sp : Sp} (F : FunC K x qual st f fd c) (S : FnScope N ps (defScope st)) (len : ∀ vs H Q E, sp vs H Q E → vs.length = ps.length)
    (hbody : ∀ (A : Around) (outer : List Env) (s : Shared) (H : Hp) (vs : List V) (Q : VK) (E : XK), Room k (A.deeper (envOfC qual (defScope st) s.heap.objs.size f (.ref c))) → sp vs H Q E →
      ∃ t, PSs (cxOf CX0 P w K mg base N qual (defScope st) f (.ref c) A outer s H E).nox (defBody st) t ∧ t { nx := fun _ H' => Q .non H', rt := Q } (start N vs) H) : FnOk P w K mg base CX0 (k + 1) f fd ps sp := by
  obtain ⟨oc, od, kV, doc, pm, an, ct, osl, rfl, lk, hcd⟩ := F.ex
  refine fn_of lk hcd S len fun A outer s H vs Q E hr hsp => ?_
  obtain ⟨t, h, q⟩ := hbody A outer s H vs Q E hr hsp
  exact ⟨t, h.nox, q⟩
theorem FunC.okX {P : Program} {w : World} {K : PySem.W.Frag} {mg : Str → Option Value} {base : Heap} {x qual : Str} {st : Stmt} {f c : Addr} {fd : FuncData} {N ps : List Str} {k : Nat} {sp : Sp} (F : FunC K x qual st f fd c) (S : FnScope N ps (defScope st)) (len : ∀ vs H Q E, sp vs H Q E → vs.length = ps.length)
    (hbody : ∀ (A : Around) (outer : List Env) (s : Shared) (H : Hp) (vs : List V) (Q : VK) (E : XK), Room k (A.deeper (envOfC qual (defScope st) s.heap.objs.size f (.ref c))) → sp vs H Q E →
      ∃ t, PSs (cxOf (L2.CX P w) P w K mg base N qual (defScope st) f (.ref c) A outer s H E) (defBody st) t ∧ t { nx := fun _ H' => Q .non H', rt := Q } (start N vs) H) : FnOk P w K mg base (L2.CX P w) (k + 1) f fd ps sp := by
  obtain ⟨oc, od, kV, doc, pm, an, ct, osl, rfl, lk, hcd⟩ := F.ex
  exact fn_of lk hcd S len fun A outer s H vs Q E hr hsp => hbody A outer s H vs Q E hr hsp
theorem FunC.binds {K : PySem.W.Frag} {x qual : Str} {st : Stmt} {f c : Addr} {fd : FuncData} {ps : List Str} (F : FunC K x qual st f fd c)
    (h : ∀ (kV doc pm : Value) (an : Option Addr) (ct : Value) (us : List Value), us.length = ps.length → bindArgs (PySem.W.fnOf x qual (defArgs st) (defBody st) (defScope st) .none kV doc pm an (.ref c) ct) ⟨us, []⟩ = pure (ps.zip us)) : Binds K fd ps [] := by
  obtain ⟨oc, od, kV, doc, pm, an, ct, osl, rfl, lk, hcd⟩ := F.ex
  exact .all (h kV doc pm an ct)
theorem exm_of {K : PySem.W.Frag} {C S : Addr} (h1 : PySem.W.subIn K (.ref S) (.type "BaseException") = some true) (h2 : PySem.W.isClsIn K S = true) (h3 : PySem.W.typeIn K (.ref S) = some (.type "type")) (h4 : PySem.W.subIn K (.ref C) (.ref S) = some true) :
    PySem.W.exmOne K (.ref C) (.ref S) = some true := by
  have e1 : (PySem.W.subIn K (.ref S) (.type "BaseException") == some true) = true := by rw [h1] <;> rfl
  have e2 : ((PySem.W.clsIn K S).isSome && PySem.W.typeIn K (.ref S) == some (.type "type")) = true := by
    have h2' : (PySem.W.clsIn K S).isSome = true := h2
    rw [h2', h3] <;> rfl
  show (if (PySem.W.subIn K (.ref S) (.type "BaseException") == some true) = true then (if ((PySem.W.clsIn K S).isSome && PySem.W.typeIn K (.ref S) == some (.type "type")) = true then PySem.W.subIn K (.ref C) (.ref S) else none) else none) = some true
  rw [if_pos e1, if_pos e2]
  exact h4

/-! ### generator expressions -/
theorem sm_tabbed {T : Tb} {H H' : Hp} {P : Addr} (hn : (T.map (·.1)).Nodup) (hP : (P, (none : Option Str)) ∈ T) (ht : GxR.TabG H P) (h : GxR.Tabbed P H H') : Sm T H H' := by
  obtain ⟨ps, e, _⟩ := ht
  have ne : ∀ b o, H b = some o → nTbl o → b ≠ P := fun b o q n z => by
    rw [z, e] at q
    cases q
    exact n
  refine ⟨fun b o q n => by rw [h.2 b (ne b o q n)]; exact q, fun k p hp => ?_, fun l hl => ?_⟩
  · by_cases hb : p.1 = P
    · have ep : p = (P, none) := by
        obtain ⟨i, hi, e1⟩ := List.getElem_of_mem hp
        obtain ⟨j, hj, e2⟩ := List.getElem_of_mem hP
        have hij : i = j := by
          have a1 : (T.map (·.1))[i]? = some P := by rw [List.getElem?_map, List.getElem?_eq_getElem hi, e1]; exact congrArg some hb
          have a2 : (T.map (·.1))[j]? = some P := by rw [List.getElem?_map, List.getElem?_eq_getElem hj, e2]; rfl
          exact nd_ix hn a1 a2
        subst hij
        rw [← e1, e2]
      rw [ep]
      exact h.1
    · have q := k p hp
      obtain ⟨P', w⟩ := p
      have hb : P' ≠ P := hb
      cases w with
      | none =>
        obtain ⟨ps', a1, a2⟩ := (show GxR.TabG H P' from q)
        exact ⟨ps', by rw [h.2 _ hb]; exact a1, a2⟩
      | some w =>
        obtain ⟨ps', a1, a2, a3⟩ := (show LamX.TabS H P' w from q)
        refine ⟨ps', by rw [h.2 _ hb]; exact a1, a2, fun pos cv hc => ?_⟩
        obtain ⟨c, e1, e2⟩ := a3 pos cv hc
        refine ⟨c, e1, ?_⟩
        rw [h.2 c (ne c _ e2 (by unfold LamX.CodeO; trivial))]
        exact e2
  · by_cases z : l = P
    · obtain ⟨ps', a1, _⟩ := h.1
      rw [z, a1] at hl
      cases hl
    · rw [← h.2 l z]
      exact hl
/-- the element of a generator over ints, in the generator's frame -/
def EltI (X : Cx) (scope : Scope) (x : Str) (elt : Expr) (F : Int → Value → Prop) : Prop :=
  ∀ (cenv : Env) (A' : Around) (E' : Value → Shared → Prop) (i : Int) (t : Tok) (s₂ : Shared) (m₂ : Str → Option Value), cenv.scope = scope → cenv.globals = X.env.globals → cenv.builtins = builtinsNs → A'.handled = none → A'.depth ≤ X.A.depth + 1 → A'.units ≤ X.A.units + 8 →
    X.K.In s₂.heap → s₂.heap.NoLimit → s₂.heap.Ns mainGlobals X.mg → (∃ mb, s₂.heap.Ns builtinsNs mb ∧ ∀ y : Str, y ≠ "__name__" → mb y = bootBuiltins y) → s₂.heap.Ns cenv.locals m₂ → m₂ x = some (.int i t) →
    wpAny (model X.prog X.w) A' (eval elt cenv) (fun y s₃ => F i y ∧ Keeps s₂ s₃) E' s₂
/-- over pairs of ints -/
def EltP (X : Cx) (scope : Scope) (xa xb : Str) (elt : Expr) (f : Int → Int → Int) : Prop :=
  ∀ (cenv : Env) (A' : Around) (E' : Value → Shared → Prop) (i j : Int) (t u : Tok) (s₂ : Shared) (m₂ : Str → Option Value), cenv.scope = scope → A'.handled = none →
    (-(2 ^ 64) < i ∧ i < 2 ^ 64) → s₂.heap.Ns cenv.locals m₂ → m₂ xa = some (.int i t) → m₂ xb = some (.int j u) →
    wpAny (model X.prog X.w) A' (eval elt cenv) (fun y s₃ => (∃ v, y = .int (f i j) v) ∧ Keeps s₂ s₃) E' s₂
section
variable {X : Cx} {pins : List (Addr × Obj)} {σ : L2.St} {H : Hp} {s : Shared}
theorem gen_tup {c P : Addr} {elt iter : Expr} {x : Str} {px gpos : Pos} {scope : Scope} {pb : Int → Bool} {te : TE} {k : Nat} {Q' : Value → Shared → Prop} {R : List Int → Hp → Prop}
    (hr : Room k X.A) (TB : GxR.TabB X.base X.mg c P) (hcode : X.env.code = .ref c) (S : GxR.GenS X.env scope x) (hi : PE X iter te) (hel : EltI X scope x elt (fun i y => y = .bool (pb i)))
    (hs : ∀ v, genFold iter X.env v = pure v) (I : Inv X pins σ H s) (h : te σ H fun v H1 => ∃ (a : Addr) (ns : List Int), v = .ref a ∧ SqT X.K H1 a (ns.map V.int) ∧ GxR.TabG H1 P ∧ R ns H1)
    (hQ : ∀ ns H1 g s5, R ns H1 → (∃ (fp wr : List Addr) (G : Array GenState → Array GenState → Prop) (F : Nat → Value → Prop) (St : Nat → Shared → Prop),
      WalksS X.prog X.w X.A.in1 g fp wr G ns.length F St ∧ St 0 s5 ∧ TruthOf X.prog X.w X.A.in1 F (fun j => (ns.map pb).getD j false) ∧ ∀ s', Moved wr G s5 s' → ∃ H2, GxR.Tabbed P H1 H2 ∧ Inv X pins σ H2 s') → Q' (.ref g) s5) :
    wpAny (model X.prog X.w) X.A (eval (.GeneratorExp elt [⟨.Name x px, iter, [], 0⟩] scope gpos) X.env) Q' X.xe s := by
  refine wpAny_GeneratorExp_walksQD hr.hd S.co (closure_ok S.free) S.cell S.dot S.loc S.kind (by have := hr.dp; omega) ?_ hs
  refine thn (hi.run pins s σ H _ I h) fun xv s1 ⟨v, H1, I1, r1, q1⟩ => ?_
  obtain ⟨a, ns, rfl, hS, ⟨ps, hP, ht⟩, q1⟩ := q1
  cases r1
  obtain ⟨its, rv, hTup, hz⟩ := I1.tuple hS
  have hT : s1.heap.IsTuple a its.toArray := let ⟨o, ho, hc, n, hd⟩ := hTup; ⟨o, ho, hc, n, hd⟩
  have hlt : a < s1.heap.objs.size := by obtain ⟨_, e, _⟩ := hT; exact Heap.lt_size e
  refine wpAny_pyIter_tuple hT ?_
  have hPs : s1.heap.get? P = some { cls := .none, data := .fields ps } := I1.hok P _ hP
  have hPlt : P < s1.heap.objs.size := Heap.lt_size hPs
  let o : Obj := { cls := .type "tuple_iterator", data := .fields #[.ref a, .int 0 0] }
  show (s1.heap.push o).NoLimit ∧ _
  have hP2 : (s1.heap.push o).get? P = some { cls := .none, data := .fields ps } := Heap.get?_push_of_some _ hPs
  have cd : PySem.W.CodeHd (s1.heap.push o) c P := TB.code.keeps fun b u e => Heap.get?_push_of_some _ (I1.bk b u e)
  have lim2 : (s1.heap.push o).NoLimit := I1.nolimit.push o
  have hni : ∀ (i : Nat) (v : Value), its.toArray[i]? = some v → ∃ (z : Int) (t : Tok), ns[i]? = some z ∧ v = .int z t := fun i v hv => by
    have hv' : its[i]? = some v := by simpa using hv
    have hl : i < (ns.map V.int).length := by
      rw [rv.length]
      exact (List.getElem?_eq_some_iff.mp hv').1
    obtain ⟨u, hu, ru⟩ := rv.get (List.getElem?_eq_getElem hl)
    rw [hv'] at hu
    cases hu
    rw [List.length_map] at hl
    rw [List.getElem_map] at ru
    obtain ⟨t, e⟩ := ru
    exact ⟨ns[i], t, List.getElem?_eq_getElem hl, e⟩
  have cont : ∀ (code : Value) (h3 : Heap) (tk : Nat) (ps' : Array Value), Heap.ExtBut P (s1.heap.push o) h3 → (s1.heap.push o).objs.size ≤ h3.objs.size → h3.get? P = some { cls := .none, data := .fields ps' } → (∃ more, ps' = ps ++ more) → TriplesOk ps'.toList →
      wpAny (model X.prog X.w) X.A (builtinsFor X.env.globals X.env.builtins) (fun bi s₄ =>
        ∃ Ia fp wr n₀ Pf St₀ pz F, Value.ref s1.heap.objs.size = .ref Ia ∧ (∀ A' : Around, A'.handled = none → Walks X.prog X.w A' Ia fp wr n₀ Pf St₀) ∧ St₀ 0 s₄.heap ∧ (∀ b ∈ fp, b < s₄.heap.objs.size) ∧ s₄.heap.NoLimit ∧ cStatics ∉ wr ∧
          (∀ href : Heap, (∀ b o, s₄.heap.get? b = some o → href.get? b = some o) →
            QuietGenD X.prog X.w (genEnv scope (cloFrom X.env.cells scope.names []) s₄.heap.objs.size code bi X.env) x [] elt (List.range s₄.heap.objs.size) wr Pf pz F href (X.A.depth + 1) (X.A.units + 8)) ∧
          (∀ a h₅ tk gs, gs.bare = true → s₄.heap.objs.size < a → h₅.objs.size = a + 1 → (∀ b o, s₄.heap.get? b = some o → h₅.get? b = some o) →
            WalksS X.prog X.w X.A.in4 a (a :: s₄.heap.objs.size :: List.range s₄.heap.objs.size) (s₄.heap.objs.size :: wr) (GenOnlyQ s₄.gens.size) (passing pz n₀ 0).length
              (fun j y => ∃ i, (passing pz n₀ 0)[j]? = some i ∧ F i y) (GenAt X.prog X.w X.A.in4 a s₄.gens.size s₄.heap.objs.size (List.range s₄.heap.objs.size) wr pz n₀ F) →
            GenAt X.prog X.w X.A.in4 a s₄.gens.size s₄.heap.objs.size (List.range s₄.heap.objs.size) wr pz n₀ F 0 { s₄ with gens := s₄.gens.push gs, toks := tk, heap := h₅ } →
            Q' (.ref a) { s₄ with gens := s₄.gens.push gs, toks := tk, heap := h₅ })) X.xe { s1 with heap := h3, toks := tk } := by
    intro code h3 tk ps' hx hsz hP3 hmore ht3
    obtain ⟨bm, ob, e1, e2, e3, e4, e5, e6, e7, e8⟩ := TB.bm
    have hcP : cStatics ≠ P := fun e => by
      obtain ⟨_, hns, _⟩ := I1.nolimit
      obtain ⟨o', es, ep, ho, hd, _⟩ := hns
      rw [e, hPs] at ho
      cases ho
      cases hd
    have hcl : cStatics < s1.heap.objs.size := let ⟨_, hns, _⟩ := I1.nolimit; hns.lt
    have sz2 : (s1.heap.push o).objs.size = s1.heap.objs.size + 1 := Heap.size_push ..
    have keep3 : ∀ b u, b ≠ P → s1.heap.get? b = some u → h3.get? b = some u := fun b u hb e => hx b u hb (Heap.get?_push_of_some _ e)
    have glob3 : h3.Ns X.env.globals X.mg := by rw [I1.ok.glob]; exact ((I1.mod.glob.keeps I1.bk).push o).extBut hx TB.gP
    refine wpAny_builtinsFor (m := X.mg) glob3 e1 e2 (keep3 _ _ e4 (I1.bk _ _ e5)) e6 e7 e8 ?_
    have haP : a ≠ P := fun e => by
      obtain ⟨o', ho', hc', _⟩ := hT
      rw [e, hPs] at ho'
      cases ho'
      cases hc'
    refine ⟨s1.heap.objs.size, [s1.heap.objs.size, a], [s1.heap.objs.size], its.toArray.size, (fun i v => its.toArray[i]? = some v), (fun i h => h.IsTupleIter s1.heap.objs.size a i ∧ h.IsTuple a its.toArray), (fun _ => true), (fun i y => ∃ z, ns[i]? = some z ∧ y = .bool (pb z)), rfl, fun A' hA => Walks.tuple hA _ _ (Nat.ne_of_lt hlt) its.toArray, ?_, ?_, lim2.extBut hx hcP, ?_, ?_, ?_⟩
    · have h0 : (s1.heap.push o).IsTupleIter s1.heap.objs.size a 0 ∧ (s1.heap.push o).IsTuple a its.toArray := ⟨⟨_, Heap.get?_push_size _ rfl, rfl, rfl⟩, hT.push _⟩
      refine (Walks.tuple (prog := X.prog) (w := X.w) hr.hd _ _ (Nat.ne_of_lt hlt) its.toArray).frame _ _ _ h0 fun b hb u e => hx b u (fun z => ?_) e
      rcases List.mem_cons.mp hb with z2 | z2
      · exact Nat.ne_of_lt hPlt (z.symm.trans z2)
      · rcases List.mem_cons.mp z2 with z2 | z2
        · exact haP (z2.symm.trans z)
        · cases z2
    · intro b hb
      show b < h3.objs.size
      have sz3 : s1.heap.objs.size + 1 ≤ h3.objs.size := by rw [← sz2]; exact hsz
      rcases List.mem_cons.mp hb with z | z
      · rw [z]
        exact sz3
      · rcases List.mem_cons.mp z with z | z
        · rw [z]
          exact Nat.lt_trans hlt sz3
        · cases z
    · intro z
      rcases List.mem_cons.mp z with z | z
      · exact Nat.ne_of_lt hcl z
      · cases z
    · intro href hhref
      have up : ∀ (s₂ : Shared), (∀ b ∈ List.range h3.objs.size, b ∉ [s1.heap.objs.size] → ∀ o, href.get? b = some o → s₂.heap.get? b = some o) → ∀ b u, b ≠ P → s1.heap.get? b = some u → s₂.heap.get? b = some u := fun s₂ hk b u hb e => by
        have h1 := keep3 b u hb e
        refine hk b (List.mem_range.mpr (Heap.lt_size h1)) (fun z => ?_) u (hhref b u h1)
        rcases List.mem_cons.mp z with z | z
        · rw [z] at e
          exact Nat.lt_irrefl _ (Heap.lt_size e)
        · cases z
      refine ⟨fun A' E' i v s₂ m₂ hA _ _ hPv hn hm hk => ?_, fun A' E' i v s₂ m₂ hA hD hU hPv hp hn hm hk => ?_⟩
      · simp only [List.forIn_nil]
        exact wpAny_pure ⟨rfl, GxR.keeps_refl _⟩
      · obtain ⟨z, t, hz1, rfl⟩ := hni i v hPv
        have u2 := up s₂ hk
        have baseK : ∀ b u, X.base.get? b = some u → b ≠ P → s₂.heap.get? b = some u := fun b u e hb => u2 b u hb (I1.bk b u e)
        have nP : X.base.get? P = none := by
          cases q : X.base.get? P with
          | none => rfl
          | some u =>
            have := (I1.bs P u q).2
            rw [hP] at this
            cases this
        have baseA : ∀ b u, X.base.get? b = some u → s₂.heap.get? b = some u := fun b u e => baseK b u e (fun z => by rw [z, nP] at e; cases e)
        obtain ⟨mb, hb1, hb2⟩ := I1.mod.blt
        exact wpAny_mono (hel _ A' E' z t s₂ m₂ rfl rfl rfl hA hD hU (I1.ok.mod.kin.keeps baseA) (I1.ok.mod.nolimit.keeps baseA) (I1.mod.glob.keeps baseA) ⟨mb, hb1.keeps baseA, hb2⟩ hn hm) (fun y s3 r => ⟨⟨z, hz1, r.1⟩, r.2⟩) fun _ _ e => e
    · intro g h5 tk5 gs hgb hag hsz5 hk5 W5 hat
      simp only [GxR.passing_true, List.length_range] at W5
      have hsize : its.toArray.size = ns.length := by
        have := rv.length
        rw [List.length_map] at this
        rw [List.size_toArray]
        exact this.symm
      rw [hsize] at W5 hat
      refine hQ ns H1 g _ q1 ⟨_, _, _, _, _, W5.in4_1, hat, ?_, fun s' hm => ?_⟩
      · intro j y sj Qj Ej hy hQj
        obtain ⟨i, hij, z, hz1, rfl⟩ := hy
        obtain ⟨hj, ej⟩ := List.getElem?_eq_some_iff.mp hij
        rw [List.getElem_range] at ej
        subst ej
        have e9 : (ns.map pb).getD j false = pb z := by rw [List.getD_eq_getElem?_getD, List.getElem?_map, hz1]; rfl
        have hQ2 : Qj ((ns.map pb).getD j false) sj := hQj
        rw [e9] at hQ2
        exact wpAny_truthy_bool hQ2
      · obtain ⟨more, em⟩ := hmore
        have nwr : ∀ b u, s1.heap.get? b = some u → b ∉ h3.objs.size :: [s1.heap.objs.size] := fun b u e hb => by
          have hl := Heap.lt_size e
          rcases List.mem_cons.mp hb with z | z
          · rw [z] at hl
            have h9 : (h3.objs.size : Nat) < s1.heap.objs.size := hl
            omega
          · rcases List.mem_cons.mp z with z | z
            · rw [z] at hl
              exact Nat.lt_irrefl _ hl
            · cases z
        have J := GxR.inv_tab (more := more) (h' := s'.heap) (g' := s'.gens) (d' := s'.drawn) (t' := s'.toks) I1 hP (fun b u hb e => hm.heap b u (nwr b u e) (hk5 b u (keep3 b u hb e)))
          (by rw [← em]; exact hm.heap P _ (nwr P _ hPs) (hk5 P _ hP3)) (AllBare.movedS (I1.bare.push hgb) hm)
        rw [GxR.sh_eta s1 s' hm.os] at J
        refine ⟨upd H1 P (.tbl (ps ++ more)), ⟨⟨ps ++ more, upd_same, by rw [← em]; exact ht3⟩, fun b hb => upd_ne hb⟩, J⟩
  refine ⟨lim2, ?_⟩
  cases hf : codeAmong gpos ps.toList with
  | none =>
    refine wpAny_genexprCodeX hcode (cd.code hP2 ht) (cd.tab hP2) hf fun c' h' tk hx hge hlt hco' _ htab' _ => ?_
    obtain ⟨o1, vs, f1, tf, fl, tg, inF, tx, tt, op, _, _, _, _, _, _, _, _, _, htr, _⟩ := hco'
    exact cont _ h' tk _ hx (Nat.le_trans hge (Nat.le_of_lt hlt)) htab'.2 ⟨_, rfl⟩ htr
  | some cv =>
    refine wpAny_genexprCode_hit hcode (cd.code hP2 ht) hf ?_
    exact cont cv (s1.heap.push o) s1.toks ps (Heap.ExtBut.refl _ _) (Nat.le_refl _) hP2 ⟨#[], by simp⟩ ht
theorem all_getD (ns : List Int) (pb : Int → Bool) : (List.range ns.length).all (fun j => (ns.map pb).getD j false) = ns.all pb := by
  rw [Bool.eq_iff_iff, List.all_eq_true, List.all_eq_true]
  constructor
  · intro h z hz
    obtain ⟨j, hj, e⟩ := List.getElem_of_mem hz
    have q := h j (List.mem_range.mpr hj)
    rw [List.getD_eq_getElem?_getD, List.getElem?_map, List.getElem?_eq_getElem hj] at q
    rw [← e]
    exact q
  · intro h j hj
    have hj' := List.mem_range.mp hj
    rw [List.getD_eq_getElem?_getD, List.getElem?_map, List.getElem?_eq_getElem hj']
    exact h _ (List.getElem_mem hj')
/-- all(test for x in e), e a tuple of ints -/
def tAllI (K : PySem.W.Frag) (T : Tb) (P : Addr) (pb : Int → Bool) (te : TE) : TE := fun σ H Q => te σ H fun v H1 => ∃ (a : Addr) (ns : List Int), v = .ref a ∧ SqT K H1 a (ns.map V.int) ∧ GxR.TabG H1 P ∧ (Ok T H1 ∧ ∀ H2, Sm T H1 H2 → Q (.bl (ns.all pb)) H2)
theorem pe_allI {T : Tb} {c P : Addr} {elt iter : Expr} {x : Str} {px p pos gpos : Pos} {scope : Scope} {pb : Int → Bool} {te : TE} {k : Nat} (hn : (T.map (·.1)).Nodup) (hPT : (P, (none : Option Str)) ∈ T)
    (hr : Room k X.A) (hg : Gl X "all") (hm : X.mg "all" = none) (hb : bootBuiltins "all" = some (.builtin "all")) (TB : GxR.TabB X.base X.mg c P) (hcode : X.env.code = .ref c) (S : GxR.GenS X.env scope x) (hi : PE X iter te) (hel : EltI X scope x elt (fun i y => y = .bool (pb i)))
    (hs : ∀ v, genFold iter X.env v = pure v)
    (he : starEach [.GeneratorExp elt [⟨.Name x px, iter, [], 0⟩] scope gpos] X.env = (false, eval (.GeneratorExp elt [⟨.Name x px, iter, [], 0⟩] scope gpos) X.env) :: starEach [] X.env := by rfl) :
    PE X (.Call (.Name "all" p) [.GeneratorExp elt [⟨.Name x px, iter, [], 0⟩] scope gpos] [] pos) (tAllI X.K T P pb te) := by
  refine ⟨fun pins s σ H Q I h => ?_⟩
  refine wpAny_Call_Name_kw (ld_blt I hg hm hb ?_)
  refine PyProof.Rows.callWith_builtin1 ?_ he (by rfl)
  rw [he]
  show wpAny _ _ (spliced ((false, eval (.GeneratorExp elt [⟨.Name x px, iter, [], 0⟩] scope gpos) X.env) :: backTo pos (starEach [] X.env))) _ _ s
  refine Calls.spliced_cons (gen_tup (R := fun ns H1 => Ok T H1 ∧ ∀ H2, Sm T H1 H2 → Q (.bl (ns.all pb)) H2) hr TB hcode S hi hel hs I h fun ns H1 g s5 hR hG => ?_)
  obtain ⟨fp, wr, G, F, St, W, hst, htr, hI⟩ := hG
  refine Calls.spliced_nil ?_
  refine call_all_walkS (W.self 0 _ _ _ hst ⟨g, fp, wr, G, _, F, St, _, rfl, W, hst, htr, fun s' hmv => ?_⟩)
  obtain ⟨H2, hT, J⟩ := hI s' hmv
  refine ⟨.bl _, H2, J, rfl, ?_⟩
  rw [all_getD ns pb]
  exact hR.2 H2 (sm_tabbed hn hPT (hR.1 _ hPT) hT)
end
section
variable {X : Cx} {pins : List (Addr × Obj)} {σ : L2.St} {H : Hp} {s : Shared}
/-- a list of pairs of ints -/
def Pairs (K : PySem.W.Frag) (H : Hp) (a : Addr) (ps : List (Int × Int)) : Prop := ∃ vs : List V, SqL K H a vs ∧ vs.length = ps.length ∧ ∀ (i : Nat) (p : Int × Int), ps[i]? = some p → ∃ b, vs[i]? = some (.ref b) ∧ SqT K H b [.int p.1, .int p.2]
theorem Pairs.keep {T : Tb} {K : PySem.W.Frag} {H H' : Hp} {a : Addr} {ps : List (Int × Int)} (h : Pairs K H a ps) (s : Sm T H H') : Pairs K H' a ps := by
  obtain ⟨vs, h1, h2, h3⟩ := h
  refine ⟨vs, s.seq h1, h2, fun i p e => ?_⟩
  obtain ⟨b, e1, e2⟩ := h3 i p e
  exact ⟨b, e1, same_tup s e2⟩
theorem gen_pairs {c P : Addr} {elt iter : Expr} {xa xb : Str} {pa pb pt gpos : Pos} {kt : Nat} {scope : Scope} {f : Int → Int → Int} {te : TE} {k : Nat} {Q' : Value → Shared → Prop} {R : List (Int × Int) → Hp → Prop}
    (hr : Room k X.A) (TB : GxR.TabB X.base X.mg c P) (hcode : X.env.code = .ref c) (S : GxR.GenS X.env scope xa) (hxb : scope.names.lookup xb = some .local) (hab : xa ≠ xb) (hi : PE X iter te) (hel : EltP X scope xa xb elt f)
    (hs : ∀ v, genFold iter X.env v = pure v) (I : Inv X pins σ H s) (h : te σ H fun v H1 => ∃ (a : Addr) (qs : List (Int × Int)), v = .ref a ∧ Pairs X.K H1 a qs ∧ (∀ q ∈ qs, -(2 ^ 64) < q.1 ∧ q.1 < 2 ^ 64) ∧ GxR.TabG H1 P ∧ R qs H1)
    (hQ : ∀ qs H1 g s5, R qs H1 → (∃ (fp wr : List Addr) (G : Array GenState → Array GenState → Prop) (F : Nat → Value → Prop) (St : Nat → Shared → Prop),
      WalksS X.prog X.w X.A.in1 g fp wr G qs.length F St ∧ St 0 s5 ∧ (∀ b ∈ fp, b < s5.heap.objs.size) ∧ (∀ i v, F i v → ∃ t, v = .int ((qs.map fun (q : Int × Int) => f q.1 q.2).getD i 0) t) ∧ ∀ s', Moved wr G s5 s' → ∃ H2, GxR.Tabbed P H1 H2 ∧ Inv X pins σ H2 s') → Q' (.ref g) s5) :
    wpAny (model X.prog X.w) X.A (eval (.GeneratorExp elt [⟨.Tuple [.Name xa pa, .Name xb pb] kt pt, iter, [], 0⟩] scope gpos) X.env) Q' X.xe s := by
  refine wpAny_GeneratorExp_walksQT hr.hd S.co (closure_ok S.free) S.cell S.dot S.loc hxb hab S.kind (by have := hr.dp; omega) ?_ hs
  refine thn (hi.run pins s σ H _ I h) fun xv s1 ⟨v, H1, I1, r1, q1⟩ => ?_
  obtain ⟨a, qs, rfl, ⟨vs, hS, hvl, hvp⟩, hbd, ⟨ps, hP, ht⟩, q1⟩ := q1
  cases r1
  obtain ⟨its, rv, ⟨o0, n0, ho0, hc0, _, hd0⟩, hz⟩ := I1.list hS
  have hL : s1.heap.IsList a its.toArray := ⟨o0, ho0, hc0, n0, hd0⟩
  have hlt : a < s1.heap.objs.size := Heap.lt_size ho0
  have hlen : its.toArray.size = qs.length := by rw [List.size_toArray, ← rv.length, hvl]
  have hpair : ∀ j, j < its.toArray.size → ∃ (b : Addr) (t u : Tok) (q : Int × Int), qs[j]? = some q ∧ its.toArray[j]? = some (.ref b) ∧ s1.heap.IsTuple b #[.int q.1 t, .int q.2 u] := fun j hj => by
    have hj' : j < qs.length := by rw [← hlen]; exact hj
    obtain ⟨b, e1, e2⟩ := hvp j _ (List.getElem?_eq_getElem hj')
    obtain ⟨u', hu, ru⟩ := rv.get e1
    obtain rfl : u' = Value.ref b := ru
    obtain ⟨its2, rv2, ⟨o2, ho2, hc2, n2, hd2⟩, _⟩ := I1.tuple e2
    cases rv2 with
    | cons r1 rr =>
      cases rr with
      | cons r2 rn =>
        cases rn
        obtain ⟨t1, rfl⟩ := r1
        obtain ⟨t2, rfl⟩ := r2
        exact ⟨b, t1, t2, qs[j], List.getElem?_eq_getElem hj', by simpa using hu, ⟨o2, ho2, hc2, n2, hd2⟩⟩
  refine wpAny_pyIter_list hL ?_
  have hPs : s1.heap.get? P = some { cls := .none, data := .fields ps } := I1.hok P _ hP
  have hPlt : P < s1.heap.objs.size := Heap.lt_size hPs
  let o : Obj := { cls := .type "list_iterator", data := .fields #[.ref a, .int 0 0] }
  show (s1.heap.push o).NoLimit ∧ _
  have hP2 : (s1.heap.push o).get? P = some { cls := .none, data := .fields ps } := Heap.get?_push_of_some _ hPs
  have cd : PySem.W.CodeHd (s1.heap.push o) c P := TB.code.keeps fun b u e => Heap.get?_push_of_some _ (I1.bk b u e)
  have lim2 : (s1.heap.push o).NoLimit := I1.nolimit.push o
  let Ts : Nat → Addr := fun j => match its.toArray[j]? with | some (.ref b) => b | _ => 0
  have hTs : ∀ j, j < its.toArray.size → its.toArray[j]? = some (.ref (Ts j)) := fun j hj => by
    obtain ⟨b, t, u, q, _, e, _⟩ := hpair j hj
    show _ = some (Value.ref (match its.toArray[j]? with | some (.ref b) => b | _ => 0))
    rw [e]
  have hvals : ∃ vals : Nat → Array Value, ∀ j, j < its.toArray.size → s1.heap.IsTuple (Ts j) (vals j) ∧ ∃ (t u : Tok) (q : Int × Int), qs[j]? = some q ∧ vals j = #[.int q.1 t, .int q.2 u] := by
    have : ∀ j, ∃ va : Array Value, j < its.toArray.size → s1.heap.IsTuple (Ts j) va ∧ ∃ (t u : Tok) (q : Int × Int), qs[j]? = some q ∧ va = #[.int q.1 t, .int q.2 u] := fun j => by
      by_cases hj : j < its.toArray.size
      · obtain ⟨b, t, u, q, e1, e, e2⟩ := hpair j hj
        have eb : Ts j = b := by
          have := hTs j hj
          rw [e] at this
          cases this
          rfl
        exact ⟨_, fun _ => ⟨by rw [eb]; exact e2, t, u, q, e1, rfl⟩⟩
      · exact ⟨#[], fun z => absurd z hj⟩
    exact ⟨fun j => Classical.choose (this j), fun j hj => Classical.choose_spec (this j) hj⟩
  obtain ⟨vals, hvals⟩ := hvals
  have hTlt : ∀ j, j < its.toArray.size → Ts j < s1.heap.objs.size := fun j hj => by
    obtain ⟨⟨o', ho', _⟩, _⟩ := hvals j hj
    exact Heap.lt_size ho'
  have W : ∀ A' : Around, A'.handled = none → WalksU X.prog X.w A' s1.heap.objs.size (s1.heap.objs.size :: a :: (List.range its.toArray.size).map Ts) [s1.heap.objs.size] its.toArray.size (fun j v => j < its.toArray.size ∧ v = vals j) _ _ :=
    fun A' hA => (WalksU.listOfTuples (prog := X.prog) (w := X.w) hA s1.heap.objs.size a (Nat.ne_of_lt hlt) its.toArray Ts vals hTs (fun j hj => Nat.ne_of_lt (hTlt j hj))).bound
  have notP : ∀ b, b ∈ s1.heap.objs.size :: a :: (List.range its.toArray.size).map Ts → b ≠ P := fun b hb z => by
    rcases List.mem_cons.mp hb with z2 | z2
    · exact Nat.ne_of_lt hPlt (z.symm.trans z2)
    · rcases List.mem_cons.mp z2 with z2 | z2
      · rw [← z, z2, ho0] at hPs
        cases hPs
        cases hc0
      · obtain ⟨j, hj, e⟩ := List.mem_map.mp z2
        obtain ⟨⟨o', ho', hc', _⟩, _⟩ := hvals j (List.mem_range.mp hj)
        rw [e, z, hPs] at ho'
        cases ho'
        cases hc'
  have cont : ∀ (code : Value) (h3 : Heap) (tk : Nat) (ps' : Array Value), Heap.ExtBut P (s1.heap.push o) h3 → (s1.heap.push o).objs.size ≤ h3.objs.size → h3.get? P = some { cls := .none, data := .fields ps' } → (∃ more, ps' = ps ++ more) → TriplesOk ps'.toList →
      wpAny (model X.prog X.w) X.A (builtinsFor X.env.globals X.env.builtins) (fun bi s₄ =>
        ∃ Ia fp wr n₀ Pt St₀ Mid pz F, Value.ref s1.heap.objs.size = .ref Ia ∧ (∀ A' : Around, A'.handled = none → WalksU X.prog X.w A' Ia fp wr n₀ Pt St₀ Mid) ∧ (∀ i vals, Pt i vals → ∃ va vb, vals = #[va, vb]) ∧ St₀ 0 s₄.heap ∧ (∀ b ∈ fp, b < s₄.heap.objs.size) ∧ s₄.heap.NoLimit ∧ cStatics ∉ wr ∧
          (∀ href : Heap, (∀ b o, s₄.heap.get? b = some o → href.get? b = some o) →
            QuietGenT X.prog X.w (genEnv scope (cloFrom X.env.cells scope.names []) s₄.heap.objs.size code bi X.env) xa xb [] elt (List.range s₄.heap.objs.size) wr Pt pz F href) ∧
          (∀ a h₅ tk gs, gs.bare = true → s₄.heap.objs.size < a → h₅.objs.size = a + 1 → (∀ b o, s₄.heap.get? b = some o → h₅.get? b = some o) →
            WalksS X.prog X.w X.A.in4 a (a :: s₄.heap.objs.size :: List.range s₄.heap.objs.size) (s₄.heap.objs.size :: wr) (GenOnlyQ s₄.gens.size) (passing pz n₀ 0).length
              (fun j y => ∃ i, (passing pz n₀ 0)[j]? = some i ∧ F i y) (GenAt X.prog X.w X.A.in4 a s₄.gens.size s₄.heap.objs.size (List.range s₄.heap.objs.size) wr pz n₀ F) →
            GenAt X.prog X.w X.A.in4 a s₄.gens.size s₄.heap.objs.size (List.range s₄.heap.objs.size) wr pz n₀ F 0 { s₄ with gens := s₄.gens.push gs, toks := tk, heap := h₅ } →
            Q' (.ref a) { s₄ with gens := s₄.gens.push gs, toks := tk, heap := h₅ })) X.xe { s1 with heap := h3, toks := tk } := by
    intro code h3 tk ps' hx hsz hP3 hmore ht3
    obtain ⟨bm, ob, e1, e2, e3, e4, e5, e6, e7, e8⟩ := TB.bm
    have hcP : cStatics ≠ P := fun e => by
      obtain ⟨_, hns, _⟩ := I1.nolimit
      obtain ⟨o', es, ep, ho, hd, _⟩ := hns
      rw [e, hPs] at ho
      cases ho
      cases hd
    have hcl : cStatics < s1.heap.objs.size := let ⟨_, hns, _⟩ := I1.nolimit; hns.lt
    have sz2 : (s1.heap.push o).objs.size = s1.heap.objs.size + 1 := Heap.size_push ..
    have sz3 : s1.heap.objs.size + 1 ≤ h3.objs.size := by rw [← sz2]; exact hsz
    have keep3 : ∀ b u, b ≠ P → s1.heap.get? b = some u → h3.get? b = some u := fun b u hb e => hx b u hb (Heap.get?_push_of_some _ e)
    have glob3 : h3.Ns X.env.globals X.mg := by rw [I1.ok.glob]; exact ((I1.mod.glob.keeps I1.bk).push o).extBut hx TB.gP
    refine wpAny_builtinsFor (m := X.mg) glob3 e1 e2 (keep3 _ _ e4 (I1.bk _ _ e5)) e6 e7 e8 ?_
    refine ⟨s1.heap.objs.size, _, [s1.heap.objs.size], its.toArray.size, _, _, _, (fun _ => true), (fun i y => ∃ q t, qs[i]? = some q ∧ y = .int (f q.1 q.2) t), rfl, W, ?_, ?_, ?_, lim2.extBut hx hcP, ?_, ?_, ?_⟩
    · rintro i va ⟨hi', rfl⟩
      obtain ⟨_, t, u, q, _, e⟩ := hvals i hi'
      exact ⟨_, _, e⟩
    · have h0 : (s1.heap.push o).IsListIter s1.heap.objs.size a 0 ∧ (s1.heap.push o).IsList a its.toArray ∧ ∀ k, k < its.toArray.size → (s1.heap.push o).IsTuple (Ts k) (vals k) :=
        ⟨⟨_, Heap.get?_push_size _ rfl, rfl, rfl⟩, hL.push _, fun k hk => (hvals k hk).1.push _⟩
      exact (W X.A hr.hd).frame _ _ _ h0 fun b hb u e => hx b u (notP b hb) e
    · intro b hb
      show b < h3.objs.size
      rcases List.mem_cons.mp hb with z | z
      · rw [z]
        exact sz3
      · rcases List.mem_cons.mp z with z | z
        · rw [z]
          exact Nat.lt_trans hlt sz3
        · obtain ⟨j, hj, e⟩ := List.mem_map.mp z
          rw [← e]
          exact Nat.lt_trans (hTlt j (List.mem_range.mp hj)) sz3
    · intro z
      rcases List.mem_cons.mp z with z | z
      · exact Nat.ne_of_lt hcl z
      · cases z
    · intro href hhref
      refine ⟨fun A' E' i va vb s₂ m₂ hA hPv hn hma hmb hk => ?_, fun A' E' i va vb s₂ m₂ hA hPv hp hn hma hmb hk => ?_⟩
      · simp only [List.forIn_nil]
        exact wpAny_pure ⟨rfl, GxR.keeps_refl _⟩
      · obtain ⟨hi', ev⟩ := hPv
        obtain ⟨_, t, u, q, hq, e⟩ := hvals i hi'
        rw [e] at ev
        obtain ⟨rfl, rfl⟩ : va = .int q.1 t ∧ vb = .int q.2 u := by simpa using congrArg Array.toList ev
        exact wpAny_mono (hel _ A' E' q.1 q.2 t u s₂ m₂ rfl hA (hbd q (List.mem_of_getElem? hq)) hn hma hmb) (fun y s3 r => ⟨let ⟨v, hv⟩ := r.1; ⟨q, v, hq, hv⟩, r.2⟩) fun _ _ e => e
    · intro g h5 tk5 gs hgb hag hsz5 hk5 W5 hat
      simp only [GxR.passing_true, List.length_range] at W5
      rw [hlen] at W5 hat
      refine hQ qs H1 g _ q1 ⟨_, _, _, _, _, W5.in4_1, hat, ?_, ?_, fun s' hm => ?_⟩
      · intro b hb
        show b < h5.objs.size
        have hag' : h3.objs.size < g := hag
        rcases List.mem_cons.mp hb with z | z
        · rw [z, hsz5]
          exact Nat.lt_succ_self _
        · rcases List.mem_cons.mp z with z | z
          · rw [z, hsz5]
            exact Nat.lt_succ_of_lt hag'
          · rw [hsz5]
            exact Nat.lt_succ_of_lt (Nat.lt_trans (List.mem_range.mp z) hag')
      · intro j y hy
        obtain ⟨i, hij, q, t, hq, rfl⟩ := hy
        obtain ⟨hj, ej⟩ := List.getElem?_eq_some_iff.mp hij
        rw [List.getElem_range] at ej
        subst ej
        exact ⟨t, by rw [List.getD_eq_getElem?_getD, List.getElem?_map, hq]; rfl⟩
      · obtain ⟨more, em⟩ := hmore
        have nwr : ∀ b u, s1.heap.get? b = some u → b ∉ h3.objs.size :: [s1.heap.objs.size] := fun b u e hb => by
          have hl := Heap.lt_size e
          rcases List.mem_cons.mp hb with z | z
          · rw [z] at hl
            have h9 : (h3.objs.size : Nat) < s1.heap.objs.size := hl
            omega
          · rcases List.mem_cons.mp z with z | z
            · rw [z] at hl
              exact Nat.lt_irrefl _ hl
            · cases z
        have J := GxR.inv_tab (more := more) (h' := s'.heap) (g' := s'.gens) (d' := s'.drawn) (t' := s'.toks) I1 hP (fun b u hb e => hm.heap b u (nwr b u e) (hk5 b u (keep3 b u hb e)))
          (by rw [← em]; exact hm.heap P _ (nwr P _ hPs) (hk5 P _ hP3)) (AllBare.movedS (I1.bare.push hgb) hm)
        rw [GxR.sh_eta s1 s' hm.os] at J
        refine ⟨upd H1 P (.tbl (ps ++ more)), ⟨⟨ps ++ more, upd_same, by rw [← em]; exact ht3⟩, fun b hb => upd_ne hb⟩, J⟩
  refine ⟨lim2, ?_⟩
  cases hf : codeAmong gpos ps.toList with
  | none =>
    refine wpAny_genexprCodeX hcode (cd.code hP2 ht) (cd.tab hP2) hf fun c' h' tk hx hge hlt hco' _ htab' _ => ?_
    obtain ⟨o1, vs, f1, tf, fl, tg, inF, tx, tt, op, _, _, _, _, _, _, _, _, _, htr, _⟩ := hco'
    exact cont _ h' tk _ hx (Nat.le_trans hge (Nat.le_of_lt hlt)) htab'.2 ⟨_, rfl⟩ htr
  | some cv =>
    refine wpAny_genexprCode_hit hcode (cd.code hP2 ht) hf ?_
    exact cont cv (s1.heap.push o) s1.toks ps (Heap.ExtBut.refl _ _) (Nat.le_refl _) hP2 ⟨#[], by simp⟩ ht
/-- sum(elt for a, b in e), e a list of pairs of ints -/
def tSumP (K : PySem.W.Frag) (T : Tb) (P : Addr) (f : Int → Int → Int) (te : TE) : TE := fun σ H Q => te σ H fun v H1 => ∃ (a : Addr) (qs : List (Int × Int)), v = .ref a ∧ Pairs K H1 a qs ∧ (∀ q ∈ qs, -(2 ^ 64) < q.1 ∧ q.1 < 2 ^ 64) ∧ GxR.TabG H1 P ∧
  ((Ok T H1 ∧ ∀ j, j < qs.length → InLong ((qs.map fun (q : Int × Int) => f q.1 q.2).getD j 0) ∧ InLong (((qs.map fun (q : Int × Int) => f q.1 q.2).take (j + 1)).sum)) ∧ ∀ H2, Sm T H1 H2 → Q (.int (qs.map fun (q : Int × Int) => f q.1 q.2).sum) H2)
theorem pe_sumP {T : Tb} {c P : Addr} {elt iter : Expr} {xa xb : Str} {pa pb pt p pos gpos : Pos} {kt : Nat} {scope : Scope} {f : Int → Int → Int} {te : TE} {k : Nat} (hn : (T.map (·.1)).Nodup) (hPT : (P, (none : Option Str)) ∈ T)
    (hr : Room k X.A) (hg : Gl X "sum") (hm : X.mg "sum" = none) (hb : bootBuiltins "sum" = some (.builtin "sum")) (TB : GxR.TabB X.base X.mg c P) (hcode : X.env.code = .ref c) (S : GxR.GenS X.env scope xa) (hxb : scope.names.lookup xb = some .local) (hab : xa ≠ xb) (hi : PE X iter te) (hel : EltP X scope xa xb elt f)
    (hs : ∀ v, genFold iter X.env v = pure v)
    (he : starEach [.GeneratorExp elt [⟨.Tuple [.Name xa pa, .Name xb pb] kt pt, iter, [], 0⟩] scope gpos] X.env = (false, eval (.GeneratorExp elt [⟨.Tuple [.Name xa pa, .Name xb pb] kt pt, iter, [], 0⟩] scope gpos) X.env) :: starEach [] X.env := by rfl) :
    PE X (.Call (.Name "sum" p) [.GeneratorExp elt [⟨.Tuple [.Name xa pa, .Name xb pb] kt pt, iter, [], 0⟩] scope gpos] [] pos) (tSumP X.K T P f te) := by
  refine ⟨fun pins s σ H Q I h => ?_⟩
  refine wpAny_Call_Name_kw (ld_blt I hg hm hb ?_)
  refine PyProof.Rows.callWith_builtin1 ?_ he (by rfl)
  rw [he]
  show wpAny _ _ (spliced ((false, eval (.GeneratorExp elt [⟨.Tuple [.Name xa pa, .Name xb pb] kt pt, iter, [], 0⟩] scope gpos) X.env) :: backTo pos (starEach [] X.env))) _ _ s
  refine Calls.spliced_cons (gen_pairs (R := fun qs H1 => (Ok T H1 ∧ ∀ j, j < qs.length → InLong ((qs.map fun (q : Int × Int) => f q.1 q.2).getD j 0) ∧ InLong (((qs.map fun (q : Int × Int) => f q.1 q.2).take (j + 1)).sum)) ∧ ∀ H2, Sm T H1 H2 → Q (.int (qs.map fun (q : Int × Int) => f q.1 q.2).sum) H2) hr TB hcode S hxb hab hi hel hs I h fun qs H1 g s5 hR hG => ?_)
  obtain ⟨fp, wr, G, F, St, W, hst, hfp, hval, hI⟩ := hG
  refine Calls.spliced_nil ?_
  refine call_sum_walkS (W.self 0 _ _ _ hst ⟨g, fp, wr, G, _, F, St, (fun i => (qs.map fun (q : Int × Int) => f q.1 q.2).getD i 0), rfl, W, hst, hfp, hval, fun j hj => ⟨(hR.1.2 j hj).1, by rw [preSum_getD]; exact (hR.1.2 j hj).2⟩, fun s' t' hmv => ?_⟩)
  obtain ⟨H2, hT, J⟩ := hI s' hmv
  refine ⟨.int _, H2, J, ⟨t', rfl⟩, ?_⟩
  rw [preSum_getD, show qs.length = (qs.map fun (q : Int × Int) => f q.1 q.2).length by rw [List.length_map], List.take_length]
  exact hR.2 H2 (sm_tabbed hn hPT (hR.1.1 _ hPT) hT)
end
def genB (scope : Scope) (x : Str) : Bool := decide (scope.kind = .function) && !scope.isCoroutine && (scope.names.all fun y => !decide (y.2 = .cell) && !decide (y.2 = .free)) && decide (scope.names.lookup (".0" : Str) = some .local) && decide (scope.names.lookup x = some .local)
theorem gens_by {env : Env} {scope : Scope} {x : Str} (h : genB scope x = true) : GxR.GenS env scope x := by
  unfold genB at h
  simp only [Bool.and_eq_true, Bool.not_eq_true', decide_eq_true_eq, decide_eq_false_iff_not, List.all_eq_true] at h
  obtain ⟨⟨⟨⟨h1, h2⟩, h3⟩, h4⟩, h5⟩ := h
  exact ⟨h1, h2, fun y hy => (h3 y hy).1, h4, h5, fun y hy e => absurd e (h3 y hy).2⟩

/-! ### elements of generator expressions, in the model's own words -/
section
variable {X : Cx} {scope : Scope} {xa xb : Str} {p1 p2 p3 : Pos}
theorem ldl {M : Model} {s : Shared} {env : Env} {m : Str → Option Value} {x : Str} {pos : Pos} {v : Value} {Q : Value → Shared → Prop} {A : Around} {E : Value → Shared → Prop} (hk : env.scope.kind = .function) (hl : env.kindOf x = some .local) (hn : s.heap.Ns env.locals m) (hv : m x = some v) (h : Q v s)
    (hd : (x == ("__debug__" : Str)) = false := by decide) : wpAny M A (eval (.Name x pos) env) Q E s := wpAny_Name (wpAny_loadName_local hk hl hn hv h) hd
theorem elt_first (hk : scope.kind = .function) (hl : scope.names.lookup xa = some .local) (hd : (xa == ("__debug__" : Str)) = false := by decide) : EltP X scope xa xb (.Name xa p1) (fun i _ => i) := by
  intro cenv A' E' i j t u s₂ m₂ hs hA hb hn hma hmb
  exact ldl (by rw [hs]; exact hk) (show cenv.scope.names.lookup xa = some .local by rw [hs]; exact hl) hn hma ⟨⟨t, rfl⟩, GxR.keeps_refl _⟩ hd
theorem elt_mul (hk : scope.kind = .function) (hl : scope.names.lookup xa = some .local) (hl2 : scope.names.lookup xb = some .local) (hd : (xa == ("__debug__" : Str)) = false := by decide) (hd2 : (xb == ("__debug__" : Str)) = false := by decide) :
    EltP X scope xa xb (.BinOp (.Name xa p1) .Mult (.Name xb p2) p3) (fun i j => i * j) := by
  intro cenv A' E' i j t u s₂ m₂ hs hA hb hn hma hmb
  refine wpAny_BinOp ?_
  refine ldl (by rw [hs]; exact hk) (show cenv.scope.names.lookup xa = some .local by rw [hs]; exact hl) hn hma ?_ hd
  refine ldl (by rw [hs]; exact hk) (show cenv.scope.names.lookup xb = some .local by rw [hs]; exact hl2) hn hmb ?_ hd2
  exact mul_int ⟨⟨_, rfl⟩, GxR.keeps_tok _ _⟩ (show CMul i j from .inl hb).ok
end
/-- isinstance(x, T) of an int at the name x -/
theorem isi_int {prog : Program} {w : World} {K : PySem.W.Frag} {A : Around} {E : Value → Shared → Prop} {s : Shared} {env : Env} {m mg mb : Str → Option Value} {x T : Str} {Ts : String} {i : Int} {t : Tok} {b : Bool} {q1 q2 q3 q4 : Pos} {Q : Value → Shared → Prop}
    (KX : K.In s.heap) (hk : env.scope.kind = .function) (hl : env.kindOf x = some .local) (hn : s.heap.Ns env.locals m) (hv : m x = some (.int i t)) (hg : s.heap.Ns env.globals mg) (hb : s.heap.Ns env.builtins mb) (hbb : ∀ y : Str, y ≠ "__name__" → mb y = bootBuiltins y)
    (gi : env.kindOf "isinstance" = some .globalImplicit) (gT : env.kindOf T = some .globalImplicit) (mi : mg "isinstance" = none) (mT : mg T = none) (hT : bootBuiltins T = some (.type Ts)) (hTn : T ≠ "__name__") (kt : kitB "int" Ts = some b)
    (h : ∀ tk, Q (.bool b) { s with toks := tk }) (hd : (x == ("__debug__" : Str)) = false) (hdT : (T == ("__debug__" : Str)) = false)
    (he1 : starEach [.Name x q2, .Name T q3] env = (false, eval (.Name x q2) env) :: starEach [.Name T q3] env := by rfl) (he2 : starEach [.Name T q3] env = [(false, eval (.Name T q3) env)] := by rfl) :
    wpAny (model prog w) A (eval (.Call (.Name "isinstance" q1) [.Name x q2, .Name T q3] [] q4) env) Q E s := by
  refine wpAny_Call_Name_kw (Calls.Name_function_global hk gi (Calls.loadGlobal_builtin hg mi hb ((hbb "isinstance" (by decide)).trans (by decide +kernel : bootBuiltins "isinstance" = some (.builtin "isinstance"))) ?_))
  refine PyProof.Rows.callWith_builtin1 ?_ he1 (by rw [he2]; rfl)
  rw [he1, he2]
  show wpAny _ _ (spliced ((false, eval (.Name x q2) env) :: (false, eval (.Name T q3) env) :: [])) _ _ s
  refine Calls.spliced_cons (ldl hk hl hn hv (Calls.spliced_cons (Calls.Name_function_global hk gT (Calls.loadGlobal_builtin hg mT hb ((hbb T hTn).trans hT) (Calls.spliced_nil ?_)) hdT)) hd)
  exact PySem.W.kia_one PySem.W.kitx_int KX True.intro (kit_ty kt) (fun z => nomatch z) h
/-- the text of is_number -/
def numBody (n0 n1 n2 n3 n4 n5 n6 n7 n8 n9 n10 : Pos) : List Stmt := [.Return (some (.BoolOp .And [.Call (.Name "isinstance" n0) [.Name "thing" n1, .Name "int" n2] [] n3, .UnaryOp .Not (.Call (.Name "isinstance" n4) [.Name "thing" n5, .Name "bool" n6] [] n7) n8] n9)) n10]
def numArgs (p : Pos) : Arguments := { posonlyargs := [], args := [{ arg := "thing", annotation := none, pos := p }], vararg := none, kwonlyargs := [], kw_defaults := [], kwarg := none, defaults := [] }
def numScope : Scope := { kind := .function, names := [(PySem.Str.ofString "thing", .local), (PySem.Str.ofString "isinstance", .globalImplicit), (PySem.Str.ofString "int", .globalImplicit), (PySem.Str.ofString "bool", .globalImplicit)], isGenerator := false, isCoroutine := false, more := [] }
/-- what of is_number's text the walk needs -/
def NumAt (K : PySem.W.Frag) (f : Addr) : Prop := ∃ (oc : Value) (od : Option Addr) (kV doc pm : Value) (an : Option Addr) (cdv ct : Value) (osl : Array (Option Value)) (p n0 n1 n2 n3 n4 n5 n6 n7 n8 n9 n10 : Pos),
  K.lookup f = some ⟨oc, od, .func (PySem.W.fnOf "is_number" "is_number" (numArgs p) (numBody n0 n1 n2 n3 n4 n5 n6 n7 n8 n9 n10) numScope .none kV doc pm an cdv ct), osl⟩ ∧ PySem.W.codeIn K cdv "is_number" = true
theorem num_call {prog : Program} {w : World} {K : PySem.W.Frag} {mg mb : Str → Option Value} {A : Around} {E : Value → Shared → Prop} {s : Shared} {f : Addr} {i : Int} {t : Tok} {Q : Value → Shared → Prop} (N : NumAt K f) (KX : K.In s.heap) (hlim : s.heap.NoLimit) (hg : s.heap.Ns mainGlobals mg)
    (hb : s.heap.Ns builtinsNs mb) (hbb : ∀ y : Str, y ≠ "__name__" → mb y = bootBuiltins y) (mi : mg "isinstance" = none) (m1 : mg "int" = none) (m2 : mg "bool" = none) (hroom : A.depth < recursionLimit) (hq : ∀ s', Keeps s s' → Q (.bool true) s') :
    wpAny (model prog w) A (call (.ref f) [.int i t]) Q E s := by
  obtain ⟨oc, od, kV, doc, pm, an, cdv, ct, osl, p, n0, n1, n2, n3, n4, n5, n6, n7, n8, n9, n10, lk, hcd⟩ := N
  refine wpAny_call ?_
  refine Att.call_fn (binds := [("thing", .int i t)]) KX hlim lk hcd hroom (BindsTo.of_eq (by first | rfl | with_unfolding_all rfl)) (by first | rfl | decide | with_unfolding_all rfl) (fun s₁ IC => ?_) rfl rfl rfl
  obtain ⟨h₁, tk₁, rfl⟩ := IC.toInCall.same
  have kp : ∀ b o, s.heap.get? b = some o → h₁.get? b = some o := IC.toInCall.keep
  have hn := IC.toInCall.ns
  show wpAny _ _ (execs _ _) _ _ _
  refine wpAny_execs_cons (wpAny_Return_some ?_)
  refine BoolOp_and ?_
  refine isi_int (mg := mg) (mb := mb) (b := true) (KX.keeps kp) rfl rfl hn (by first | rfl | with_unfolding_all rfl | kernel_rfl) (hg.keeps kp) (hb.keeps kp) hbb rfl rfl mi m1 (by decide +kernel : bootBuiltins "int" = some (.type "int")) (by decide) kb_int_int (fun tk => ?_) (by decide) (by decide)
  refine wpAny_truthy_bool ?_
  show wpAny _ _ (eval (.BoolOp .And [.UnaryOp .Not (.Call (.Name "isinstance" n4) [.Name "thing" n5, .Name "bool" n6] [] n7) n8] n9) _) _ _ _
  refine BoolOp_one (UnaryOp_ ?_)
  refine isi_int (mg := mg) (mb := mb) (b := false) (KX.keeps kp) rfl rfl hn (by first | rfl | with_unfolding_all rfl | kernel_rfl) (hg.keeps kp) (hb.keeps kp) hbb rfl rfl mi m2 (by decide +kernel : bootBuiltins "bool" = some (.type "bool")) (by decide) kb_int_bool (fun tk => ?_) (by decide) (by decide)
  refine not_of (wpAny_truthy_bool ?_)
  exact hq _ ⟨h₁, tk, rfl, kp⟩
/-- the text of is_within -/
def withBody (n0 n1 n2 n3 n4 n5 n6 n7 n8 : Pos) : List Stmt := [.Return (some (.BoolOp .And [.Call (.Name "is_number" n0) [.Name "thing" n1] [] n2, .Compare (.Name "least" n3) [.LtE, .LtE] [.Name "thing" n4, .Name "most" n5] n6] n7)) n8]
def withArgs (p1 p2 p3 : Pos) : Arguments := { posonlyargs := [], args := [{ arg := "thing", annotation := none, pos := p1 }, { arg := "least", annotation := none, pos := p2 }, { arg := "most", annotation := none, pos := p3 }], vararg := none, kwonlyargs := [], kw_defaults := [], kwarg := none, defaults := [] }
def withScope : Scope := { kind := .function, names := [(PySem.Str.ofString "thing", .local), (PySem.Str.ofString "least", .local), (PySem.Str.ofString "most", .local), (PySem.Str.ofString "is_number", .globalImplicit)], isGenerator := false, isCoroutine := false, more := [] }
def WithAt (K : PySem.W.Frag) (f : Addr) : Prop := ∃ (oc : Value) (od : Option Addr) (kV doc pm : Value) (an : Option Addr) (cdv ct : Value) (osl : Array (Option Value)) (p1 p2 p3 n0 n1 n2 n3 n4 n5 n6 n7 n8 : Pos),
  K.lookup f = some ⟨oc, od, .func (PySem.W.fnOf "is_within" "is_within" (withArgs p1 p2 p3) (withBody n0 n1 n2 n3 n4 n5 n6 n7 n8) withScope .none kV doc pm an cdv ct), osl⟩ ∧ PySem.W.codeIn K cdv "is_within" = true
theorem with_call {prog : Program} {w : World} {K : PySem.W.Frag} {mg mb : Str → Option Value} {A : Around} {E : Value → Shared → Prop} {s : Shared} {f fn : Addr} {i l n : Int} {t tl tn : Tok} {Q : Value → Shared → Prop} (Wt : WithAt K f) (N : NumAt K fn) (kN : PySem.W.keepIn K (.ref fn) = true) (gN : mg "is_number" = some (.ref fn)) (KX : K.In s.heap) (hlim : s.heap.NoLimit) (hg : s.heap.Ns mainGlobals mg)
    (hb : s.heap.Ns builtinsNs mb) (hbb : ∀ y : Str, y ≠ "__name__" → mb y = bootBuiltins y) (mi : mg "isinstance" = none) (m1 : mg "int" = none) (m2 : mg "bool" = none) (hroom : A.depth + 1 < recursionLimit) (hq : ∀ s', Keeps s s' → Q (.bool (decide (l ≤ i) && decide (i ≤ n))) s') :
    wpAny (model prog w) A (call (.ref f) [.int i t, .int l tl, .int n tn]) Q E s := by
  obtain ⟨oc, od, kV, doc, pm, an, cdv, ct, osl, p1, p2, p3, n0, n1, n2, n3, n4, n5, n6, n7, n8, lk, hcd⟩ := Wt
  refine wpAny_call ?_
  refine Att.call_fn (binds := [("thing", .int i t), ("least", .int l tl), ("most", .int n tn)]) KX hlim lk hcd (by omega) (BindsTo.of_eq (by first | rfl | with_unfolding_all rfl)) (by first | rfl | decide | with_unfolding_all rfl) (fun s₁ IC => ?_) rfl rfl rfl
  obtain ⟨h₁, tk₁, rfl⟩ := IC.toInCall.same
  have kp : ∀ b o, s.heap.get? b = some o → h₁.get? b = some o := IC.toInCall.keep
  have hn := IC.toInCall.ns
  have hlim1 : h₁.NoLimit := hlim.keeps kp
  have hg1 := hg.keeps kp
  show wpAny _ _ (execs _ _) _ _ _
  refine wpAny_execs_cons (wpAny_Return_some ?_)
  refine BoolOp_and ?_
  refine wpAny_Call_Name_kw (Calls.Name_function_global rfl rfl (Calls.loadGlobal_global hg1 gN ?_))
  refine PySem.W.callWith_K (h₀ := h₁) (KX.keeps kp) kN ?_ (by rfl) (by rfl)
  show wpAny _ _ (spliced ((false, eval (.Name "thing" n1) _) :: [])) _ _ _
  refine Calls.spliced_cons (ldl (v := .int i t) rfl rfl hn (by first | rfl | with_unfolding_all rfl | kernel_rfl) (Calls.spliced_nil ⟨KX.keeps kp, ?_⟩) (by decide))
  refine num_call N (KX.keeps kp) hlim1 hg1 (hb.keeps kp) hbb mi m1 m2 (by show A.depth + 1 < _; omega) (fun s' hks => ?_)
  obtain ⟨h', tk', rfl, hkp⟩ := hks
  refine wpAny_truthy_bool ?_
  show wpAny _ _ (eval (.BoolOp .And [.Compare (.Name "least" n3) [.LtE, .LtE] [.Name "thing" n4, .Name "most" n5] n6] n7) _) _ _ _
  refine BoolOp_one ?_
  have kp2 : ∀ b o, s.heap.get? b = some o → h'.get? b = some o := fun b o e => hkp b o (kp b o e)
  refine Compare_chain (ldl (v := .int l tl) rfl rfl (hn.keeps hkp) (by first | rfl | with_unfolding_all rfl | kernel_rfl) (chain_link (ldl (v := .int i t) rfl rfl (hn.keeps hkp) (by first | rfl | with_unfolding_all rfl | kernel_rfl) (le_int (wpAny_truthy_bool ?_)) (by decide))) (by decide)) (by with_unfolding_all rfl)
  by_cases h1 : l ≤ i
  · rw [if_pos (decide_eq_true h1)]
    refine chain_last (ldl (v := .int n tn) rfl rfl (hn.keeps hkp) (by first | rfl | with_unfolding_all rfl | kernel_rfl) ?_ (by decide))
    refine le_int ?_
    have := hq ⟨h', s.gens, s.drawn, tk', s.os⟩ ⟨h', tk', rfl, kp2⟩
    rw [decide_eq_true h1, Bool.true_and] at this
    exact this
  · rw [if_neg (fun z => h1 (of_decide_eq_true z))]
    have := hq ⟨h', s.gens, s.drawn, tk', s.os⟩ ⟨h', tk', rfl, kp2⟩
    rw [decide_eq_false h1, Bool.false_and] at this
    show _
    rw [decide_eq_false h1]
    exact this
/-- is_within(x, 1, MOST) -/
theorem elt_num {X : Cx} {scope : Scope} {x M : Str} {f fn : Addr} {n : Int} {tn : Tok} {q0 q1 q2 q3 q4 : Pos} {k : Nat} (hr : Room k X.A) (Wt : WithAt X.K f) (kW : PySem.W.keepIn X.K (.ref f) = true) (gW : X.mg "is_within" = some (.ref f)) (N : NumAt X.K fn) (kp : PySem.W.keepIn X.K (.ref fn) = true) (gf : X.mg "is_number" = some (.ref fn)) (gM : X.mg M = some (.int n tn)) (hglob : X.env.globals = mainGlobals)
    (mi : X.mg "isinstance" = none) (m1 : X.mg "int" = none) (m2 : X.mg "bool" = none) (hk : scope.kind = .function) (hl : scope.names.lookup x = some .local) (hf : scope.names.lookup ("is_within" : Str) = some .globalImplicit) (hM : scope.names.lookup M = some .globalImplicit)
    (hd : (x == ("__debug__" : Str)) = false := by decide) (hdM : (M == ("__debug__" : Str)) = false := by decide) :
    EltI X scope x (.Call (.Name "is_within" q0) [.Name x q1, .Constant (.int 1) 0 q2, .Name M q3] [] q4) (fun i y => y = .bool (decide (1 ≤ i) && decide (i ≤ n))) := by
  intro cenv A' E' i t s₂ m₂ hs hG hB hA hD hU KX hlim hg hbl hn hm
  obtain ⟨mb, hb, hbb⟩ := hbl
  have hk' : cenv.scope.kind = .function := by rw [hs]; exact hk
  have hl' : cenv.kindOf x = some .local := show cenv.scope.names.lookup x = some .local by rw [hs]; exact hl
  have hf' : cenv.kindOf "is_within" = some .globalImplicit := show cenv.scope.names.lookup ("is_within" : Str) = _ by rw [hs]; exact hf
  have hM' : cenv.kindOf M = some .globalImplicit := show cenv.scope.names.lookup M = _ by rw [hs]; exact hM
  have hg' : s₂.heap.Ns cenv.globals X.mg := by rw [hG, hglob]; exact hg
  refine wpAny_Call_Name_kw (Calls.Name_function_global hk' hf' (Calls.loadGlobal_global hg' gW ?_))
  refine PySem.W.callWith_K (h₀ := s₂.heap) KX kW ?_ (by rfl) (by rfl)
  show wpAny _ _ (spliced ((false, eval (.Name x q1) cenv) :: (false, eval (.Constant (.int 1) 0 q2) cenv) :: (false, eval (.Name M q3) cenv) :: [])) _ _ s₂
  refine Calls.spliced_cons (ldl hk' hl' hn hm (Calls.spliced_cons (wpAny_Constant_int (Calls.spliced_cons (Calls.Name_function_global hk' hM' (Calls.loadGlobal_global hg' gM (Calls.spliced_nil ⟨KX, ?_⟩)) hdM)))) hd)
  exact with_call Wt N kp gf KX hlim hg hb hbb mi m1 m2 (by have := hr.dp; omega) (fun s' hks => ⟨rfl, hks⟩)

/-! ### x(lambda: body), the tables kept -/
theorem sm_lam {T : Tb} {H H' : Hp} {P : Addr} {q : Str} (hn : (T.map (·.1)).Nodup) (hP : (P, some q) ∈ T) (ht : LamX.TabS H P q) (h1 : LamX.TabS H' P q) (h2 : ∀ b o, b ≠ P → H b = some o → H' b = some o) : Sm T H H' := by
  obtain ⟨ps, e, _⟩ := ht
  have ne : ∀ b o, H b = some o → nTbl o → b ≠ P := fun b o q n z => by
    rw [z, e] at q
    cases q
    exact n
  refine ⟨fun b o q n => h2 b o (ne b o q n) q, fun k p hp => ?_, fun l hl => ?_⟩
  · by_cases hb : p.1 = P
    · have ep : p = (P, some q) := by
        obtain ⟨i, hi, e1⟩ := List.getElem_of_mem hp
        obtain ⟨j, hj, e2⟩ := List.getElem_of_mem hP
        have hij : i = j := by
          have a1 : (T.map (·.1))[i]? = some P := by rw [List.getElem?_map, List.getElem?_eq_getElem hi, e1]; exact congrArg some hb
          have a2 : (T.map (·.1))[j]? = some P := by rw [List.getElem?_map, List.getElem?_eq_getElem hj, e2]; rfl
          exact nd_ix hn a1 a2
        subst hij
        rw [← e1, e2]
      rw [ep]
      exact h1
    · have z := k p hp
      obtain ⟨P', w⟩ := p
      have hb : P' ≠ P := hb
      cases w with
      | none =>
        obtain ⟨ps', a1, a2⟩ := (show GxR.TabG H P' from z)
        exact ⟨ps', h2 _ _ hb a1, a2⟩
      | some w =>
        obtain ⟨ps', a1, a2, a3⟩ := (show LamX.TabS H P' w from z)
        refine ⟨ps', h2 _ _ hb a1, a2, fun pos cv hc => ?_⟩
        obtain ⟨c, e1, e2⟩ := a3 pos cv hc
        exact ⟨c, e1, h2 c _ (ne c _ e2 (by unfold LamX.CodeO; trivial)) e2⟩
  · by_cases z : l = P
    · obtain ⟨ps', a1, _⟩ := h1
      rw [z, a1] at hl
      cases hl
    · cases q' : H l with
      | none => rfl
      | some o =>
        rw [h2 l o z q'] at hl
        cases hl
section
variable {X : Cx} {pins : List (Addr × Obj)} {σ : L2.St} {H : Hp} {s : Shared}
/-- the lambda is made: its code object is new, or found in the table; all else stays -/
theorem lam_make3 {c P : Addr} {params : Arguments} {body : Expr} {scope : Scope} {pos : Pos} {E : Value → Shared → Prop} {Q : Value → Shared → Prop} (I : Inv X pins σ H s) (TB : LamX.TabB X.base X.mg c P) (hcode : X.env.code = .ref c)
    (hT : LamX.TabS H P (X.env.qual ++ "<lambda>")) (hdef : defaultsOf params X.env = ([], [])) (hfree : ∀ y ∈ scope.names, y.2 = .free → ∃ c, X.env.cells.lookup y.1 = some c)
    (h : ∀ (f c' : Addr) (pm ctv : Value) (H1 : Hp) (s' : Shared), Inv X pins σ H1 s' → (∀ b o, b ≠ P → H b = some o → H1 b = some o) → LamX.TabS H1 P (X.env.qual ++ "<lambda>") →
      s'.heap.get? f = some (PySem.W.kla_obj "<lambda>" (X.env.qual ++ "<lambda>") params body scope (cloFrom X.env.cells scope.names []) pm c' ctv) → H1 f = none → f ∉ frs X.stack → H1 c' = some (LamX.CodeO c' (X.env.qual ++ "<lambda>")) → Q (.ref f) s') :
    wpAny (model X.prog X.w) X.A (eval (.Lambda params body scope pos) X.env) Q E s := by
  obtain ⟨ps, hP, ht, ha⟩ := hT
  refine PySem.W.kla_eval hdef ?_
  have bP : s.heap.BuiltinsAt X.mg P := TB.bm.keeps I.bk
  have hP' : s.heap.get? P = some { cls := .none, data := .fields ps } := I.hok P _ hP
  have nofr : ∀ f, s.heap.objs.size ≤ f → f ∉ frs X.stack := fun f hf z => by
    rcases List.mem_cons.mp (I.stkSub _ z) with e | e
    · have h1 := I.lt
      rw [← e] at h1
      exact Nat.lt_irrefl _ (Nat.lt_of_lt_of_le h1 hf)
    · exact I.nofs hf e
  cases hc : codeAmong pos ps.toList with
  | none =>
    refine PySem.W.kla_makeFunction (mg := X.mg) (c := c) (P := P) (ps := ps) (closure_ok hfree) I.ok.glob (I.mod.glob.keeps I.bk) hcode (TB.code.keeps I.bk) hP' ht hc TB.gP bP fun c' ctv h' tk hx hge hlt hrec htb => ?_
    obtain ⟨c2, oc, vs, t, e2, hoc, hd, hv⟩ := hrec
    cases e2
    have hsz : s.heap.objs.size ≤ h'.objs.size := Nat.le_trans hge (Nat.le_of_lt hlt)
    have nC : H c' = none := I.hok.fresh hge
    have I1 := LamX.inv_table (t' := tk) (more := #[rawInt pos.line, rawInt pos.col, .ref c']) (h' := h'.push (PySem.W.kla_obj "<lambda>" (X.env.qual ++ "<lambda>") params body scope (cloFrom X.env.cells scope.names []) ((X.mg "__name__").getD .none) c' ctv)) I hP
      (fun b o hb e => Heap.get?_push_of_some _ (hx b o hb e)) (Heap.get?_push_of_some _ htb) hge ⟨oc, vs, t, Heap.get?_push_of_some _ hoc, hd, hv⟩
    have hE : ∀ b o, b ≠ P → H b = some o → upd (upd H P (.tbl (ps ++ #[rawInt pos.line, rawInt pos.col, .ref c']))) c' (LamX.CodeO c' (X.env.qual ++ "<lambda>")) b = some o := fun b o hb e => by
      rw [upd_ne (ne_of_none e nC), upd_ne hb]
      exact e
    have eL : (ps ++ #[rawInt pos.line, rawInt pos.col, .ref c']).toList = ps.toList ++ [rawInt pos.line, rawInt pos.col, .ref c'] := by simp
    refine h h'.objs.size c' ((X.mg "__name__").getD .none) ctv _ _ I1 hE ?_ (Heap.get?_push_size _ rfl) ?_ (nofr _ hsz) upd_same
    · refine ⟨_, by rw [upd_ne (ne_of_none hP nC), upd_same], by rw [eL]; exact PySem.TriplesOk_snoc _ _ _ _ ht, fun p' cv hcv => ?_⟩
      rw [eL] at hcv
      rcases LamX.among_app _ ht hcv with z | z
      · obtain ⟨c0, e1, e2⟩ := ha p' cv z
        refine ⟨c0, e1, hE _ _ (fun z => ?_) e2⟩
        rw [z, hP] at e2
        unfold LamX.CodeO at e2
        cases e2
      · exact ⟨c', z, upd_same⟩
    · have n1 : h'.objs.size ≠ c' := Nat.ne_of_gt hlt
      have n2 : h'.objs.size ≠ P := Nat.ne_of_gt (Nat.lt_of_lt_of_le (Heap.lt_size hP') hsz)
      rw [upd_ne n1, upd_ne n2]
      exact I.hok.fresh hsz
  | some cv =>
    obtain ⟨c', e, hco⟩ := ha pos cv hc
    subst e
    refine PySem.W.kla_makeFunctionHit (mg := X.mg) (c := c) (P := P) (ps := ps) (closure_ok hfree) I.ok.glob (I.mod.glob.keeps I.bk) hcode (TB.code.keeps I.bk) hP' ht hc bP fun ctv h' tk hx hsz => ?_
    have I1 : Inv X pins σ H { s with heap := h'.push (PySem.W.kla_obj "<lambda>" (X.env.qual ++ "<lambda>") params body scope (cloFrom X.env.cells scope.names []) ((X.mg "__name__").getD .none) c' ctv), toks := tk } := I.kept fun b o e => Heap.get?_push_of_some _ (hx b o e)
    exact h h'.objs.size c' ((X.mg "__name__").getD .none) ctv H _ I1 (fun _ _ _ e => e) ⟨ps, hP, ht, ha⟩ (Heap.get?_push_size _ rfl) (I.hok.fresh hsz) (nofr _ hsz) hco
/-- the def that is given the lambda: as LamX.GivesTo -/
def tLm (T : Tb) (P : Addr) (q : Str) (TT : (XK → Hp → VK → Prop) → Hp → VK → Prop) (t : XK → TE) : TE := fun σ H Q => LamX.TabS H P q ∧ ∀ H1, Sm T H H1 → TT (fun E H' Q' => t E σ H' Q') H1 Q
theorem pe_lam {T : Tb} {TT : (XK → Hp → VK → Prop) → Hp → VK → Prop} {x a : Str} {g c P : Addr} {k : Nat} {pg : Arguments} {bg : List Stmt} {sg : Scope} {dV kV doc pm cdv ct oc : Value} {an od : Option Addr} {osl : Array (Option Value)} {Ng : List Str}
    {params : Arguments} {body : Expr} {scope : Scope} {t : XK → TE} {p lpos pos : Pos} (hn : (T.map (·.1)).Nodup) (hg : Gl X x) (hm : X.mg x = some (.ref g)) (hk : PySem.W.keepIn X.K (.ref g) = true)
    (lk : X.K.lookup g = some ⟨oc, od, .func (PySem.W.fnOf x x pg bg sg dV kV doc pm an cdv ct), osl⟩) (hcg : PySem.W.codeIn X.K cdv x = true) (hb : L2.Binds X.K (PySem.W.fnOf x x pg bg sg dV kV doc pm an cdv ct) [a] []) (Sg : FnScope Ng [a] sg) (hNg : Ng[0]? = some a) (hva : Vis sg a)
    (hG : LamX.GivesTo X Ng x sg g cdv bg a (X.env.qual ++ "<lambda>") TT)
    (TB : LamX.TabB X.base X.mg c P) (hcode : X.env.code = .ref c) (hmT : (P, some (X.env.qual ++ "<lambda>")) ∈ T) (hr : Room (k + 2) X.A) (L : LamX.LamS X.env.scope scope) (hdef : defaultsOf params X.env = ([], []))
    (hbind : ∀ (q : Str) (cl : List (Str × Addr)) (pm cv ctv : Value), bindArgs (PySem.W.kla_fn "<lambda>" q params body scope cl pm cv ctv) ⟨[], []⟩ = pure [])
    (hbody : ∀ (A : Around) (outer : List Env) (s : Shared) (H : Hp) (E : XK) (f c' : Addr), Room k (A.deeper (LamX.lamEnv X scope s.heap.objs.size f c')) → PE (LamX.lamCx X A outer s H E scope f c') body (t E))
    (hdb : (x == ("__debug__" : Str)) = false := by decide) (hd : (a == ("__debug__" : Str)) = false := by decide) (hcd : (a == ("__classdict__" : Str)) = false := by decide) :
    PE X (.Call (.Name x p) [.Lambda params body scope lpos] [] pos) (tLm T P (X.env.qual ++ "<lambda>") TT t) := by
  refine ⟨fun pins s σ H Q I h => ?_⟩
  obtain ⟨hT, h⟩ := h
  refine wpAny_Call_Name_kw (ld_glob I hg hm ?_ hdb)
  refine PySem.W.callWith_K (h₀ := X.base) I.ok.mod.kin hk ?_ (by rfl) (by rfl)
  show wpAny _ _ (spliced ((false, eval (.Lambda params body scope lpos) X.env) :: backTo pos (starEach [] X.env))) _ _ s
  refine Calls.spliced_cons (lam_make3 I TB hcode hT hdef (L.has I.ok) fun f c' pm' ctv H1 s' I1 eN T1 hf hfn hfr hco => ?_)
  refine Calls.spliced_nil ⟨I1.kIn, ?_⟩
  have rc : codeAny (model X.prog X.w) X.A (.call (.ref g) ⟨[.ref f], []⟩) (CR C8.CX0 X.stack X.prog X.w H1 s' Q C8.E0) s' := by
    refine LamX.run_ofS (N := Ng) (ps := [a]) (us := [.ref f]) (vs := [.ref f]) lk hcg Sg hr I1.env0 (hb s' [.ref f] I1.kIn rfl) (.cons rfl .nil) rfl fun hr' => ?_
    obtain ⟨t', ht', hq'⟩ := hG f c' s' H1 Q (fun E H' Q' => t E σ H' Q') (fun W pn xe E p1 p2 tk hW => LamX.pe_act (i := 0) I1 L hf hfn hfr (hbind _ _ _ _ _) tk hW hr' (fun A outer s H hr2 => hbody A outer s H E f c' hr2) hNg hva hd hcd) hco (h H1 (sm_lam hn hmT hT T1 eN))
    exact ⟨t', ht'.nox, hq'⟩
  refine wpAny_call (codeAny_mono rc fun r s2 hq => ?_)
  cases r with
  | error e => exact (show False from hq).elim
  | ok fl =>
    cases fl with
    | ret u => exact I1.after hq
    | next => exact False.elim hq
    | brk => exact False.elim hq
    | cont => exact False.elim hq
/-- word(asked): try: return ("told", asked()) / except PailError as e: return (e.word,) -/
def TTw (K : PySem.W.Frag) (CP : Addr) : (XK → Hp → VK → Prop) → Hp → VK → Prop := fun tl H Q =>
  tl (fun cls d H' => ∃ word, Rf K CP word cls d H' ∧ ∀ p, H' p = none → Q (.ref p) (upd H' p (.tup [.str word]))) H (fun v H' => ([V.str "told", v] : List V).length ≤ sizeLine ∧ ∀ p, H' p = none → Q (.ref p) (upd H' p (.tup [.str "told", v])))
theorem word_gives {x a e n q : Str} {sg : Scope} {g CP : Addr} {cdg : Value} {Ng : List Str} {i j0 j1 j2 : Nat} {p1 p2 p3 p4 p5 p6 p7 p8 p9 q1 q2 q3 : Pos} (hnd : Ng.Nodup) (hi : Ng[i]? = some n) (hln : sg.names.lookup n = some .local) (hge : sg.names.lookup e = some .globalImplicit) (hme : X.mg e = some (.ref CP)) (hde : (e == ("__debug__" : Str)) = false)
    (hdn : (n == ("__debug__" : Str)) = false) (hcn : (n == ("__classdict__" : Str)) = false) (hlen : ∀ f : Addr, (L2.start Ng [V.ref f])[0]? = some (some (V.ref f))) :
    LamX.GivesTo X Ng x sg g cdg [.Try [.Return (some (.Tuple [.Constant (.str "told") j0 p1, .Call (.Name a p2) [] [] p3] j1 p4)) p5] [.ExceptHandler (some (.Name e p6)) (some n) [.Return (some (.Tuple [.Attribute (.Name n q1) "word" q2] j2 q3)) p7] p8] [] [] p9] a q (TTw X.K CP) := by
  intro f c' s H Q tl act hc h
  have hgl : Gl (cxOf C8.CX0 X.prog X.w X.K X.mg X.base Ng x sg g cdg X.A X.stack s H C8.E0).nox e := hge
  refine ⟨_, pss_one (ps_try_as (X := (cxOf C8.CX0 X.prog X.w X.K X.mg X.base Ng x sg g cdg X.A X.stack s H C8.E0).nox) (i := i) (c := .ref CP)
      (tb := fun W D σ H => ∃ Ech : XK, (∀ cls d (σ' : L2.St) H', Ech cls d H' → σ'.length = Ng.length → W cls d σ' H') ∧ σ[0]? = some (some (.ref f)) ∧ H c' = some (LamX.CodeO c' q) ∧ tl Ech H (fun v H' => ([V.str "told", v] : List V).length ≤ sizeLine ∧ ∀ p, H' p = none → D.rt (.ref p) (upd H' p (.tup [.str "told", v]))))
      (ts := fun b cls d => tRet (tTup (tCons (tXw X.K b cls d (tVar i)) tNil)))
      rfl rfl hnd hi hln ⟨hgl, hde, .inl hme⟩ LamX.takes0 (fun W pn xe tk _ => ?_) (fun b oe cls d pn hz hf => pss_one (ps_ret (pe_tup (pa_cons (pe_xw hz hf (pe_var hi (.inl hln) hdn hcn)) pa_nil))))), ?_⟩
  · refine ⟨fun pins s' σ H' D I h' => ?_⟩
    obtain ⟨Ech, hW, h1, h2, h3⟩ := h'
    have tk2 : Takes ((cxOf C8.CX0 X.prog X.w X.K X.mg X.base Ng x sg g cdg X.A X.stack s H C8.E0).tr pn xe) (fun cls d σ' H' => σ'.length = Ng.length → W cls d σ' H') :=
      fun u s' ⟨a, B, sI, pins, σ, H, cls, d, e, I, nb, up, sky, na, os, ag, w⟩ => tk u s' ⟨a, B, sI, pins, σ, H, cls, d, e, I, nb, up, sky, na, os, ag, w I.len⟩
    have hp := act _ pn xe Ech p2 p3 tk2 (fun cls d σ' H' he hl => hW cls d σ' H' he hl)
    have hq := pss_one (ps_ret (pos := p5) (pe_tup (x1 := j1) (pos := p4) (pa_cons (pe_str (x := "told") (j := j0) (pos := p1)) (pa_cons hp pa_nil))))
    exact hq.run pins s' σ H' D I ⟨h1, h2, h3⟩
  · refine ⟨fun cls d H' => ∃ word, Rf X.K CP word cls d H' ∧ ∀ p, H' p = none → Q (.ref p) (upd H' p (.tup [.str word])), fun cls d σ' H' hE hl => ?_, hlen f, hc, h⟩
    obtain ⟨word, ⟨C, dd, rfl, rfl, xf, nw, ex, hdd⟩, hq⟩ := hE
    refine ⟨true, ex, fun _ b hb => ?_, fun z => by cases z⟩
    have hil : i < σ'.length := by
      rw [hl]
      exact (List.getElem?_eq_some_iff.mp hi).1
    exact ⟨.ref b, List.getElem?_set_self hil, rfl, C, dd, .str word, rfl, xf, nw, rfl, hdd, by show 1 ≤ sizeLine; decide, fun p hp => hq p hp⟩
end
/-- the law's own word: what a call tells, or the word of its refusal -/
structure Word (K : PySem.W.Frag) (mg : Str → Option Value) (CP : Addr) : Prop where
  ex : ∃ (g : Addr) (fd : FuncData), Fun K "_law_word" "_law_word" s_l_word g fd ∧ mg "_law_word" = some (.ref g) ∧ Binds K fd ["_law_asked"] [] ∧ mg "PailError" = some (.ref CP)
theorem pe_word {X : Cx} {T : Tb} {CP c P : Addr} {k : Nat} {params : Arguments} {body : Expr} {scope : Scope} {t : XK → TE} {p lpos pos : Pos} (W : Word X.K X.mg CP) (hn : (T.map (·.1)).Nodup) (hg : Gl X "_law_word") (TB : LamX.TabB X.base X.mg c P) (hcode : X.env.code = .ref c)
    (hmT : (P, some (X.env.qual ++ "<lambda>")) ∈ T) (hr : Room (k + 2) X.A) (L : LamX.LamS X.env.scope scope) (hdef : defaultsOf params X.env = ([], []))
    (hbind : ∀ (q : Str) (cl : List (Str × Addr)) (pm cv ctv : Value), bindArgs (PySem.W.kla_fn "<lambda>" q params body scope cl pm cv ctv) ⟨[], []⟩ = pure [])
    (hbody : ∀ (A : Around) (outer : List Env) (s : Shared) (H : Hp) (E : XK) (f c' : Addr), Room k (A.deeper (LamX.lamEnv X scope s.heap.objs.size f c')) → PE (LamX.lamCx X A outer s H E scope f c') body (t E)) :
    PE X (.Call (.Name "_law_word" p) [.Lambda params body scope lpos] [] pos) (tLm T P (X.env.qual ++ "<lambda>") (TTw X.K CP) t) := by
  obtain ⟨g, fd, F, hm, hb, hP⟩ := W.ex
  have kp := F.kp
  obtain ⟨oc, od, kV, doc, pm, an, cdv, ct, osl, rfl, lk, hcg⟩ := F.ex
  exact pe_lam hn hg hm kp lk hcg hb sc_l_word rfl (.inl rfl) (word_gives (i := 1) (n := "e") (e := "PailError") (a := "_law_asked") sc_l_word.nd rfl rfl rfl hP (by decide) (by decide) (by decide) (fun _ => rfl)) TB hcode hmT hr L hdef hbind hbody

/-! ### zip of three lists -/
def It3 (K : PySem.W.Frag) (a b c : Addr) : It :=
  ⟨fun i H => ∃ (us vs ws : List V) (x y z : V), (SqL K H a us ∧ SqL K H b vs ∧ SqL K H c ws) ∧ us[i]? = some x ∧ vs[i]? = some y ∧ ws[i]? = some z,
    fun i H v H' => ∃ Tt x y z, v = .ref Tt ∧ H Tt = none ∧ H' = upd H Tt (.tup [x, y, z]) ∧ (∀ us, SqL K H a us → us[i]? = some x) ∧ (∀ vs, SqL K H b vs → vs[i]? = some y) ∧ ∀ ws, SqL K H c ws → ws[i]? = some z,
    fun i H => ∃ us vs ws : List V, SqL K H a us ∧ SqL K H b vs ∧ SqL K H c ws ∧ min (min us.length vs.length) ws.length = i⟩
theorem turn3 {P : Program} {w : World} {K : PySem.W.Frag} {elts : List Expr} {kk : Nat} {tpos : Pos} {a b c z TI TO j1 j2 j3 : Addr} (S : ZipSep3 z TI TO j1 j2 j3 [j1, a] [j2, b] [j3, c]) (ha : a ≠ j1) (hb : b ≠ j2) (hc3 : c ≠ j3) :
    Turn P w K (.Tuple elts kk tpos) (It3 K a b c) [z, TI, TO, j1, j2, j3] z (fun i h => IsZip h z TI TO .none ∧ IsTupOf3 h TI (.ref j1) (.ref j2) (.ref j3) ∧ (∃ x y u, IsTupOf3 h TO x y u) ∧ h.IsListIter j1 a i ∧ h.IsListIter j2 b i ∧ h.IsListIter j3 c i) where
  mem := by simp
  obj := fun i h st d hd => by
    obtain ⟨hz, hTI, ⟨x, y, u, hTO⟩, ⟨o1, e1, _, d1⟩, ⟨o2, e2, _, d2⟩, ⟨o3, e3, _, d3⟩⟩ := st
    have e' : d = z ∨ d = TI ∨ d = TO ∨ d = j1 ∨ d = j2 ∨ d = j3 := by simpa using hd
    rcases e' with rfl | rfl | rfl | rfl | rfl | rfl
    · exact ⟨_, hz, fun v q => nomatch q⟩
    · exact ⟨_, hTI, fun v q => nomatch q⟩
    · exact ⟨_, hTO, fun v q => nomatch q⟩
    · exact ⟨o1, e1, fun v q => by rw [d1] at q; cases q⟩
    · exact ⟨o2, e2, fun v q => by rw [d2] at q; cases q⟩
    · exact ⟨o3, e3, fun v q => by rw [d3] at q; cases q⟩
  keep := fun i h h' st k => by
    obtain ⟨hz, hTI, ⟨x, y, u, hTO⟩, h1, h2, h3⟩ := st
    exact ⟨k z (by simp) _ hz, k TI (by simp) _ hTI, ⟨x, y, u, k TO (by simp) _ hTO⟩, h1.at fun o q => k j1 (by simp) o q, h2.at fun o q => k j2 (by simp) o q, h3.at fun o q => k j3 (by simp) o q⟩
  item := by
    intro X hP hw hK hc i pins s σ H E I hf st hg
    subst hP hw hK
    obtain ⟨hz, hTI, hTO, h1, h2, h3⟩ := st
    obtain ⟨us, vs, ws, x, y, u, ⟨hqx, hqy, hqu⟩, hx, hy, hu⟩ := hg
    obtain ⟨its1, rv1, p1, _⟩ := I.list hqx
    obtain ⟨its2, rv2, p2, _⟩ := I.list hqy
    obtain ⟨its3, rv3, p3, _⟩ := I.list hqu
    obtain ⟨m1, g1, r1⟩ := rv1.get hx
    obtain ⟨m2, g2, r2⟩ := rv2.get hy
    obtain ⟨m3, g3, r3⟩ := rv3.get hu
    have hh : X.A.in1.handled = none := I.ok.hd hc
    have W := WalksT.zipD3 (prog := X.prog) (w := X.w) (A := X.A) S (Draws.list hh j1 a ha its1.toArray) (Draws.list hh j2 b hb its2.toArray) (Draws.list hh j3 c hc3 its3.toArray)
    have lt1 : i < its1.length := (List.getElem?_eq_some_iff.mp g1).1
    have lt2 : i < its2.length := (List.getElem?_eq_some_iff.mp g2).1
    have lt3 : i < its3.length := (List.getElem?_eq_some_iff.mp g3).1
    refine W.item i s _ _ (by simp only [List.size_toArray]; omega) ⟨hz, hTI, hTO, ⟨h1, p1.isList⟩, ⟨h2, p2.isList⟩, ⟨h3, p3.isList⟩⟩ fun Tt vals h' tk hPt hge hT hM hk => ⟨_, rfl, W.go elts kk tpos i Tt _ _ _ hM fun h'' hSt hk2 => ?_⟩
    obtain ⟨n1, n2, n3, f1, f2, f3, rfl⟩ := hPt
    have q1 : n1 = m1 := by have f : its1[i]? = some n1 := by simpa using f1
                            rw [g1] at f; exact (Option.some.inj f).symm
    have q2 : n2 = m2 := by have f : its2[i]? = some n2 := by simpa using f2
                            rw [g2] at f; exact (Option.some.inj f).symm
    have q3 : n3 = m3 := by have f : its3[i]? = some n3 := by simpa using f3
                            rw [g3] at f; exact (Option.some.inj f).symm
    subst q1 q2 q3
    have hT2 := hT.at fun o e => hk2 Tt o (W.apart _ _ _ hM) e
    have new : ObjOk X.prog X.w (upd H Tt (.tup [x, y, u])) h'' Tt (.tup [x, y, u]) := ⟨by show 3 ≤ sizeLine; decide, [n1, n2, n3], .cons r1 (.cons r2 (.cons r3 .nil)), hT2⟩
    have nin : ∀ d, d ∉ [z, TI, TO, j1, j2, j3] → d ∉ [z, TO, j1, j2, j3] := fun d hd hm => hd (by
      have : d = z ∨ d = TO ∨ d = j1 ∨ d = j2 ∨ d = j3 := by simpa using hm
      rcases this with rfl | rfl | rfl | rfl | rfl <;> simp)
    have I1 := I.turnedNew (t' := tk) (h' := h'') (ch := [z, TI, TO, j1, j2, j3]) (fun d o hd q => hk2 d o (nin d hd) (hk d o (nin d hd) q)) hf hge new
    obtain ⟨s1, s2, s3, s4, s5, s6⟩ := hSt
    refine ⟨.ref Tt, _, I1, rfl, ⟨Tt, x, y, u, rfl, I.hok.fresh hge, rfl, fun l hl => by rw [I.list_inj hl hqx]; exact hx, fun l hl => by rw [I.list_inj hl hqy]; exact hy, fun l hl => by rw [I.list_inj hl hqu]; exact hu⟩, ⟨s1, s2, s3, s4.1, s5.1, s6.1⟩, fun d hd => ?_⟩
    have hlt : d < s.heap.objs.size := by
      have e' : d = z ∨ d = TI ∨ d = TO ∨ d = j1 ∨ d = j2 ∨ d = j3 := by simpa using hd
      obtain ⟨x0, y0, u0, hTO⟩ := hTO
      rcases e' with rfl | rfl | rfl | rfl | rfl | rfl
      · exact Heap.lt_size hz
      · exact Heap.lt_size hTI
      · exact Heap.lt_size hTO
      · obtain ⟨_, e1, _⟩ := h1; exact Heap.lt_size e1
      · obtain ⟨_, e1, _⟩ := h2; exact Heap.lt_size e1
      · obtain ⟨_, e1, _⟩ := h3; exact Heap.lt_size e1
    rw [upd_ne (Nat.ne_of_lt (Nat.lt_of_lt_of_le hlt hge))]
    exact (hf d hd).1
  done := by
    intro X hP hw hK hc i pins s σ H E I hf st hg
    subst hP hw hK
    obtain ⟨hz, hTI, hTO, h1, h2, h3⟩ := st
    obtain ⟨us, vs, ws, hqx, hqy, hqu, hend⟩ := hg
    obtain ⟨its1, rv1, p1, _⟩ := I.list hqx
    obtain ⟨its2, rv2, p2, _⟩ := I.list hqy
    obtain ⟨its3, rv3, p3, _⟩ := I.list hqu
    have hh : X.A.in1.handled = none := I.ok.hd hc
    have W := WalksT.zipD3 (prog := X.prog) (w := X.w) (A := X.A) S (Draws.list hh j1 a ha its1.toArray) (Draws.list hh j2 b hb its2.toArray) (Draws.list hh j3 c hc3 its3.toArray)
    have l1 := rv1.length
    have l2 := rv2.length
    have l3 := rv3.length
    have en : min (min its1.toArray.size its2.toArray.size) its3.toArray.size = i := by simp only [List.size_toArray]; omega
    refine W.done s _ _ (by rw [en]; exact ⟨hz, hTI, hTO, ⟨h1, p1.isList⟩, ⟨h2, p2.isList⟩, ⟨h3, p3.isList⟩⟩) fun h' tk hk => ⟨rfl, I.turnedL (t' := tk) (ch := [z, TI, TO, j1, j2, j3]) (fun d o hd q => hk d o (fun hm => hd ?_) q) hf⟩
    have : d = z ∨ d = TO ∨ d = j1 ∨ d = j2 ∨ d = j3 := by simpa using hm
    rcases this with rfl | rfl | rfl | rfl | rfl <;> simp
  self := fun A i s Q E st h => wpAny_pyIter_zip st.1 h
def iZip3 (K : PySem.W.Frag) (ta : TA) : TI := fun σ H R => ta σ H fun xs H1 => ∃ a b c us vs ws, xs = [.ref a, .ref b, .ref c] ∧ SqL K H1 a us ∧ SqL K H1 b vs ∧ SqL K H1 c ws ∧ R (It3 K a b c) H1
theorem pi_zip3 {X : Cx} {e e2 e3 : Expr} {ta : TA} {p pos tpos : Pos} {elts : List Expr} {kk : Nat} (hg : Gl X "zip") (hm : X.mg "zip" = none) (ha : PA X [e, e2, e3] ta)
    (hs : starEach [e, e2, e3] X.env = (false, eval e X.env) :: starEach [e2, e3] X.env := by rfl) (hpl : (backTo pos (starEach [e2, e3] X.env)).any (·.1) = false := by rfl) :
    PI X (.Tuple elts kk tpos) (.Call (.Name "zip" p) [e, e2, e3] [] pos) (iZip3 X.K ta) := by
  refine ⟨fun pins s σ H R I h => Call_ (ld_blt I hg hm PyProof.Rows.boot_zip (PyProof.Rows.callWith_type1 (thn (ha.run pos pins s σ H _ I h) fun us s1 ⟨vs, H1, I1, r1, q1⟩ => ?_) hs hpl))⟩
  obtain ⟨a, b, c, as, bs, cs, ex, hqx, hqy, hqu, q⟩ := q1
  subst ex
  cases r1 with
  | cons r rr =>
    cases rr with
    | cons r' rr =>
      cases rr with
      | cons r'' rr =>
        cases rr
        cases r
        cases r'
        cases r''
        obtain ⟨its1, rv1, p1, _⟩ := I1.list hqx
        obtain ⟨its2, rv2, p2, _⟩ := I1.list hqy
        obtain ⟨its3, rv3, p3, _⟩ := I1.list hqu
        have la : a < s1.heap.objs.size := p1.lt
        have lb : b < s1.heap.objs.size := p2.lt
        have lc : c < s1.heap.objs.size := p3.lt
        refine zip_begins3 (begins_list a its1.toArray) (begins_list b its2.toArray) (begins_list c its3.toArray) p1.isList p2.isList p3.isList fun h' hz hTI hTO h1 h2 h3 hsz hk => wpAny_pyIter_zip hz ?_
        have I2 : Inv X pins σ H1 { s1 with heap := h' } := I1.kept (t' := s1.toks) hk
        have one : ∀ d : Addr, d < s1.heap.objs.size → ∀ e ∈ [d], e < s1.heap.objs.size := fun d hd e he => by rw [List.mem_singleton.mp he]; exact hd
        refine ⟨_, [s1.heap.objs.size + 5, s1.heap.objs.size + 3, s1.heap.objs.size + 4, s1.heap.objs.size, s1.heap.objs.size + 1, s1.heap.objs.size + 2], _, _, H1, rfl, I2, turn3 (zip_sep3 (one a la) (one b lb) (one c lc)) (Nat.ne_of_lt la) (Nat.ne_of_lt (Nat.lt_succ_of_lt lb)) (Nat.ne_of_lt (Nat.lt_add_right 2 lc)), ⟨hz, hTI, ⟨_, _, _, hTO⟩, ⟨_, h1, rfl, rfl⟩, ⟨_, h2, rfl, rfl⟩, ⟨_, h3, rfl, rfl⟩⟩, fun d hd => ?_, q⟩
        have hle : s1.heap.objs.size ≤ d := by
          have e' : d = s1.heap.objs.size + 5 ∨ d = s1.heap.objs.size + 3 ∨ d = s1.heap.objs.size + 4 ∨ d = s1.heap.objs.size ∨ d = s1.heap.objs.size + 1 ∨ d = s1.heap.objs.size + 2 := by simpa using hd
          rcases e' with z | z | z | z | z | z <;> rw [z] <;> first | exact Nat.le_refl _ | exact Nat.le_add_right _ _
        exact I1.fpOk hle (I1.hok.fresh hle)
/-- each turn's three in a new tuple -/
def YTri (us vs ws : List V) : Nat → Hp → V → Hp → Prop := fun i H v H' => ∃ Tt x y z, v = .ref Tt ∧ H Tt = none ∧ H' = upd H Tt (.tup [x, y, z]) ∧ us[i]? = some x ∧ vs[i]? = some y ∧ ws[i]? = some z
theorem walk_zip3 {K : PySem.W.Frag} {a b c : Addr} {us vs ws : List V} {n : Nat} (hn : n = min (min us.length vs.length) ws.length) : Walk (It3 K a b c) n (fun H => SqL K H a us ∧ SqL K H b vs ∧ SqL K H c ws) (YTri us vs ws) := by
  subst hn
  refine ⟨fun i _ hi q => ?_, fun _ q => ⟨us, vs, ws, q.1, q.2.1, q.2.2, rfl⟩, fun i H v H' _ q y => ?_⟩
  · have h1 : i < us.length := by omega
    have h2 : i < vs.length := by omega
    have h3 : i < ws.length := by omega
    exact ⟨us, vs, ws, us[i], vs[i], ws[i], q, by simp [h1], by simp [h2], by simp [h3]⟩
  · obtain ⟨Tt, x, z, u, h1, h2, h3, h4, h5, h6⟩ := y
    exact ⟨Tt, x, z, u, h1, h2, h3, h4 us q.1, h5 vs q.2.1, h6 ws q.2.2⟩

def sp_p_common_divisor (K : PySem.W.Frag) (T : Tb) : Sp := fun vs H Q _ => ∃ a b : Nat, vs = [.int a, .int b] ∧ Q (.int (Nat.gcd a b : Nat)) H
theorem ok_p_common_divisor {f : Addr} {fd : FuncData} (F : Fun K "common_divisor" "common_divisor" s_p_common_divisor f fd) : FnOk P w K mg base CX0 1 f fd ["one", "other"] (sp_p_common_divisor K T) := by
  refine F.ok sc_p_common_divisor (fun vs H Q E h => ?_) (fun cdv A outer s H vs Q E hr h => ?_)
  · obtain ⟨a, b, rfl, _⟩ := h
    rfl
  · obtain ⟨a, b, rfl, q⟩ := h
    refine ⟨_, (pss_cons (ps_while PassesOwn.never (pt_truth (pv 1) (by intro _; rfl)) (pss_one (ps_par (i := 0) (j := 1) (by rfl) sc_p_common_divisor.nd rfl rfl (by decide) rfl rfl (pa_cons (pv 1) (pa_cons (pe_op op_mod (pv 0) (pv 1)) pa_nil)) (by rfl))))
      (pss_one (ps_ret (pv 0)))), ?_⟩
    refine while_by (fun σ H' => ∃ x y : Nat, σ = [some (.int x), some (.int y)] ∧ H' = H ∧ Nat.gcd x y = Nat.gcd a b) (fun σ _ => match σ with | [_, some (.int y)] => y.toNat | _ => 0) ⟨a, b, rfl, rfl, rfl⟩ ?_ ?_
    · rintro σ H' ⟨x, y, rfl, rfl, hg⟩
      refine ⟨_, rfl, _, rfl, ite2 (fun e => ?_) (fun e => ?_)⟩
      · have hy : 0 < y := by
          cases y with
          | zero => cases e
          | succ n => exact Nat.succ_pos n
        refine ⟨_, rfl, _, rfl, _, rfl, _, _, rfl, rfl, (by show (0 : Int) < (y : Int); omega), _, _, rfl, ⟨y, x % y, ?_, rfl, ?_⟩, ?_⟩
        · show [some (V.int y), some (V.int ((x : Int) % (y : Int)))] = _
          rw [Int.natCast_emod]
        · rw [← hg, Nat.gcd_comm x y, Nat.gcd_rec y x, Nat.gcd_comm]
        · show ((x : Int) % (y : Int)).toNat < (y : Int).toNat
          rw [← Int.natCast_emod, Int.toNat_natCast, Int.toNat_natCast]
          exact Nat.mod_lt _ hy
      · have hy : y = 0 := by
          cases y with
          | zero => rfl
          | succ n => exact absurd rfl e
        subst hy
        refine ⟨_, rfl, ?_⟩
        rw [← hg, Nat.gcd_zero_right] at q
        exact q
    · rintro σ H Q Q' m ⟨v, e, k, t, q⟩
      exact ⟨v, e, k, t, m _ _ q⟩

def sp_p_amount (K : PySem.W.Frag) (T : Tb) : Sp := fun vs H Q _ => ∃ n d : Int, vs = [.int n, .int d] ∧ d ≠ 0 ∧ d.natAbs < 2 ^ 8900 ∧ ∀ p H', Sm T H H' → H p = none → H' p = some (.tup (tv (amt n d))) → Q (.ref p) H'
theorem gcd_bound {n d : Int} (hd : d ≠ 0) (hb : d.natAbs < 2 ^ 8900) : 0 < Nat.gcd n.natAbs d.natAbs ∧ (Nat.gcd n.natAbs d.natAbs) < 2 ^ 8900 :=
  ⟨Nat.gcd_pos_of_pos_right _ (by omega), Nat.lt_of_le_of_lt (Nat.gcd_le_right _ (by omega)) hb⟩
theorem ok_p_amount {f : Addr} {fd : FuncData} (F : Fun K "amount" "amount" s_p_amount f fd) (B : Bn mg) (F_p_common_divisor : Fn P w K mg base 1 "common_divisor" ["one", "other"] (sp_p_common_divisor K T)) : FnOk P w K mg base CX0 2 f fd ["num", "den"] (sp_p_amount K T) := by
  refine F.ok sc_p_amount (fun vs H Q E h => ?_) (fun cdv A outer s H vs Q E hr h => ?_)
  · obtain ⟨n, d, rfl, _⟩ := h
    rfl
  · obtain ⟨n, d, rfl, hd, hb, q⟩ := h
    refine ⟨_, (pss_cons (ps_if (pt_cmpR op_lt (pv 1) pe_int (nomark _)) (pss_one (ps_par (i := 0) (j := 1) (by rfl) sc_p_amount.nd rfl rfl (by decide) rfl rfl (pa_cons (pe_un un_neg (pv 0)) (pa_cons (pe_un un_neg (pv 1)) pa_nil)) (by rfl))) pss_nil)
      (pss_cons (ps_set (i := 2) sc_p_amount.nd rfl (.inl rfl) (pe_fn F_p_common_divisor (hr.mono (by decide)) (pa_cons (pe_callB call_abs (by rfl) B.abs_ (by decide +kernel) (pa_cons (pv 0) pa_nil)) (pa_cons (pv 1) pa_nil))))
      (pss_one (ps_ret (pe_tup (pa_cons (pe_op op_fdivW (pv 0) (pv 2)) (pa_cons (pe_op op_fdivW (pv 1) (pv 2)) pa_nil))))))), ?_⟩
    have hg := gcd_bound (n := n) hd hb
    refine seq_if (fun σ' H' => H' = H ∧ σ' = [some (.int (if d < 0 then -n else n)), some (.int d.natAbs), none]) (fun σ' H' p => ?_) (fun k => ?_)
    · obtain ⟨rfl, rfl⟩ := p
      refine ⟨_, rfl, _, rfl, _, rfl, n.natAbs, d.natAbs, ?_, ?_⟩
      · have : (if (if d < 0 then -n else n) < 0 then -(if d < 0 then -n else n) else (if d < 0 then -n else n)) = (n.natAbs : Int) := by split <;> split <;> omega
        rw [this] <;> rfl
      · refine ⟨_, rfl, _, rfl, _, _, rfl, rfl, wide_div (b := 8900) (by omega) (by rw [Int.natAbs_natCast]; exact hg.2) (by decide) (by decide), ?_⟩
        refine ⟨_, rfl, _, rfl, _, _, rfl, rfl, wide_div (b := 8900) (by omega) (by rw [Int.natAbs_natCast]; exact hg.2) (by decide) (by decide), ?_⟩
        refine ⟨by show 2 ≤ sizeLine; decide, fun p hp => ?_⟩
        exact q p _ (same_upd hp) hp upd_same
    · refine ⟨_, rfl, _, _, rfl, rfl, _, rfl, ite2 (fun e => ?_) (fun e => ?_)⟩
      · have e' : d < 0 := of_decide_eq_true e
        refine ⟨_, rfl, _, rfl, _, rfl, _, rfl, _, _, rfl, ?_⟩
        refine k _ _ ⟨rfl, ?_⟩
        rw [if_pos e', show ((d.natAbs : Nat) : Int) = -d by omega]
        all_goals rfl
      · have e' : ¬ d < 0 := fun z => e (decide_eq_true z)
        refine k _ _ ⟨rfl, ?_⟩
        rw [if_neg e', show ((d.natAbs : Nat) : Int) = d by omega]
        all_goals rfl

def Bd (n : Nat) (x : Am) : Prop := x.1.natAbs < 2 ^ n ∧ x.2.natAbs < 2 ^ n
theorem Bd.mono {n m : Nat} {x : Am} (h : Bd n x) (e : n ≤ m) : Bd m x := ⟨Nat.lt_of_lt_of_le h.1 (Nat.pow_le_pow_right (by decide) e), Nat.lt_of_lt_of_le h.2 (Nat.pow_le_pow_right (by decide) e)⟩
def plusA (x y : Am) : Am := amt (x.1 * y.2 + y.1 * x.2) (x.2 * y.2)
def minusA (x y : Am) : Am := amt (x.1 * y.2 - y.1 * x.2) (x.2 * y.2)
def timesA (x y : Am) : Am := amt (x.1 * y.1) (x.2 * y.2)
def overA (x y : Am) : Am := amt (x.1 * y.2) (x.2 * y.1)
def belowA (x y : Am) : Bool := decide (x.1 * y.2 < y.1 * x.2)
def spBin (pre : Am → Am → Prop) (g : Am → Am → Am) (K : PySem.W.Frag) (T : Tb) : Sp := fun vs H Q _ => ∃ a b x y, vs = [.ref a, .ref b] ∧ SqT K H a (tv x) ∧ SqT K H b (tv y) ∧ (Bd 4000 x ∧ Bd 4000 y) ∧ pre x y ∧
  ∀ p H', Sm T H H' → H p = none → H' p = some (.tup (tv (g x y))) → Q (.ref p) H'
abbrev sp_p_plus : PySem.W.Frag → Tb → Sp := spBin (fun x y => 0 < x.2 ∧ 0 < y.2) plusA
abbrev sp_p_minus : PySem.W.Frag → Tb → Sp := spBin (fun x y => 0 < x.2 ∧ 0 < y.2) minusA
abbrev sp_p_times : PySem.W.Frag → Tb → Sp := spBin (fun x y => 0 < x.2 ∧ 0 < y.2) timesA
abbrev sp_p_over : PySem.W.Frag → Tb → Sp := spBin (fun x y => 0 < x.2 ∧ 0 < y.2 ∧ y.1 ≠ 0) overA
def sp_p_below (K : PySem.W.Frag) (T : Tb) : Sp := fun vs H Q _ => ∃ a b x y, vs = [.ref a, .ref b] ∧ SqT K H a (tv x) ∧ SqT K H b (tv y) ∧ (Bd 4000 x ∧ Bd 4000 y) ∧ Q (.bl (belowA x y)) H
theorem wm {i j : Int} (hi : i.natAbs < 2 ^ 4000) (hj : j.natAbs < 2 ^ 4000) : CMulW i j := wide_mul hi hj (by decide) (by decide) (by decide)
theorem wl {i j : Int} (hi : i.natAbs < 2 ^ 4000) (hj : j.natAbs < 2 ^ 4000) : (i * j).natAbs < 2 ^ 8900 := Nat.lt_trans (wide_lt hi hj) (Nat.pow_lt_pow_right (by decide) (by decide))

/-! ### amounts as rationals -/
def am (r : Rat) : Am := (r.num, (r.den : Int))
def vl (x : Am) : Rat := (x.1 : Rat) / (x.2 : Rat)
theorem am_low (r : Rat) : Low (am r) := ⟨by have := r.den_nz; show (0 : Int) < (r.den : Int); omega, by show Nat.gcd r.num.natAbs ((r.den : Int)).natAbs = 1; rw [Int.natAbs_natCast]; exact r.reduced⟩
theorem am_pos (r : Rat) : 0 < (am r).2 := (am_low r).1
theorem vl_am (r : Rat) : vl (am r) = r := by
  show (r.num : Rat) / ((r.den : Int) : Rat) = r
  have := Rat.num_divInt_den r
  rw [Rat.divInt_eq_div] at this
  exact this
theorem ci {a b : Int} (h : (a : Rat) = (b : Rat)) : a = b := Rat.intCast_inj.mp h
theorem cn {a : Int} (h : a ≠ 0) : (a : Rat) ≠ 0 := fun z => h (ci z)
theorem cp {a : Int} (h : 0 < a) : (0 : Rat) < (a : Rat) := Rat.intCast_pos.mpr h
theorem vl_eq {x y : Am} (hx : Low x) (hy : Low y) (e : vl x = vl y) : x = y := by
  refine low_eq hx hy (ci ?_)
  have h1 := cn (a := x.2) (by have := hx.1; omega)
  have h2 := cn (a := y.2) (by have := hy.1; omega)
  unfold vl at e
  rw [Rat.intCast_mul, Rat.intCast_mul]
  grind
theorem am_vl {x : Am} (hx : Low x) : am (vl x) = x := vl_eq (am_low _) hx (vl_am _)
theorem am_inj {a b : Rat} (h : am a = am b) : a = b := by rw [← vl_am a, h, vl_am]
theorem vl_amt {n d : Int} (hd : d ≠ 0) : vl (amt n d) = (n : Rat) / (d : Rat) := by
  have s := amt_spec (n := n) hd
  have h1 := cn (a := (amt n d).2) (by have := s.1.1; omega)
  have h2 := cn hd
  have e : (((amt n d).1 * d : Int) : Rat) = ((n * (amt n d).2 : Int) : Rat) := by rw [s.2.1]
  rw [Rat.intCast_mul, Rat.intCast_mul] at e
  unfold vl
  grind
theorem amt_am {n d : Int} (hd : d ≠ 0) : amt n d = am ((n : Rat) / (d : Rat)) := by
  rw [← vl_amt hd, am_vl (amt_spec hd).1]
theorem vle (x : Am) : vl x = (x.1 : Rat) / (x.2 : Rat) := rfl
theorem plus_am (a b : Rat) : plusA (am a) (am b) = am (a + b) := by
  have h1 := am_pos a
  have h2 := am_pos b
  unfold plusA
  rw [amt_am (by exact Int.mul_ne_zero (by omega) (by omega))]
  congr 1
  have e1 := vl_am a
  have e2 := vl_am b
  have k1 := cn (a := (am a).2) (by omega)
  have k2 := cn (a := (am b).2) (by omega)
  unfold vl at e1 e2
  rw [Rat.intCast_add, Rat.intCast_mul, Rat.intCast_mul, Rat.intCast_mul]
  grind
theorem minus_am (a b : Rat) : minusA (am a) (am b) = am (a - b) := by
  have h1 := am_pos a
  have h2 := am_pos b
  unfold minusA
  rw [amt_am (by exact Int.mul_ne_zero (by omega) (by omega))]
  congr 1
  have e1 := vl_am a
  have e2 := vl_am b
  have k1 := cn (a := (am a).2) (by omega)
  have k2 := cn (a := (am b).2) (by omega)
  unfold vl at e1 e2
  rw [Rat.intCast_sub, Rat.intCast_mul, Rat.intCast_mul, Rat.intCast_mul]
  grind
theorem times_am (a b : Rat) : timesA (am a) (am b) = am (a * b) := by
  have h1 := am_pos a
  have h2 := am_pos b
  unfold timesA
  rw [amt_am (by exact Int.mul_ne_zero (by omega) (by omega))]
  congr 1
  have e1 := vl_am a
  have e2 := vl_am b
  have k1 := cn (a := (am a).2) (by omega)
  have k2 := cn (a := (am b).2) (by omega)
  unfold vl at e1 e2
  rw [Rat.intCast_mul, Rat.intCast_mul]
  grind
theorem am_ne {b : Rat} (h : b ≠ 0) : (am b).1 ≠ 0 := fun z => h (by
  rw [← vl_am b]
  unfold vl
  rw [z]
  show (0 : Rat) / _ = 0
  grind)
theorem over_am (a b : Rat) (hb : b ≠ 0) : overA (am a) (am b) = am (a / b) := by
  have h1 := am_pos a
  have h2 := am_pos b
  have h3 := am_ne hb
  unfold overA
  rw [amt_am (by exact Int.mul_ne_zero (by omega) h3)]
  congr 1
  have e1 := vl_am a
  have e2 := vl_am b
  have k1 := cn (a := (am a).2) (by omega)
  have k2 := cn (a := (am b).2) (by omega)
  have k3 := cn h3
  unfold vl at e1 e2
  rw [Rat.intCast_mul, Rat.intCast_mul]
  grind
theorem below_am (a b : Rat) : belowA (am a) (am b) = decide (a < b) := by
  have h1 := am_pos a
  have h2 := am_pos b
  have k1 := cp h1
  have k2 := cp h2
  have e1 := vl_am a
  have e2 := vl_am b
  unfold belowA
  rw [decide_eq_decide, ← Rat.intCast_lt_intCast, Rat.intCast_mul, Rat.intCast_mul]
  unfold vl at e1 e2
  have f1 : ((am a).1 : Rat) = a * ((am a).2 : Rat) := by grind
  have f2 : ((am b).1 : Rat) = b * ((am b).2 : Rat) := by grind
  rw [f1, f2]
  have k3 := Rat.mul_pos k1 k2
  constructor
  · intro h
    by_cases z : a < b
    · exact z
    · have := Rat.mul_le_mul_of_nonneg_right (a := b) (b := a) (Rat.not_lt.mp z) (Rat.le_of_lt k3)
      grind
  · intro h
    have := Rat.mul_lt_mul_of_pos_right h k3
    grind
theorem am_int (z : Int) : am (z : Rat) = (z, 1) := by
  refine vl_eq (am_low _) ⟨by show (0 : Int) < 1; decide, by show Nat.gcd _ 1 = 1; exact Nat.gcd_one_right _⟩ ?_
  rw [vl_am]
  show (z : Rat) = (z : Rat) / ((1 : Int) : Rat)
  have : ((1 : Int) : Rat) = 1 := rfl
  rw [this]
  grind
theorem am_zero : am 0 = (0, 1) := am_int 0
theorem am_one : am 1 = (1, 1) := am_int 1
theorem am_eq_iff {a b : Rat} : am a = am b ↔ a = b := ⟨am_inj, fun h => by rw [h]⟩
theorem sub_nn {a b : Rat} (h : a < b) : 0 ≤ b - a := by grind
theorem sub_nn' {a b : Rat} (h : a ≤ b) : 0 ≤ b - a := by grind
theorem sub_le' {a b c : Rat} (h : b ≤ c) (h0 : 0 ≤ a) : b - a ≤ c := by grind
theorem neg_le {a c : Rat} (h : 0 ≤ a) (hc : 0 ≤ c) : -c ≤ a := by grind

/-! ### walking -/
def mnI (p q : Int) : Int := if q < p then q else p
def spd : List Int → List Rat → List Int
  | p :: ns, x :: xs => (match xs, spd ns xs with
      | y :: _, s :: _ => if x = y then mnI p s else p
      | _, _ => p) :: spd ns xs
  | _, _ => []
theorem spd_len : ∀ (ns : List Int) (xs : List Rat), ns.length = xs.length → (spd ns xs).length = ns.length
  | [], [], _ => rfl
  | [], _ :: _, h => by simp at h
  | _ :: _, [], h => by simp at h
  | p :: ns, x :: xs, h => by
    have := spd_len ns xs (by simpa using h)
    simp only [spd, List.length_cons, this]
theorem spd_step {ns : List Int} {xs : List Rat} (hl : ns.length = xs.length) {j : Nat} (hj : j < ns.length) :
    spd (ns.drop j) (xs.drop j) = (if h : j + 1 < ns.length then (if xs[j] = xs[j + 1] then mnI ns[j] ((spd (ns.drop (j + 1)) (xs.drop (j + 1))).headD 0) else ns[j]) else ns[j]) :: spd (ns.drop (j + 1)) (xs.drop (j + 1)) := by
  rw [List.drop_eq_getElem_cons hj, List.drop_eq_getElem_cons (show j < xs.length by omega)]
  by_cases h : j + 1 < ns.length
  · rw [dif_pos h]
    have e2 := List.drop_eq_getElem_cons (show j + 1 < xs.length by omega)
    have l := spd_len (ns.drop (j + 1)) (xs.drop (j + 1)) (by rw [List.length_drop, List.length_drop, hl])
    simp only [spd]
    cases hs : spd (ns.drop (j + 1)) (xs.drop (j + 1)) with
    | nil => rw [hs, List.length_drop] at l; simp at l; omega
    | cons s r =>
      rw [e2]
      simp
  · rw [dif_neg h]
    have e1 : ns.drop (j + 1) = [] := List.drop_eq_nil_of_le (by omega)
    have e2 : xs.drop (j + 1) = [] := List.drop_eq_nil_of_le (by omega)
    rw [e1, e2]
    simp [spd]
/-- the law's own -/
def ptl (x : Rat) : Int → List Int → List Rat → Int
  | p, q :: ns, y :: ys => ptl x (if y = x then mnI p q else p) ns ys
  | p, _, _ => p
theorem mnI_assoc (p q r : Int) : mnI (mnI p q) r = mnI p (mnI q r) := by unfold mnI; grind
theorem ptl_min (x : Rat) (p : Int) : ∀ (q : Int) (ns : List Int) (ys : List Rat), ptl x (mnI p q) ns ys = mnI p (ptl x q ns ys)
  | q, [], _ => by cases ‹List Rat› <;> rfl
  | q, _ :: _, [] => rfl
  | q, r :: ns, y :: ys => by
    simp only [ptl]
    by_cases h : y = x
    · rw [if_pos h, if_pos h, mnI_assoc, ptl_min x p]
    · rw [if_neg h, if_neg h, ptl_min x p]
theorem ptl_none (x : Rat) (p : Int) : ∀ (ns : List Int) (ys : List Rat), (∀ y ∈ ys, y ≠ x) → ptl x p ns ys = p
  | [], _, _ => by cases ‹List Rat› <;> rfl
  | _ :: _, [], _ => rfl
  | r :: ns, y :: ys, h => by
    simp only [ptl]
    rw [if_neg (h y List.mem_cons_self)]
    exact ptl_none x p ns ys fun z hz => h z (List.mem_cons_of_mem _ hz)
theorem spd_ptl : ∀ (p : Int) (x : Rat) (ns : List Int) (xs : List Rat), ns.length = xs.length → (x :: xs).Pairwise (· ≤ ·) → (spd (p :: ns) (x :: xs)).headD 0 = ptl x p ns xs
  | p, x, [], [], _, _ => rfl
  | _, _, [], _ :: _, h, _ => by simp at h
  | _, _, _ :: _, [], h, _ => by simp at h
  | p, x, q :: ns, y :: ys, h, hp => by
    have hp' := List.pairwise_cons.mp hp
    have ih := spd_ptl q y ns ys (by simpa using h) hp'.2
    have l := spd_len (q :: ns) (y :: ys) h
    cases hs : spd (q :: ns) (y :: ys) with
    | nil => rw [hs] at l; simp at l
    | cons s r =>
      rw [hs, List.headD_cons] at ih
      have e0 : spd (p :: q :: ns) (x :: y :: ys) = (if x = y then mnI p s else p) :: (s :: r) := by
        have : spd (p :: q :: ns) (x :: y :: ys) = (match y :: ys, spd (q :: ns) (y :: ys) with | y :: _, s :: _ => if x = y then mnI p s else p | _, _ => p) :: spd (q :: ns) (y :: ys) := rfl
        rw [this, hs]
      rw [e0, List.headD_cons]
      simp only [ptl]
      by_cases e : x = y
      · subst e
        rw [if_pos rfl, if_pos rfl, ptl_min, ih]
      · have hxy := hp'.1 y List.mem_cons_self
        have hl := (List.pairwise_cons.mp hp'.2).1
        rw [if_neg e, if_neg (fun z => e z.symm)]
        refine (ptl_none x p ns ys fun z hz => ?_).symm
        have := hl z hz
        grind
theorem spd_get {ns : List Int} {xs : List Rat} (hl : ns.length = xs.length) (hp : xs.Pairwise (· ≤ ·)) : ∀ {j : Nat} (hj : j < ns.length), (spd ns xs)[j]? = some (ptl xs[j] ns[j] (ns.drop (j + 1)) (xs.drop (j + 1))) := by
  intro j hj
  induction j generalizing ns xs with
  | zero =>
    match ns, xs, hl, hp, hj with
    | p :: ns, x :: xs, hl, hp, _ =>
      have := spd_ptl p x ns xs (by simpa using hl) hp
      simp only [spd] at this ⊢
      simp only [List.headD_cons] at this
      simp [this]
  | succ j ih =>
    match ns, xs, hl, hp, hj with
    | p :: ns, x :: xs, hl, hp, hj =>
      have := ih (ns := ns) (xs := xs) (by simpa using hl) (List.pairwise_cons.mp hp).2 (by simpa using hj)
      simp only [spd]
      simpa using this

/-! ### amounts over a common lower number -/
def Fr (D : Int) (r : Rat) : Prop := ∃ z : Int, r = (z : Rat) / (D : Rat)
theorem Fr.add {D : Int} {a b : Rat} (ha : Fr D a) (hb : Fr D b) : Fr D (a + b) := by
  obtain ⟨x, rfl⟩ := ha
  obtain ⟨y, rfl⟩ := hb
  exact ⟨x + y, by rw [Rat.intCast_add]; grind⟩
theorem Fr.sub {D : Int} {a b : Rat} (ha : Fr D a) (hb : Fr D b) : Fr D (a - b) := by
  obtain ⟨x, rfl⟩ := ha
  obtain ⟨y, rfl⟩ := hb
  exact ⟨x - y, by rw [Rat.intCast_sub]; grind⟩
theorem Fr.mulI {D : Int} {a : Rat} (ha : Fr D a) (k : Int) : Fr D ((k : Rat) * a) := by
  obtain ⟨x, rfl⟩ := ha
  exact ⟨k * x, by rw [Rat.intCast_mul]; grind⟩
theorem Fr.divI {D : Int} {a : Rat} (hD : D ≠ 0) (ha : Fr D a) {k : Int} (hk : k ≠ 0) : Fr (D * k) (a / (k : Rat)) := by
  obtain ⟨x, rfl⟩ := ha
  have h1 := cn hD
  have h2 := cn hk
  exact ⟨x, by rw [Rat.intCast_mul]; grind⟩
theorem Fr.int {D : Int} (hD : D ≠ 0) (k : Int) : Fr D (k : Rat) := ⟨k * D, by have := cn hD; rw [Rat.intCast_mul]; grind⟩
theorem Fr.zero {D : Int} (hD : D ≠ 0) : Fr D 0 := Fr.int hD 0
theorem Fr.scale {D : Int} {a : Rat} (hD : D ≠ 0) (ha : Fr D a) {k : Int} (hk : k ≠ 0) : Fr (D * k) a := by
  obtain ⟨x, rfl⟩ := ha
  have h1 := cn hD
  have h2 := cn hk
  exact ⟨x * k, by rw [Rat.intCast_mul, Rat.intCast_mul]; grind⟩
theorem Fr.of {n d D k : Int} (hd : d ≠ 0) (hk : k ≠ 0) (e : D = d * k) : Fr D ((n : Rat) / (d : Rat)) := by
  subst e
  have h1 := cn hd
  have h2 := cn hk
  exact ⟨n * k, by rw [Rat.intCast_mul, Rat.intCast_mul]; grind⟩
theorem ile {a b : Int} (h : (a : Rat) ≤ (b : Rat)) : a ≤ b := Rat.intCast_le_intCast.mp h
theorem fr_bd {D B : Int} {r : Rat} {k : Nat} (hD : 0 < D) (h : Fr D r) (h0 : -(B : Rat) ≤ r) (h1 : r ≤ (B : Rat)) (hb : (B * D).natAbs < 2 ^ k) (hd : D.natAbs < 2 ^ k) : Bd k (am r) := by
  obtain ⟨z, rfl⟩ := h
  have kD := cp hD
  have e1 : z ≤ B * D := ile (by
    rw [Rat.intCast_mul]
    have := Rat.mul_le_mul_of_nonneg_right h1 (Rat.le_of_lt kD)
    rw [Rat.div_mul_cancel (cn (by omega))] at this
    exact this)
  have e2 : -(B * D) ≤ z := ile (by
    rw [Rat.intCast_neg, Rat.intCast_mul]
    have := Rat.mul_le_mul_of_nonneg_right h0 (Rat.le_of_lt kD)
    rw [Rat.div_mul_cancel (cn (by omega)), Rat.neg_mul] at this
    exact this)
  have s := amt_spec (n := z) (d := D) (by omega)
  rw [← amt_am (by omega)]
  exact ⟨Nat.lt_of_le_of_lt (Nat.le_trans s.2.2.1 (by omega)) hb, Nat.lt_of_le_of_lt s.2.2.2 hd⟩

/-! ### meetings -/
def mnR (a b : Rat) : Rat := if b < a then b else a
def meetF (g : List Int) (ps : List Rat) (h : Rat) : Nat → Rat
  | 0 => h
  | i + 1 => if g.getD (i + 1) 0 < g.getD i 0 then mnR (meetF g ps h i) ((ps.getD (i + 1) 0 - ps.getD i 0) / ((g.getD i 0 - g.getD (i + 1) 0 : Int) : Rat)) else meetF g ps h i
def lastH (L : Int) (ns : List Int) (ps : List Rat) : Rat := ((L : Rat) - ps.getD (ns.length - 1) 0) / ((ns.getD (ns.length - 1) 0 : Int) : Rat)
def meetM (L : Int) (ns : List Int) (ps : List Rat) : Rat := meetF (spd ns ps) ps (lastH L ns ps) (ns.length - 1)
/-- hands on a way of labour L, all places over D -/
structure Wk (D L : Int) (ns : List Int) (ps : List Rat) : Prop where
  eq : ns.length = ps.length
  n8 : ns.length ≤ 8
  pace : ∀ n ∈ ns, 1 ≤ n ∧ n ≤ 12
  rise : ps.Pairwise (· ≤ ·)
  nn : ∀ p ∈ ps, 0 ≤ p
  fire : ∀ p ∈ ps, p ≤ (L : Rat)
  fr : ∀ p ∈ ps, Fr D p
theorem getD_mem {α : Type} {l : List α} {i : Nat} {d : α} (h : i < l.length) : l.getD i d ∈ l := by
  rw [List.getD_eq_getElem?_getD, List.getElem?_eq_getElem h]
  exact List.getElem_mem h
theorem getD_lt {α : Type} {l : List α} {i : Nat} {d : α} (h : i < l.length) : l.getD i d = l[i] := by
  rw [List.getD_eq_getElem?_getD, List.getElem?_eq_getElem h]
  rfl
theorem spd_at {ns : List Int} {xs : List Rat} (hl : ns.length = xs.length) {j : Nat} (hj : j < ns.length) : (spd ns xs).drop j = spd (ns.drop j) (xs.drop j) := by
  induction j generalizing ns xs with
  | zero => rfl
  | succ j ih =>
    match ns, xs, hl, hj with
    | p :: ns, x :: xs, hl, hj =>
      simp only [spd, List.drop_succ_cons]
      exact ih (by simpa using hl) (by simpa using hj)
theorem spd_rec {ns : List Int} {xs : List Rat} (hl : ns.length = xs.length) {j : Nat} (hj : j < ns.length) :
    (spd ns xs).getD j 0 = if j + 1 < ns.length ∧ xs.getD j 0 = xs.getD (j + 1) 0 then mnI (ns.getD j 0) ((spd ns xs).getD (j + 1) 0) else ns.getD j 0 := by
  have st := spd_step hl hj
  have e0 : (spd ns xs).getD j 0 = ((spd ns xs).drop j).headD 0 := by
    rw [List.getD_eq_getElem?_getD, List.headD_eq_head?_getD, List.head?_drop]
  rw [e0, spd_at hl hj, st, List.headD_cons, getD_lt hj]
  by_cases h : j + 1 < ns.length
  · rw [dif_pos h, getD_lt (show j < xs.length by omega), getD_lt (show j + 1 < xs.length by omega)]
    have e1 : (spd (ns.drop (j + 1)) (xs.drop (j + 1))).headD 0 = (spd ns xs).getD (j + 1) 0 := by
      rw [← spd_at hl h, List.getD_eq_getElem?_getD, List.headD_eq_head?_getD, List.head?_drop]
    rw [e1]
    by_cases e : xs[j] = xs[j + 1]
    · rw [if_pos e, if_pos ⟨h, e⟩]
    · rw [if_neg e, if_neg (fun z => e z.2)]
  · rw [dif_neg h, if_neg (fun z => h z.1)]
theorem mnI_le_l (p q : Int) : mnI p q ≤ p := by unfold mnI; split <;> omega
theorem mnI_le_r (p q : Int) : mnI p q ≤ q := by unfold mnI; split <;> omega
section
variable {D L : Int} {ns : List Int} {ps : List Rat}
theorem spd_bd (w : Wk D L ns ps) : ∀ {j : Nat}, j < ns.length → 1 ≤ (spd ns ps).getD j 0 ∧ (spd ns ps).getD j 0 ≤ 12 := by
  have key : ∀ k j, j < ns.length → ns.length - j ≤ k → 1 ≤ (spd ns ps).getD j 0 ∧ (spd ns ps).getD j 0 ≤ 12 := by
    intro k
    induction k with
    | zero => intro j h1 h2; omega
    | succ k ih =>
      intro j h1 h2
      have hp := w.pace _ (getD_mem (d := 0) h1)
      rw [spd_rec w.eq h1]
      split
      · rename_i h
        have := ih (j + 1) h.1 (by omega)
        unfold mnI
        split <;> omega
      · exact hp
  intro j h
  exact key _ j h (Nat.le_refl _)
theorem spd_same (w : Wk D L ns ps) {j : Nat} (h : j + 1 < ns.length) (e : ps.getD j 0 = ps.getD (j + 1) 0) : (spd ns ps).getD j 0 ≤ (spd ns ps).getD (j + 1) 0 := by
  rw [spd_rec w.eq (show j < ns.length by omega), if_pos ⟨h, e⟩]
  exact mnI_le_r _ _
theorem spd_last (w : Wk D L ns ps) (h : 0 < ns.length) : (spd ns ps).getD (ns.length - 1) 0 = ns.getD (ns.length - 1) 0 := by
  rw [spd_rec w.eq (by omega), if_neg (fun z => by omega)]
theorem ps_le (w : Wk D L ns ps) {j : Nat} (h : j + 1 < ns.length) : ps.getD j 0 ≤ ps.getD (j + 1) 0 := by
  have h2 : j + 1 < ps.length := by have := w.eq; omega
  rw [getD_lt (show j < ps.length by omega), getD_lt h2]
  exact List.pairwise_iff_getElem.mp w.rise j (j + 1) (by omega) h2 (by omega)
/-- where the one behind is quicker, they are apart -/
theorem apart (w : Wk D L ns ps) {j : Nat} (h : j + 1 < ns.length) (g : (spd ns ps).getD (j + 1) 0 < (spd ns ps).getD j 0) : ps.getD j 0 < ps.getD (j + 1) 0 := by
  have h1 := ps_le w h
  by_cases e : ps.getD j 0 = ps.getD (j + 1) 0
  · have := spd_same w h e
    omega
  · grind
theorem mnR_le_l (a b : Rat) : mnR a b ≤ a := by unfold mnR; split <;> grind
theorem mnR_le_r (a b : Rat) : mnR a b ≤ b := by unfold mnR; split <;> grind
theorem mnR_or (a b : Rat) : mnR a b = a ∨ mnR a b = b := by unfold mnR; split <;> simp
def cand (g : List Int) (ps : List Rat) (j : Nat) : Rat := (ps.getD (j + 1) 0 - ps.getD j 0) / ((g.getD j 0 - g.getD (j + 1) 0 : Int) : Rat)
theorem meetF_or (g : List Int) (ps : List Rat) (h : Rat) : ∀ i, meetF g ps h i = h ∨ ∃ j, j < i ∧ g.getD (j + 1) 0 < g.getD j 0 ∧ meetF g ps h i = cand g ps j
  | 0 => .inl rfl
  | i + 1 => by
    simp only [meetF]
    split
    · rename_i hg
      rcases mnR_or (meetF g ps h i) ((ps.getD (i + 1) 0 - ps.getD i 0) / ((g.getD i 0 - g.getD (i + 1) 0 : Int) : Rat)) with e | e
      · rw [e]
        rcases meetF_or g ps h i with e | ⟨j, hj, hgj, e⟩
        · exact .inl e
        · exact .inr ⟨j, by omega, hgj, e⟩
      · rw [e]
        exact .inr ⟨i, by omega, hg, rfl⟩
    · rcases meetF_or g ps h i with e | ⟨j, hj, hgj, e⟩
      · exact .inl e
      · exact .inr ⟨j, by omega, hgj, e⟩
theorem meetF_le (g : List Int) (ps : List Rat) (h : Rat) : ∀ i, meetF g ps h i ≤ h ∧ ∀ j, j < i → g.getD (j + 1) 0 < g.getD j 0 → meetF g ps h i ≤ cand g ps j
  | 0 => ⟨by simp only [meetF]; grind, fun j hj => by omega⟩
  | i + 1 => by
    have ih := meetF_le g ps h i
    simp only [meetF]
    split
    · rename_i hg
      have a := mnR_le_l (meetF g ps h i) ((ps.getD (i + 1) 0 - ps.getD i 0) / ((g.getD i 0 - g.getD (i + 1) 0 : Int) : Rat))
      have b := mnR_le_r (meetF g ps h i) ((ps.getD (i + 1) 0 - ps.getD i 0) / ((g.getD i 0 - g.getD (i + 1) 0 : Int) : Rat))
      refine ⟨by grind, fun j hj hgj => ?_⟩
      by_cases e : j = i
      · subst e; exact b
      · have := ih.2 j (by omega) hgj
        grind
    · rename_i hg
      refine ⟨ih.1, fun j hj hgj => ?_⟩
      by_cases e : j = i
      · subst e; exact absurd hgj hg
      · exact ih.2 j (by omega) hgj
theorem lt_div {a b : Rat} {k : Int} (hk : 0 < k) (h : a < b) : 0 < (b - a) / (k : Rat) := (Rat.lt_div_iff (cp hk)).mpr (by rw [Rat.zero_mul]; grind)
theorem div_mul {a : Rat} {k : Int} (hk : 0 < k) : a / (k : Rat) * (k : Rat) = a := Rat.div_mul_cancel (cn (by omega))
theorem div_le1 {a : Rat} {k : Int} (hk : 1 ≤ k) (ha : 0 ≤ a) : a / (k : Rat) ≤ a := by
  have e := div_mul (a := a) (show 0 < k by omega)
  have kp := cp (show 0 < k by omega)
  have h1 : (1 : Rat) ≤ (k : Rat) := Rat.intCast_le_intCast.mpr hk
  by_cases c : a / (k : Rat) < 0
  · have := Rat.mul_lt_mul_of_pos_right c kp
    grind
  · have := Rat.mul_le_mul_of_nonneg_left h1 (Rat.not_lt.mp c)
    grind
/-- the hours up to the i-th step of the search: over one of 1 to 12 parts -/
theorem meetF_ok (w : Wk D L ns ps) (hD : D ≠ 0) (hn : 0 < ns.length) {i : Nat} (hi : i ≤ ns.length - 1) : ∃ k : Int, 1 ≤ k ∧ k ≤ 12 ∧ Fr (D * k) (meetF (spd ns ps) ps (lastH L ns ps) i) ∧ 0 ≤ meetF (spd ns ps) ps (lastH L ns ps) i ∧ meetF (spd ns ps) ps (lastH L ns ps) i ≤ (L : Rat) := by
  have hle := w.eq
  have p0 := w.pace _ (getD_mem (d := 0) (show ns.length - 1 < ns.length by omega))
  have q0 := w.nn _ (getD_mem (d := 0) (show ns.length - 1 < ps.length by omega))
  have q1 := w.fire _ (getD_mem (d := 0) (show ns.length - 1 < ps.length by omega))
  have q2 := w.fr _ (getD_mem (d := 0) (show ns.length - 1 < ps.length by omega))
  have dp := cp (show 0 < ns.getD (ns.length - 1) 0 by omega)
  have em : lastH L ns ps * ((ns.getD (ns.length - 1) 0 : Int) : Rat) = (L : Rat) - ps.getD (ns.length - 1) 0 := div_mul (by omega)
  have h1 : (1 : Rat) ≤ ((ns.getD (ns.length - 1) 0 : Int) : Rat) := Rat.intCast_le_intCast.mpr p0.1
  have l0 : 0 ≤ lastH L ns ps := by
    by_cases c : lastH L ns ps < 0
    · have := Rat.mul_lt_mul_of_pos_right c dp
      grind
    · exact Rat.not_lt.mp c
  have lL : lastH L ns ps ≤ (L : Rat) := by
    have := Rat.mul_le_mul_of_nonneg_left h1 l0
    grind
  rcases meetF_or (spd ns ps) ps (lastH L ns ps) i with e | ⟨j, hj, hg, e⟩
  · rw [e]
    exact ⟨_, p0.1, p0.2, ((Fr.int hD L).sub q2).divI hD (by omega), l0, lL⟩
  · rw [e]
    have hj1 : j + 1 < ns.length := by omega
    have b0 := spd_bd w (show j < ns.length by omega)
    have b1 := spd_bd w hj1
    have ap := apart w hj1 hg
    have r2 := w.fr _ (getD_mem (d := 0) (show j < ps.length by omega))
    have r3 := w.fr _ (getD_mem (d := 0) (show j + 1 < ps.length by omega))
    refine ⟨(spd ns ps).getD j 0 - (spd ns ps).getD (j + 1) 0, by omega, by omega, (r3.sub r2).divI hD (by omega), Rat.le_of_lt (lt_div (by omega) ap), ?_⟩
    rw [← e]
    exact Rat.le_trans (meetF_le (spd ns ps) ps (lastH L ns ps) i).1 lL
theorem meet_pos (w : Wk D L ns ps) (hn : 0 < ns.length) (hf : ∀ p ∈ ps, p < (L : Rat)) : 0 < meetM L ns ps := by
  have hle := w.eq
  unfold meetM
  rcases meetF_or (spd ns ps) ps (lastH L ns ps) (ns.length - 1) with e | ⟨j, hj, hg, e⟩
  · rw [e]
    have p0 := w.pace _ (getD_mem (d := 0) (show ns.length - 1 < ns.length by omega))
    exact lt_div (by omega) (hf _ (getD_mem (d := 0) (show ns.length - 1 < ps.length by omega)))
  · rw [e]
    exact lt_div (by omega) (apart w (by omega) hg)
/-- for so long nobody is beyond the next one -/
theorem meet_order (w : Wk D L ns ps) {t : Rat} (h0 : 0 ≤ t) (ht : t ≤ meetM L ns ps) {j : Nat} (hj : j + 1 < ns.length) :
    ps.getD j 0 + t * (((spd ns ps).getD j 0 : Int) : Rat) ≤ ps.getD (j + 1) 0 + t * (((spd ns ps).getD (j + 1) 0 : Int) : Rat) := by
  have h1 := ps_le w hj
  by_cases g : (spd ns ps).getD (j + 1) 0 < (spd ns ps).getD j 0
  · have c := (meetF_le (spd ns ps) ps (lastH L ns ps) (ns.length - 1)).2 j (by omega) g
    have c2 : t ≤ cand (spd ns ps) ps j := Rat.le_trans ht c
    have kp := cp (show 0 < (spd ns ps).getD j 0 - (spd ns ps).getD (j + 1) 0 by omega)
    have e : cand (spd ns ps) ps j * (((spd ns ps).getD j 0 - (spd ns ps).getD (j + 1) 0 : Int) : Rat) = ps.getD (j + 1) 0 - ps.getD j 0 := div_mul (by omega)
    have := Rat.mul_le_mul_of_nonneg_right c2 (Rat.le_of_lt kp)
    rw [e, Rat.intCast_sub] at this
    grind
  · have k : (((spd ns ps).getD j 0 : Int) : Rat) ≤ (((spd ns ps).getD (j + 1) 0 : Int) : Rat) := Rat.intCast_le_intCast.mpr (by omega)
    have := Rat.mul_le_mul_of_nonneg_left k h0
    grind
theorem meet_fire (w : Wk D L ns ps) (hn : 0 < ns.length) {t : Rat} (ht : t ≤ meetM L ns ps) : ps.getD (ns.length - 1) 0 + t * (((spd ns ps).getD (ns.length - 1) 0 : Int) : Rat) ≤ (L : Rat) := by
  have c := (meetF_le (spd ns ps) ps (lastH L ns ps) (ns.length - 1)).1
  have c2 : t ≤ lastH L ns ps := Rat.le_trans ht c
  have p0 := w.pace _ (getD_mem (d := 0) (show ns.length - 1 < ns.length by omega))
  have e : lastH L ns ps * ((ns.getD (ns.length - 1) 0 : Int) : Rat) = (L : Rat) - ps.getD (ns.length - 1) 0 := div_mul (by omega)
  rw [spd_last w hn]
  have := Rat.mul_le_mul_of_nonneg_right c2 (Rat.le_of_lt (cp (show 0 < ns.getD (ns.length - 1) 0 by omega)))
  grind
/-- somebody has come up -/
theorem meet_come (w : Wk D L ns ps) (hn : 0 < ns.length) : (ps.getD (ns.length - 1) 0 + meetM L ns ps * (((spd ns ps).getD (ns.length - 1) 0 : Int) : Rat) = (L : Rat)) ∨
    ∃ j, j + 1 < ns.length ∧ ps.getD j 0 ≠ ps.getD (j + 1) 0 ∧ ps.getD j 0 + meetM L ns ps * (((spd ns ps).getD j 0 : Int) : Rat) = ps.getD (j + 1) 0 + meetM L ns ps * (((spd ns ps).getD (j + 1) 0 : Int) : Rat) := by
  have p0 := w.pace _ (getD_mem (d := 0) (show ns.length - 1 < ns.length by omega))
  unfold meetM
  rcases meetF_or (spd ns ps) ps (lastH L ns ps) (ns.length - 1) with e | ⟨j, hj, hg, e⟩
  · refine .inl ?_
    rw [e, spd_last w hn]
    have e : lastH L ns ps * ((ns.getD (ns.length - 1) 0 : Int) : Rat) = (L : Rat) - ps.getD (ns.length - 1) 0 := div_mul (by omega)
    grind
  · refine .inr ⟨j, by omega, ?_, ?_⟩
    · have := apart w (j := j) (by omega) hg
      grind
    · rw [e]
      have e : cand (spd ns ps) ps j * (((spd ns ps).getD j 0 - (spd ns ps).getD (j + 1) 0 : Int) : Rat) = ps.getD (j + 1) 0 - ps.getD j 0 := div_mul (by omega)
      rw [Rat.intCast_sub] at e
      grind
end

/-! ### shares -/
structure Ris (ns : List Int) : Prop where
  n1 : 1 ≤ ns.length
  n8 : ns.length ≤ 8
  pace : ∀ n ∈ ns, 1 ≤ n ∧ n ≤ 12
  rise : ns.Pairwise (· ≤ ·)
def prt (ns : List Int) (j : Nat) : Rat := ((ns.getD (j - 1) 0 : Int) : Rat) / ((ns.getD j 0 : Int) : Rat)
def boR (ns : List Int) (xs : List Rat) (j : Nat) : Rat := if j = 0 then xs.getD (ns.length - 1) 0 else prt ns j * xs.getD (j - 1) 0 + (1 - prt ns j) * xs.getD (ns.length - 1) 0
def bo (ns : List Int) (xs : List Rat) : List Rat := (List.range ns.length).map (boR ns xs)
def rnd (ns : List Int) (xs : List Rat) : Nat → List Rat
  | 0 => xs
  | r + 1 => bo ns (rnd ns xs r)
theorem bo_len (ns : List Int) (xs : List Rat) : (bo ns xs).length = ns.length := by unfold bo; rw [List.length_map, List.length_range]
theorem rnd_len {ns : List Int} {xs : List Rat} (h : xs.length = ns.length) : ∀ r, (rnd ns xs r).length = ns.length
  | 0 => h
  | _ + 1 => bo_len _ _
theorem bo_get {ns : List Int} {xs : List Rat} {j : Nat} (h : j < ns.length) : (bo ns xs).getD j 0 = boR ns xs j := by
  unfold bo
  rw [List.getD_eq_getElem?_getD, List.getElem?_map, List.getElem?_range h]
  rfl
theorem rnd_add (ns : List Int) (xs : List Rat) (a : Nat) : ∀ b, rnd ns xs (a + b) = rnd ns (rnd ns xs a) b
  | 0 => rfl
  | b + 1 => by
    show bo ns (rnd ns xs (a + b)) = bo ns (rnd ns (rnd ns xs a) b)
    rw [rnd_add ns xs a b]
theorem m12 {b : Int} (h1 : 1 ≤ b) (h2 : b ≤ 12) : ∃ m : Int, m ≠ 0 ∧ b * m = 27720 := by
  rcases (by omega : b = 1 ∨ b = 2 ∨ b = 3 ∨ b = 4 ∨ b = 5 ∨ b = 6 ∨ b = 7 ∨ b = 8 ∨ b = 9 ∨ b = 10 ∨ b = 11 ∨ b = 12) with rfl | rfl | rfl | rfl | rfl | rfl | rfl | rfl | rfl | rfl | rfl | rfl
  · exact ⟨27720, by decide, by decide⟩
  · exact ⟨13860, by decide, by decide⟩
  · exact ⟨9240, by decide, by decide⟩
  · exact ⟨6930, by decide, by decide⟩
  · exact ⟨5544, by decide, by decide⟩
  · exact ⟨4620, by decide, by decide⟩
  · exact ⟨3960, by decide, by decide⟩
  · exact ⟨3465, by decide, by decide⟩
  · exact ⟨3080, by decide, by decide⟩
  · exact ⟨2772, by decide, by decide⟩
  · exact ⟨2520, by decide, by decide⟩
  · exact ⟨2310, by decide, by decide⟩
theorem Fr.div12 {D b : Int} {a : Rat} (hD : D ≠ 0) (h : Fr D a) (h1 : 1 ≤ b) (h2 : b ≤ 12) : Fr (D * 27720) (a / (b : Rat)) := by
  obtain ⟨m, hm, e⟩ := m12 h1 h2
  have := (h.divI hD (k := b) (by omega)).scale (Int.mul_ne_zero hD (by omega)) hm
  rw [Int.mul_assoc, e] at this
  exact this
theorem Fr.up {D : Int} {a : Rat} (hD : D ≠ 0) (h : Fr D a) : Fr (D * 27720) a := h.scale hD (by decide)
theorem getI {l : List Int} {j : Nat} (h : j < l.length) : l[j]? = some (l.getD j 0) := by
  rw [List.getD_eq_getElem?_getD, List.getElem?_eq_getElem h]
  rfl
theorem ris_at {ns : List Int} (w : Ris ns) {j : Nat} (h : j < ns.length) : 1 ≤ ns.getD j 0 ∧ ns.getD j 0 ≤ 12 := w.pace _ (getD_mem h)
theorem ris_le {ns : List Int} (w : Ris ns) {j : Nat} (h : j < ns.length) : ns.getD (j - 1) 0 ≤ ns.getD j 0 := by
  by_cases c : j = 0
  · subst c; exact Int.le_refl _
  · rw [getD_lt h, getD_lt (show j - 1 < ns.length by omega)]
    exact List.pairwise_iff_getElem.mp w.rise (j - 1) j (by omega) h (by omega)
theorem prt_ok {ns : List Int} (w : Ris ns) {j : Nat} (h : j < ns.length) : 0 ≤ prt ns j ∧ prt ns j ≤ 1 ∧ Fr 27720 (prt ns j) ∧ prt ns j * ((ns.getD j 0 : Int) : Rat) = ((ns.getD (j - 1) 0 : Int) : Rat) := by
  have a := ris_at w h
  have b := ris_at w (show j - 1 < ns.length by omega)
  have l := ris_le w h
  have e : prt ns j * ((ns.getD j 0 : Int) : Rat) = ((ns.getD (j - 1) 0 : Int) : Rat) := div_mul (by omega)
  have kp := cp (show 0 < ns.getD j 0 by omega)
  have l' : ((ns.getD (j - 1) 0 : Int) : Rat) ≤ ((ns.getD j 0 : Int) : Rat) := Rat.intCast_le_intCast.mpr l
  have b' : (0 : Rat) < ((ns.getD (j - 1) 0 : Int) : Rat) := cp (by omega)
  refine ⟨?_, ?_, ?_, e⟩
  · by_cases c : prt ns j < 0
    · have := Rat.mul_lt_mul_of_pos_right c kp
      grind
    · exact Rat.not_lt.mp c
  · by_cases c : 1 < prt ns j
    · have := Rat.mul_lt_mul_of_pos_right c kp
      grind
    · exact Rat.not_lt.mp c
  · have := (Fr.int (D := 1) (by decide) (ns.getD (j - 1) 0)).div12 (b := ns.getD j 0) (by decide) a.1 a.2
    exact this
theorem prt_mul {ns : List Int} (w : Ris ns) {D : Int} {x : Rat} (hD : D ≠ 0) (hx : Fr D x) {j : Nat} (h : j < ns.length) : Fr (D * 27720) (prt ns j * x) := by
  have a := ris_at w h
  have e : prt ns j * x = (((ns.getD (j - 1) 0 : Int) : Rat) * x) / ((ns.getD j 0 : Int) : Rat) := by
    unfold prt
    have := cn (a := ns.getD j 0) (by omega)
    grind
  rw [e]
  exact (hx.mulI _).div12 hD a.1 a.2
theorem mix_rng {p x l B : Rat} (p0 : 0 ≤ p) (p1 : p ≤ 1) (x0 : 0 ≤ x) (x1 : x ≤ B) (l0 : 0 ≤ l) (l1 : l ≤ B) : (0 ≤ p * x ∧ p * x ≤ B) ∧ (0 ≤ (1 - p) * l ∧ (1 - p) * l ≤ B) ∧ 0 ≤ p * x + (1 - p) * l ∧ p * x + (1 - p) * l ≤ B := by
  have q0 : 0 ≤ 1 - p := by grind
  have a := Rat.mul_nonneg p0 x0
  have b := Rat.mul_nonneg q0 l0
  have c := Rat.mul_le_mul_of_nonneg_left x1 p0
  have d := Rat.mul_le_mul_of_nonneg_left l1 q0
  have B0 : 0 ≤ B := Rat.le_trans x0 x1
  have e := Rat.mul_le_mul_of_nonneg_right p1 B0
  have f := Rat.mul_nonneg p0 B0
  refine ⟨⟨a, by grind⟩, ⟨b, by grind⟩, by grind, by grind⟩
theorem bo_ok {ns : List Int} (w : Ris ns) {D : Int} {xs : List Rat} {B : Rat} (hD : D ≠ 0) (hl : xs.length = ns.length) (hx : ∀ x ∈ xs, Fr D x ∧ 0 ≤ x ∧ x ≤ B) : ∀ y ∈ bo ns xs, Fr (D * 27720) y ∧ 0 ≤ y ∧ y ≤ B := by
  intro y hy
  unfold bo at hy
  obtain ⟨j, hj, rfl⟩ := List.mem_map.mp hy
  rw [List.mem_range] at hj
  have n1 := w.n1
  have ml := hx _ (getD_mem (d := (0 : Rat)) (show ns.length - 1 < xs.length by omega))
  unfold boR
  by_cases c : j = 0
  · rw [if_pos c]
    exact ⟨ml.1.up hD, ml.2⟩
  · rw [if_neg c]
    have mj := hx _ (getD_mem (d := (0 : Rat)) (show j - 1 < xs.length by omega))
    have p := prt_ok w hj
    have r := mix_rng p.1 p.2.1 mj.2.1 mj.2.2 ml.2.1 ml.2.2
    refine ⟨?_, r.2.2⟩
    have e : (1 - prt ns j) * xs.getD (ns.length - 1) 0 = xs.getD (ns.length - 1) 0 - prt ns j * xs.getD (ns.length - 1) 0 := by grind
    rw [e]
    exact (prt_mul w hD mj.1 hj).add ((ml.1.up hD).sub (prt_mul w hD ml.1 hj))
theorem pw_ne {D : Int} (hD : 0 < D) (r : Nat) : 0 < D * 27720 ^ r := Int.mul_pos hD (Int.pow_pos (by decide))
theorem rnd_ok {ns : List Int} (w : Ris ns) {D : Int} {xs : List Rat} {B : Rat} (hD : 0 < D) (hl : xs.length = ns.length) (hx : ∀ x ∈ xs, Fr D x ∧ 0 ≤ x ∧ x ≤ B) : ∀ r, ∀ y ∈ rnd ns xs r, Fr (D * 27720 ^ r) y ∧ 0 ≤ y ∧ y ≤ B
  | 0 => by rw [Int.pow_zero, Int.mul_one]; exact hx
  | r + 1 => by
    rw [Int.pow_succ, ← Int.mul_assoc]
    exact bo_ok w (by have := pw_ne hD r; omega) (rnd_len hl r) (rnd_ok w hD hl hx r)
theorem pw_bd {D : Int} (hd : D.natAbs < 2 ^ 1000) {r : Nat} (hr : r ≤ 25) : (D * 27720 ^ r).natAbs < 2 ^ 3900 := by
  rw [Int.natAbs_mul, Int.natAbs_pow]
  have h1 : 27720 ^ r ≤ 27720 ^ 25 := Nat.pow_le_pow_right (by decide) hr
  have h2 : D.natAbs * 27720 ^ r ≤ 2 ^ 1000 * 27720 ^ 25 := Nat.mul_le_mul (Nat.le_of_lt hd) h1
  have h3 : (27720 : Nat) ^ 25 < 2 ^ 400 := by decide
  have h4 : 2 ^ 1000 * 27720 ^ 25 < 2 ^ 1000 * 2 ^ 400 := Nat.mul_lt_mul_of_pos_left h3 (Nat.two_pow_pos _)
  rw [← Nat.pow_add] at h4
  have h5 : (2 : Nat) ^ (1000 + 400) < 2 ^ 3900 := Nat.pow_lt_pow_right (by decide) (by decide)
  have h6 : (27720 : Int).natAbs = 27720 := rfl
  rw [h6]
  omega

theorem shaped_am (x : Am) : SeqAt.shaped (.tuple [.int x.1, .int x.2]) = true := by
  simp [SeqAt.shaped, PyData.canLay0, PyData.canLayAll0, PyData.depth, PyData.depthAll]
theorem eqv_am (x y : Am) : PyData.eqv (.tuple [.int x.1, .int x.2]) (.tuple [.int y.1, .int y.2]) = decide (x = y) := by
  obtain ⟨a, b⟩ := x
  obtain ⟨c, d⟩ := y
  simp only [PyData.eqv, PyData.eqvAll, Bool.and_true, Prod.mk.injEq]
  by_cases h1 : a = c <;> by_cases h2 : b = d <;> simp [h1, h2]
theorem ne_am {x y : Am} (h : x = y) : (!PyData.eqv (.tuple [.int x.1, .int x.2]) (.tuple [.int y.1, .int y.2])) = false := by rw [eqv_am, decide_eq_true h]; rfl

theorem dpa_ints {K : PySem.W.Frag} {H : Hp} : ∀ ns : List Int, DpAll K H (ns.map V.int) (ns.map PyData.int)
  | [] => .nil
  | n :: ns => .cons (.int n) (dpa_ints ns)
theorem dp_ints {K : PySem.W.Frag} {H : Hp} {a : Addr} {ns : List Int} (h : SqL K H a (ns.map V.int)) : Dp K H (.ref a) (.list (ns.map PyData.int)) := .lst h (dpa_ints ns)
theorem depOk_ints {n : Nat} {ns : List Int} (h : ns.length ≤ 9000) : depOk (n + 1) (.list (ns.map PyData.int)) = true := by
  show (decide ((ns.map PyData.int).length ≤ 9000) && (ns.map PyData.int).all (depOk n)) = true
  rw [List.length_map, decide_eq_true h, Bool.true_and, List.all_map]
  exact List.all_eq_true.mpr fun q _ => by cases n <;> rfl
theorem depOk_amsN {n : Nat} {qs : List Am} (h : qs.length ≤ 9000) : depOk (n + 2) (.list (qs.map amD)) = true := by
  show (decide ((qs.map amD).length ≤ 9000) && (qs.map amD).all (depOk (n + 1))) = true
  rw [List.length_map, decide_eq_true h, Bool.true_and, List.all_map]
  refine List.all_eq_true.mpr fun q _ => ?_
  cases n <;> rfl

theorem ok_p_minus {f : Addr} {fd : FuncData} (F : Fun K "minus" "minus" s_p_minus f fd) (F_p_amount : Fn P w K mg base 2 "amount" ["num", "den"] (sp_p_amount K T)) : FnOk P w K mg base CX0 3 f fd ["one", "other"] (sp_p_minus K T) := by
  refine F.ok sc_p_minus (fun vs H Q E h => ?_) (fun cdv A outer s H vs Q E hr h => ?_)
  · obtain ⟨a, b, x, y, rfl, _⟩ := h
    rfl
  · obtain ⟨a, b, x, y, rfl, ha, hb, ⟨bx, by_⟩, ⟨hx, hy⟩, q⟩ := h
    refine ⟨_, (pss_one (ps_ret (pe_fn F_p_amount (hr.mono (by decide)) (pa_cons (pe_op op_sub (pe_op op_mulW (pe_ix ix_tup (pv 0) pe_int (fun _ _ => rfl)) (pe_ix ix_tup (pv 1) pe_int (fun _ _ => rfl))) (pe_op op_mulW (pe_ix ix_tup (pv 1) pe_int (fun _ _ => rfl)) (pe_ix ix_tup (pv 0) pe_int (fun _ _ => rfl)))) (pa_cons (pe_op op_mulW (pe_ix ix_tup (pv 0) pe_int (fun _ _ => rfl)) (pe_ix ix_tup (pv 1) pe_int (fun _ _ => rfl))) pa_nil))))), ?_⟩
    refine ⟨_, rfl, a, _, 0, .int x.1, rfl, rfl, ha, atI_nat (j := 0) rfl, _, rfl, b, _, 1, .int y.2, rfl, rfl, hb, atI_nat (j := 1) rfl, _, _, rfl, rfl, wm bx.1 by_.2, ?_⟩
    refine ⟨_, rfl, b, _, 0, .int y.1, rfl, rfl, hb, atI_nat (j := 0) rfl, _, rfl, a, _, 1, .int x.2, rfl, rfl, ha, atI_nat (j := 1) rfl, _, _, rfl, rfl, wm by_.1 bx.2, _, _, rfl, rfl, ?_⟩
    refine ⟨_, rfl, a, _, 1, .int x.2, rfl, rfl, ha, atI_nat (j := 1) rfl, _, rfl, b, _, 1, .int y.2, rfl, rfl, hb, atI_nat (j := 1) rfl, _, _, rfl, rfl, wm bx.2 by_.2, ?_⟩
    exact ⟨_, _, rfl, Int.mul_ne_zero (by omega) (by omega), wl bx.2 by_.2, q⟩

theorem ok_p_over {f : Addr} {fd : FuncData} (F : Fun K "over" "over" s_p_over f fd) (F_p_amount : Fn P w K mg base 2 "amount" ["num", "den"] (sp_p_amount K T)) : FnOk P w K mg base CX0 3 f fd ["one", "other"] (sp_p_over K T) := by
  refine F.ok sc_p_over (fun vs H Q E h => ?_) (fun cdv A outer s H vs Q E hr h => ?_)
  · obtain ⟨a, b, x, y, rfl, _⟩ := h
    rfl
  · obtain ⟨a, b, x, y, rfl, ha, hb, ⟨bx, by_⟩, ⟨hx, hy, hn⟩, q⟩ := h
    refine ⟨_, (pss_one (ps_ret (pe_fn F_p_amount (hr.mono (by decide)) (pa_cons (pe_op op_mulW (pe_ix ix_tup (pv 0) pe_int (fun _ _ => rfl)) (pe_ix ix_tup (pv 1) pe_int (fun _ _ => rfl))) (pa_cons (pe_op op_mulW (pe_ix ix_tup (pv 0) pe_int (fun _ _ => rfl)) (pe_ix ix_tup (pv 1) pe_int (fun _ _ => rfl))) pa_nil))))), ?_⟩
    refine ⟨_, rfl, a, _, 0, .int x.1, rfl, rfl, ha, atI_nat (j := 0) rfl, _, rfl, b, _, 1, .int y.2, rfl, rfl, hb, atI_nat (j := 1) rfl, _, _, rfl, rfl, wm bx.1 by_.2, ?_⟩
    refine ⟨_, rfl, a, _, 1, .int x.2, rfl, rfl, ha, atI_nat (j := 1) rfl, _, rfl, b, _, 0, .int y.1, rfl, rfl, hb, atI_nat (j := 0) rfl, _, _, rfl, rfl, wm bx.2 by_.1, ?_⟩
    exact ⟨_, _, rfl, Int.mul_ne_zero (by omega) hn, wl bx.2 by_.1, q⟩

theorem ok_p_below {f : Addr} {fd : FuncData} (F : Fun K "below" "below" s_p_below f fd) : FnOk P w K mg base CX0 1 f fd ["one", "other"] (sp_p_below K T) := by
  refine F.ok sc_p_below (fun vs H Q E h => ?_) (fun cdv A outer s H vs Q E hr h => ?_)
  · obtain ⟨a, b, x, y, rfl, _⟩ := h
    rfl
  · obtain ⟨a, b, x, y, rfl, ha, hb, ⟨bx, by_⟩, q⟩ := h
    refine ⟨_, (pss_one (ps_ret (pe_cmpR op_lt (pe_op op_mulW (pe_ix ix_tup (pv 0) pe_int (fun _ _ => rfl)) (pe_ix ix_tup (pv 1) pe_int (fun _ _ => rfl))) (pe_op op_mulW (pe_ix ix_tup (pv 1) pe_int (fun _ _ => rfl)) (pe_ix ix_tup (pv 0) pe_int (fun _ _ => rfl))) (nomark _)))), ?_⟩
    refine ⟨_, rfl, a, _, 0, .int x.1, rfl, rfl, ha, atI_nat (j := 0) rfl, _, rfl, b, _, 1, .int y.2, rfl, rfl, hb, atI_nat (j := 1) rfl, _, _, rfl, rfl, wm bx.1 by_.2, ?_⟩
    exact ⟨_, rfl, b, _, 0, .int y.1, rfl, rfl, hb, atI_nat (j := 0) rfl, _, rfl, a, _, 1, .int x.2, rfl, rfl, ha, atI_nat (j := 1) rfl, _, _, rfl, rfl, wm by_.1 bx.2, _, _, rfl, rfl, q⟩

theorem ok_PailError {f : Addr} {fd : FuncData} (F : Fun K "__init__" "PailError.__init__" s_p_PailError___init__ f fd) (mV : mg "ValueError" = none) (vV : PySem.W.findCls K (.type "ValueError") (.type "type") "__init__" = some (.val (.builtin "ValueError.__init__"))) :
    FnOk P w K mg base CX0 1 f fd ["self", "word"] (spInit2 K) := by
  refine F.ok sc_p_PailError___init__ (fun vs H Q E h => ?_) (fun cdv A outer s H vs Q E hr h => ?_)
  · obtain ⟨a, C, w, rfl, _⟩ := h
    rfl
  · obtain ⟨a, C, w, rfl, oc, nw, ea, q⟩ := h
    refine ⟨_, (pss_cons (ps_expr (pe_veinit (by rfl) mV vV (pa_cons (pv 0) (pa_cons (pv 1) pa_nil))))
      (pss_one (ps_ost (pv 0) (pv 1)))), ?_⟩
    refine ⟨_, rfl, _, rfl, a, C, [.str w], rfl, by show 1 ≤ 1000; decide, oc, ea, ?_⟩
    exact ⟨_, rfl, _, rfl, a, C, rfl, oc, nw, .inl ⟨ea, fun dx n ne => q dx n ne⟩⟩
theorem ok_BadWay {f fP CP : Addr} {fd fdP : FuncData} {mc : Value} (F : Fun K "__init__" "BadWay.__init__" s_p_BadWay___init__ f fd) (cr : ClX.CRead K CP mc) (hat : PySem.W.findCls K (.ref CP) mc "__init__" = some (.val (.ref fP))) (FP : FnOk P w K mg base CX0 1 fP fdP ["self", "word"] (spInit2 K))
    (gP : mg "PailError" = some (.ref CP)) (kP : PySem.W.keepIn K (.ref fP) = true) (bP : Binds K fdP ["self", "word"] []) : FnOk P w K mg base CX0 2 f fd ["self"] (spInit "bad way" K) := by
  refine F.ok sc_p_BadWay___init__ (fun vs H Q E h => ?_) (fun cdv A outer s H vs Q E hr h => ?_)
  · obtain ⟨a, C, rfl, _⟩ := h
    rfl
  · obtain ⟨a, C, rfl, oc, nw, ea, q⟩ := h
    refine ⟨_, (pss_one (ps_expr (pe_clsfn cr hat FP hr (by rfl) gP kP bP (pa_cons (pv 0) (pa_cons pe_str pa_nil))))), ?_⟩
    exact ⟨_, rfl, a, C, "bad way", rfl, oc, nw, ea, q⟩
theorem ok_BadPace {f fP CP : Addr} {fd fdP : FuncData} {mc : Value} (F : Fun K "__init__" "BadPace.__init__" s_p_BadPace___init__ f fd) (cr : ClX.CRead K CP mc) (hat : PySem.W.findCls K (.ref CP) mc "__init__" = some (.val (.ref fP))) (FP : FnOk P w K mg base CX0 1 fP fdP ["self", "word"] (spInit2 K))
    (gP : mg "PailError" = some (.ref CP)) (kP : PySem.W.keepIn K (.ref fP) = true) (bP : Binds K fdP ["self", "word"] []) : FnOk P w K mg base CX0 2 f fd ["self"] (spInit "bad pace" K) := by
  refine F.ok sc_p_BadPace___init__ (fun vs H Q E h => ?_) (fun cdv A outer s H vs Q E hr h => ?_)
  · obtain ⟨a, C, rfl, _⟩ := h
    rfl
  · obtain ⟨a, C, rfl, oc, nw, ea, q⟩ := h
    refine ⟨_, (pss_one (ps_expr (pe_clsfn cr hat FP hr (by rfl) gP kP bP (pa_cons (pv 0) (pa_cons pe_str pa_nil))))), ?_⟩
    exact ⟨_, rfl, a, C, "bad pace", rfl, oc, nw, ea, q⟩
theorem ok_BadCount {f fP CP : Addr} {fd fdP : FuncData} {mc : Value} (F : Fun K "__init__" "BadCount.__init__" s_p_BadCount___init__ f fd) (cr : ClX.CRead K CP mc) (hat : PySem.W.findCls K (.ref CP) mc "__init__" = some (.val (.ref fP))) (FP : FnOk P w K mg base CX0 1 fP fdP ["self", "word"] (spInit2 K))
    (gP : mg "PailError" = some (.ref CP)) (kP : PySem.W.keepIn K (.ref fP) = true) (bP : Binds K fdP ["self", "word"] []) : FnOk P w K mg base CX0 2 f fd ["self"] (spInit "bad count" K) := by
  refine F.ok sc_p_BadCount___init__ (fun vs H Q E h => ?_) (fun cdv A outer s H vs Q E hr h => ?_)
  · obtain ⟨a, C, rfl, _⟩ := h
    rfl
  · obtain ⟨a, C, rfl, oc, nw, ea, q⟩ := h
    refine ⟨_, (pss_one (ps_expr (pe_clsfn cr hat FP hr (by rfl) gP kP bP (pa_cons (pv 0) (pa_cons pe_str pa_nil))))), ?_⟩
    exact ⟨_, rfl, a, C, "bad count", rfl, oc, nw, ea, q⟩
theorem ok_BadPlace {f fP CP : Addr} {fd fdP : FuncData} {mc : Value} (F : Fun K "__init__" "BadPlace.__init__" s_p_BadPlace___init__ f fd) (cr : ClX.CRead K CP mc) (hat : PySem.W.findCls K (.ref CP) mc "__init__" = some (.val (.ref fP))) (FP : FnOk P w K mg base CX0 1 fP fdP ["self", "word"] (spInit2 K))
    (gP : mg "PailError" = some (.ref CP)) (kP : PySem.W.keepIn K (.ref fP) = true) (bP : Binds K fdP ["self", "word"] []) : FnOk P w K mg base CX0 2 f fd ["self"] (spInit "bad place" K) := by
  refine F.ok sc_p_BadPlace___init__ (fun vs H Q E h => ?_) (fun cdv A outer s H vs Q E hr h => ?_)
  · obtain ⟨a, C, rfl, _⟩ := h
    rfl
  · obtain ⟨a, C, rfl, oc, nw, ea, q⟩ := h
    refine ⟨_, (pss_one (ps_expr (pe_clsfn cr hat FP hr (by rfl) gP kP bP (pa_cons (pv 0) (pa_cons pe_str pa_nil))))), ?_⟩
    exact ⟨_, rfl, a, C, "bad place", rfl, oc, nw, ea, q⟩
theorem ok_NotRising {f fP CP : Addr} {fd fdP : FuncData} {mc : Value} (F : Fun K "__init__" "NotRising.__init__" s_p_NotRising___init__ f fd) (cr : ClX.CRead K CP mc) (hat : PySem.W.findCls K (.ref CP) mc "__init__" = some (.val (.ref fP))) (FP : FnOk P w K mg base CX0 1 fP fdP ["self", "word"] (spInit2 K))
    (gP : mg "PailError" = some (.ref CP)) (kP : PySem.W.keepIn K (.ref fP) = true) (bP : Binds K fdP ["self", "word"] []) : FnOk P w K mg base CX0 2 f fd ["self"] (spInit "not rising" K) := by
  refine F.ok sc_p_NotRising___init__ (fun vs H Q E h => ?_) (fun cdv A outer s H vs Q E hr h => ?_)
  · obtain ⟨a, C, rfl, _⟩ := h
    rfl
  · obtain ⟨a, C, rfl, oc, nw, ea, q⟩ := h
    refine ⟨_, (pss_one (ps_expr (pe_clsfn cr hat FP hr (by rfl) gP kP bP (pa_cons (pv 0) (pa_cons pe_str pa_nil))))), ?_⟩
    exact ⟨_, rfl, a, C, "not rising", rfl, oc, nw, ea, q⟩

theorem Drawn.get : ∀ {ds qs : List Int} {i : Nat} {q : Int}, Drawn ds qs → qs[i]? = some q → ∃ d, ds[i]? = some d ∧ 0 ≤ d ∧ d < q
  | [], [], i, q, _, e => by simp at e
  | [], _ :: _, _, _, h, _ => h.elim
  | _ :: _, [], _, _, h, _ => h.elim
  | d :: _, _ :: _, 0, q, h, e => by
    obtain rfl := Option.some.inj e
    exact ⟨d, rfl, h.1.1, h.1.2⟩
  | _ :: ds, _ :: qs, i + 1, q, h, e => Drawn.get (ds := ds) (qs := qs) h.2 e
theorem at_map {ds : List Int} {i : Nat} {d z : Int} (hz : z = (i : Int)) (h : ds[i]? = some d) : atI (ds.map V.int) z = some (.int d) := by
  subst hz
  exact at_of (j := i) rfl (by rw [List.getElem?_map, h]; rfl)

theorem am_at {K : PySem.W.Frag} {H : Hp} {us : List V} {ps : List Rat} (hd : DpAll K H us ((ps.map am).map amD)) {i : Nat} (hi : i < ps.length) : ∃ b, us[i]? = some (.ref b) ∧ SqT K H b (tv (am ps[i])) := by
  obtain ⟨v, e1, e2⟩ := dpa_get hd (i := i) (d := amD (am ps[i])) (by rw [List.getElem?_map, List.getElem?_map, List.getElem?_eq_getElem hi]; rfl)
  obtain ⟨b, rfl, hb⟩ := pd_at e2
  exact ⟨b, e1, hb⟩

theorem bd_int {k : Int} (h : k.natAbs < 2 ^ 3900) : Bd 4000 ((k, 1) : Am) := ⟨Nat.lt_trans h (Nat.pow_lt_pow_right (by decide) (by decide)), by show (1 : Int).natAbs < 2 ^ 4000; exact Nat.one_lt_two_pow (by decide)⟩
theorem small {k : Int} (h : k.natAbs < 2 ^ 60) : k.natAbs < 2 ^ 3900 := Nat.lt_trans h (Nat.pow_lt_pow_right (by decide) (by decide))
theorem bd_fr {D k : Int} {r : Rat} (hD : 0 < D) (hd : D.natAbs < 2 ^ 3900) (h1 : 1 ≤ k) (h2 : k ≤ 12) (h : Fr (D * k) r) (h3 : -(1000 : Rat) ≤ r) (h4 : r ≤ 1000) : Bd 4000 (am r) := by
  have e : (2 : Nat) ^ 4000 = 2 ^ 100 * 2 ^ 3900 := by rw [← Nat.pow_add]
  have a1 : (D * k).natAbs ≤ 16 * D.natAbs := by rw [Int.natAbs_mul, Nat.mul_comm]; exact Nat.mul_le_mul_right _ (by omega)
  have a2 : (1000 * (D * k)).natAbs ≤ 16000 * D.natAbs := by rw [Int.natAbs_mul]; show 1000 * _ ≤ _; omega
  have a3 : (2 : Nat) ^ 100 * 2 ^ 3900 ≥ 16000 * 2 ^ 3900 := Nat.mul_le_mul_right _ (by decide)
  exact fr_bd (D := D * k) (B := 1000) (Int.mul_pos hD (by omega)) h h3 h4 (by omega) (by omega)
theorem bd_fr1 {D : Int} {r : Rat} (hD : 0 < D) (hd : D.natAbs < 2 ^ 3900) (h : Fr D r) (h3 : -(1000 : Rat) ≤ r) (h4 : r ≤ 1000) : Bd 4000 (am r) :=
  bd_fr (k := 1) hD hd (by decide) (by decide) (by rw [Int.mul_one]; exact h) h3 h4

theorem bdL {D : Int} {r : Rat} (hD : 0 < D) (hd : D.natAbs < 2 ^ 3900) (h : Fr D r) (h3 : 0 ≤ r) (h4 : r ≤ 1000000) : Bd 4000 (am r) := by
  have e : (2 : Nat) ^ 4000 = 2 ^ 100 * 2 ^ 3900 := by rw [← Nat.pow_add]
  have a2 : (1000000 * D).natAbs ≤ 1000000 * D.natAbs := by rw [Int.natAbs_mul]; exact Nat.le_refl _
  have a3 : (2 : Nat) ^ 100 * 2 ^ 3900 ≥ 1000001 * 2 ^ 3900 := Nat.mul_le_mul_right _ (by decide)
  exact fr_bd (D := D) (B := 1000000) hD h (neg_le h3 (by decide)) h4 (by omega) (by omega)
theorem bdX {D : Int} {r : Rat} (hD : 0 < D) (hd : D.natAbs < 2 ^ 3900) (h : Fr D r) (h3 : 0 ≤ r) (h4 : r ≤ 1000000000) : Bd 4000 (am r) := by
  have e : (2 : Nat) ^ 4000 = 2 ^ 100 * 2 ^ 3900 := by rw [← Nat.pow_add]
  have a2 : (1000000000 * D).natAbs ≤ 1000000000 * D.natAbs := by rw [Int.natAbs_mul]; exact Nat.le_refl _
  have a3 : (2 : Nat) ^ 100 * 2 ^ 3900 ≥ 1000000001 * 2 ^ 3900 := Nat.mul_le_mul_right _ (by decide)
  exact fr_bd (D := D) (B := 1000000000) hD h (neg_le h3 (by decide)) h4 (by omega) (by omega)
theorem mul_rng {m L g : Rat} (h0 : 0 ≤ m) (h1 : m ≤ L) (g0 : 1 ≤ g) (g1 : g ≤ 12) : 0 ≤ m * g ∧ m * g ≤ 12 * L := by
  have a := Rat.mul_le_mul_of_nonneg_left g1 h0
  have b := Rat.mul_le_mul_of_nonneg_left g0 h0
  exact ⟨by grind, by grind⟩
theorem mul_rng0 {m L g : Rat} (h0 : 0 ≤ m) (h1 : m ≤ L) (g0 : 0 ≤ g) (g1 : g ≤ 12) : 0 ≤ m * g ∧ m * g ≤ 12 * L := by
  have a := Rat.mul_le_mul_of_nonneg_left g1 h0
  have b := Rat.mul_nonneg h0 g0
  exact ⟨b, by grind⟩
theorem div_nn {a : Rat} {k : Int} (hk : 1 ≤ k) (ha : 0 ≤ a) : 0 ≤ a / (k : Rat) := by
  have e := div_mul (a := a) (show 0 < k by omega)
  by_cases c : a / (k : Rat) < 0
  · have := Rat.mul_lt_mul_of_pos_right c (cp (show 0 < k by omega))
    grind
  · exact Rat.not_lt.mp c
/-- lists of amounts -/
def AmL (K : PySem.W.Frag) (H : Hp) (us : List V) (rs : List Rat) : Prop := DpAll K H us ((rs.map am).map amD)
theorem AmL.len {K : PySem.W.Frag} {H : Hp} {us : List V} {rs : List Rat} (h : AmL K H us rs) : us.length = rs.length := by rw [dpa_len h, List.length_map, List.length_map]
theorem AmL.at {K : PySem.W.Frag} {H : Hp} {us : List V} {rs : List Rat} (h : AmL K H us rs) {i : Nat} (hi : i < rs.length) : ∃ b, us[i]? = some (.ref b) ∧ SqT K H b (tv (am (rs.getD i 0))) := by
  rw [getD_lt hi]
  exact am_at h hi
theorem AmL.keep {T : Tb} {K : PySem.W.Frag} {H H' : Hp} {us : List V} {rs : List Rat} (h : AmL K H us rs) (s : Sm T H H') : AmL K H' us rs := dpa_same s _ _ h
theorem AmL.push {K : PySem.W.Frag} {H : Hp} {us : List V} {rs : List Rat} {D b : Addr} {xs : List V} {o : HO} {r : Rat} (h : AmL K H us rs) (hD : H D = some (.lst xs)) (hb : SqT K H b (tv (am r))) : AmL K (upd H D o) (us ++ [.ref b]) (rs ++ [r]) := by
  unfold AmL
  rw [List.map_append, List.map_append]
  exact dpa_app (pds_mut hD h) (.cons (pd_mut (amD_dp hb) hD) .nil)
theorem AmL.mut {K : PySem.W.Frag} {H : Hp} {us : List V} {rs : List Rat} {D : Addr} {xs : List V} {o : HO} (h : AmL K H us rs) (hD : H D = some (.lst xs)) : AmL K (upd H D o) us rs := pds_mut hD h
theorem AmL.dp {K : PySem.W.Frag} {H : Hp} {us : List V} {rs : List Rat} {a : Addr} (h : AmL K H us rs) (ha : SqL K H a us) : Dp K H (.ref a) (.list ((rs.map am).map amD)) := .lst ha h
theorem take_range {α : Type} {f : Nat → α} {i : Nat} : ((List.range (i + 1)).map f) = (List.range i).map f ++ [f i] := by rw [List.range_succ, List.map_append]; rfl

theorem at_neg1 {α : Type} {xs : List α} {v : α} (h : 0 < xs.length) (e : xs[xs.length - 1]? = some v) : atI xs (-1) = some v := by
  have hne : xs ≠ [] := by intro c; rw [c] at h; exact Nat.lt_irrefl _ h
  obtain ⟨ys, z, rfl⟩ : ∃ ys z, xs = ys ++ [z] := ⟨xs.dropLast, xs.getLast hne, (List.dropLast_concat_getLast hne).symm⟩
  rw [List.length_append, show ys.length + [z].length - 1 = ys.length by simp, List.getElem?_append_right (Nat.le_refl _), Nat.sub_self] at e
  obtain rfl : z = v := Option.some.inj e
  exact atI_last _ _

theorem by_am (r : Rat) {k : Int} (hk : 0 < k) : amt (am r).1 ((am r).2 * k) = am (r / (k : Rat)) := by
  have h1 := am_pos r
  rw [amt_am (Int.mul_ne_zero (by omega) (by omega))]
  congr 1
  have e1 := vl_am r
  unfold vl at e1
  have k1 := cn (a := (am r).2) (by omega)
  have k2 := cn (a := k) (by omega)
  rw [Rat.intCast_mul]
  grind
theorem mul_am (r : Rat) (k : Int) : amt ((am r).1 * k) (am r).2 = am (r * (k : Rat)) := by
  have h1 := am_pos r
  rw [amt_am (by omega)]
  congr 1
  have e1 := vl_am r
  unfold vl at e1
  have k1 := cn (a := (am r).2) (by omega)
  rw [Rat.intCast_mul]
  grind

def sp_l_cell (K : PySem.W.Frag) (T : Tb) : Sp := fun vs H Q _ => ∃ (a : Addr) (ns : List Int) (k : Int), vs = [.ref a, .int k] ∧ SqL K H a (ns.map V.int) ∧ 0 ≤ k ∧ ∀ z : Int, Q (.int z) H
theorem ok_l_cell {f : Addr} {fd : FuncData} (F : Fun K "_law_cell" "_law_cell" s_l_cell f fd) (B : Bn mg) : FnOk P w K mg base CX0 1 f fd ["_law_script", "_law_k"] (sp_l_cell K T) := by
  refine F.ok sc_l_cell (fun vs H Q E h => ?_) (fun cdv A outer s H vs Q E hr h => ?_)
  · obtain ⟨a, ns, k, rfl, _⟩ := h
    rfl
  · obtain ⟨a, ns, k, rfl, hS, hk, q⟩ := h
    refine ⟨_, (pss_cons (ps_if (pt_cmpR op_lt (pv 1) (pe_callB call_len_seq (by rfl) B.len_ (by decide +kernel) (pa_cons (pv 0) pa_nil)) (nomark _)) (pss_one (ps_ret (pe_ix ix_list (pv 0) (pv 1) (fun _ _ => rfl)))) pss_nil)
      (pss_one (ps_ret (pe_op op_add (pe_op op_add (pe_op op_mul (pe_op op_mod (pe_callB (cr_sum rfl) (by rfl) B.sum_ (by decide +kernel) (pa_cons (pv 0) pa_nil)) pe_int) pe_int) (pe_op op_mul (pe_callB call_len_seq (by rfl) B.len_ (by decide +kernel) (pa_cons (pv 0) pa_nil)) pe_int)) (pe_op op_mul (pv 1) pe_int))))), ?_⟩
    refine ⟨_, rfl, _, rfl, a, _, rfl, .inl hS, _, _, rfl, rfl, _, rfl, ite2 (fun e => ?_) (fun e => ?_)⟩
    · have e' : k < ((ns.map V.int).length : Int) := of_decide_eq_true e
      rw [List.length_map] at e'
      obtain ⟨j, rfl⟩ : ∃ j : Nat, k = (j : Int) := ⟨k.toNat, by omega⟩
      have hj : j < ns.length := by omega
      refine ⟨_, rfl, _, rfl, a, _, _, .int ns[j], rfl, rfl, hS, atI_nat (by rw [List.getElem?_map, List.getElem?_eq_getElem hj]; rfl), q _⟩
    · refine ⟨_, rfl, a, ns, rfl, hS, ?_⟩
      refine ⟨_, _, rfl, rfl, (by show (0 : Int) < 1000003; decide), _, _, rfl, rfl, .inr ⟨by decide, by decide⟩, ?_⟩
      refine ⟨_, rfl, a, _, rfl, .inl hS, _, _, rfl, rfl, .inr ⟨by decide, by decide⟩, _, _, rfl, rfl, ?_⟩
      refine ⟨_, rfl, _, _, rfl, rfl, .inr ⟨by decide, by decide⟩, _, _, rfl, rfl, q _⟩

def sp_l_draws (K : PySem.W.Frag) (T : Tb) : Sp := fun vs H Q _ => ∃ (c : Int) (a : Addr) (qs : List Int), vs = [.int c, .ref a] ∧ SqL K H a (qs.map V.int) ∧ qs.length ≤ 1000 ∧ (∀ q ∈ qs, 0 < q ∧ q.natAbs < 2 ^ 100) ∧
  ∀ p H' (ds : List Int), Sm T H H' → H p = none → H' p = some (.lst (ds.map V.int)) → Drawn ds qs → Q (.ref p) H'
theorem ok_l_draws {f : Addr} {fd : FuncData} (F : Fun K "_law_draws" "_law_draws" s_l_draws f fd) : FnOk P w K mg base CX0 1 f fd ["_law_cell_here", "_law_parts"] (sp_l_draws K T) := by
  refine F.ok sc_l_draws (fun vs H Q E h => ?_) (fun cdv A outer s H vs Q E hr h => ?_)
  · obtain ⟨c, a, qs, rfl, _⟩ := h
    rfl
  · obtain ⟨c, a, qs, rfl, hS, hlen, hpos, q⟩ := h
    refine ⟨_, (pss_cons (ps_if (pt_cmpR op_lt (pv 0) (pe_op op_pow pe_int pe_int) (nomark _)) (pss_cons (ps_set (i := 2) sc_l_draws.nd rfl (.inl rfl) (pe_op op_mod (pe_op op_add (pe_op op_mul (pv 0) pe_int) pe_int) pe_int))
      (pss_cons (ps_set (i := 3) sc_l_draws.nd rfl (.inl rfl) (pe_op op_mod (pe_op op_add (pe_op op_add (pe_op op_mul (pv 2) (pv 2)) (pe_op op_mul pe_int (pv 2))) (pv 0)) pe_int))
      (pss_cons (ps_set (i := 4) sc_l_draws.nd rfl (.inl rfl) (pe_op op_mod (pe_op op_add (pe_op op_mul (pv 3) pe_int) (pv 2)) pe_int))
      (pss_one (ps_set (i := 0) sc_l_draws.nd rfl (.inl rfl) (pe_op op_add (pv 3) (pe_op op_mul pe_int (pe_op op_add (pv 4) (pe_op op_mul pe_int (pv 2)))))))))) (pss_one (ps_set (i := 0) sc_l_draws.nd rfl (.inl rfl) (pe_op op_sub (pv 0) (pe_op op_pow pe_int pe_int)))))
      (pss_cons (ps_set (i := 5) sc_l_draws.nd rfl (.inl rfl) (pe_lst pa_nil))
      (pss_cons (ps_for PassesOwn.never rfl (pi_list (pv 1)) (pg_name (i := 6) sc_l_draws.nd rfl (.inl rfl))
      (pss_cons (ps_expr (pe_bm PySem.F.plainAttrs_list PySem.F.slot_list_append PySem.F.type_list_append mt_append (pv 5) (pa_cons (pe_op op_mod (pv 0) (pv 6)) pa_nil)))
      (pss_one (ps_set (i := 0) sc_l_draws.nd rfl (.inl rfl) (pe_op op_fdivW (pv 0) (pv 6))))))
      (pss_one (ps_ret (pv 5)))))), ?_⟩
    refine seq_if (fun σ' H' => H' = H ∧ ∃ (c : Int) (x2 x3 x4 : Option V), σ' = [some (.int c), some (.ref a), x2, x3, x4, none, none]) (fun σ' H' p => ?_) (fun k => ?_)
    · obtain ⟨rfl, c, x2, x3, x4, rfl⟩ := p
      refine ⟨Nat.zero_le _, fun o no => ?_⟩
      refine ⟨_, rfl, a, rfl, ⟨_, (same_upd (T := T) no).seq hS⟩, for_list (K := K) (a := a) (xs := qs.map V.int)
        (fun i σ H3 => ∃ (c : Int) (x6 : Option V) (ds : List Int), σ = [some (.int c), some (.ref a), x2, x3, x4, some (.ref o), x6] ∧ Sm T H' H3 ∧ H3 o = some (.lst (ds.map V.int)) ∧ Drawn ds (qs.take i))
        ⟨c, none, [], rfl, same_upd no, upd_same, trivial⟩ (fun i σ H3 _ ⟨_, _, _, _, sm, _⟩ => sm.seq hS) ?_ ?_⟩
      · rintro i y σ H3 hi ⟨c, x6, ds, rfl, sm, eo, hd⟩
        rw [List.getElem?_map] at hi
        obtain ⟨qi, hq, rfl⟩ : ∃ qi, qs[i]? = some qi ∧ V.int qi = y := Option.map_eq_some_iff.mp hi
        have hqm := hpos qi (List.mem_of_getElem? hq)
        have hil : i < qs.length := (List.getElem?_eq_some_iff.mp hq).1
        refine ⟨_, rfl, .inl ⟨rfl, _, SqL.of eo⟩, _, rfl, _, rfl, _, _, rfl, rfl, hqm.1, o, _, _, rfl, rfl, eo, ?_, ?_⟩
        · rw [List.length_map, hd.length, List.length_take]
          exact szl (by omega)
        · refine ⟨_, rfl, _, rfl, _, _, rfl, rfl, wide_div hqm.1 hqm.2 (by decide) (by decide), ?_⟩
          refine ⟨_, _, ds ++ [c % qi], rfl, same_mut sm no eo, ?_, ?_⟩
          · rw [upd_same, List.map_append]
            rfl
          · rw [List.take_add_one, hq]
            exact hd.snoc (Int.emod_nonneg _ (by omega)) (Int.emod_lt_of_pos _ hqm.1)
      · rintro σ H3 ⟨c, x6, ds, rfl, sm, eo, hd⟩
        rw [List.length_map, List.take_length] at hd
        exact ⟨_, rfl, q o H3 ds sm no eo hd⟩
    · have b1 := Int.emod_nonneg (c * 48271 + 11) (show (2147483647 : Int) ≠ 0 by decide)
      have b2 := Int.emod_lt_of_pos (c * 48271 + 11) (show (0 : Int) < 2147483647 by decide)
      refine ⟨_, rfl, _, _, rfl, rfl, ⟨by decide, by decide, by decide⟩, _, _, rfl, rfl, _, rfl, ite2 (fun e => ?_) (fun e => ?_)⟩
      · refine ⟨_, rfl, _, _, rfl, rfl, .inr ⟨by decide, by decide⟩, _, _, rfl, rfl, _, _, rfl, rfl, (by show (0 : Int) < 2147483647; decide), ?_⟩
        refine ⟨_, rfl, _, rfl, _, _, rfl, rfl, .inl ⟨by omega, by omega⟩, ?_⟩
        refine ⟨_, rfl, _, _, rfl, rfl, .inl ⟨by decide, by decide⟩, _, _, rfl, rfl, _, rfl, _, _, rfl, rfl, _, _, rfl, rfl, (by show (0 : Int) < 2147483399; decide), ?_⟩
        refine ⟨_, rfl, _, _, rfl, rfl, .inr ⟨by decide, by decide⟩, _, rfl, _, _, rfl, rfl, _, _, rfl, rfl, (by show (0 : Int) < 1000000007; decide), ?_⟩
        refine ⟨_, rfl, _, rfl, _, rfl, _, _, rfl, rfl, .inl ⟨by decide, by decide⟩, _, _, rfl, rfl, _, _, rfl, rfl, .inl ⟨by decide, by decide⟩, _, _, rfl, rfl, ?_⟩
        exact k _ _ ⟨rfl, _, _, _, _, rfl⟩
      · refine ⟨_, rfl, _, _, rfl, rfl, ⟨by decide, by decide, by decide⟩, _, _, rfl, rfl, ?_⟩
        exact k _ _ ⟨rfl, _, _, _, _, rfl⟩

def sp_l_split (K : PySem.W.Frag) (T : Tb) : Sp := fun vs H Q _ => ∃ (c : Int) (n : Nat), vs = [.int c, .int n] ∧ n ≤ 100 ∧
  ∀ p H' (zs : List Int), Sm T H H' → H p = none → H' p = some (.lst (zs.map V.int)) → zs.length = n → Q (.ref p) H'
theorem ok_l_split {f : Addr} {fd : FuncData} (F : Fun K "_law_split" "_law_split" s_l_split f fd) (B : Bn mg) : FnOk P w K mg base CX0 1 f fd ["_law_cell_here", "_law_many_here"] (sp_l_split K T) := by
  refine F.ok sc_l_split (fun vs H Q E h => ?_) (fun cdv A outer s H vs Q E hr h => ?_)
  · obtain ⟨c, n, rfl, _⟩ := h
    rfl
  · obtain ⟨c, n, rfl, hn, q⟩ := h
    refine ⟨_, (pss_cons (ps_set (i := 2) sc_l_split.nd rfl (.inl rfl) (pe_lst pa_nil))
      (pss_cons (ps_set (i := 3) sc_l_split.nd rfl (.inl rfl) (pe_cmpR op_ge (pv 0) (pe_op op_pow pe_int pe_int) (nomark _)))
      (pss_cons (ps_for PassesOwn.never rfl (pi_range1 (by rfl) B.range_ (pa_cons (pv 1) pa_nil)) (pg_name (i := 4) sc_l_split.nd rfl (.inl rfl))
      (pss_one (ps_if (pt_val (pv 3)) (pss_cons (ps_expr (pe_bm PySem.F.plainAttrs_list PySem.F.slot_list_append PySem.F.type_list_append mt_append (pv 2) (pa_cons (pe_op op_add (pe_op op_pow pe_int pe_int) (pe_op op_mod (pv 0) (pe_op op_pow pe_int pe_int))) pa_nil)))
      (pss_one (ps_set (i := 0) sc_l_split.nd rfl (.inl rfl) (pe_op op_fdivW (pv 0) (pe_op op_pow pe_int pe_int))))) (pss_one (ps_expr (pe_bm PySem.F.plainAttrs_list PySem.F.slot_list_append PySem.F.type_list_append mt_append (pv 2) (pa_cons (pe_op op_add (pe_op op_mul (pv 0) (pe_op op_add (pe_op op_mul pe_int (pv 4)) pe_int)) (pe_op op_mul pe_int (pv 4))) pa_nil)))))))
      (pss_one (ps_ret (pv 2)))))), ?_⟩
    refine ⟨Nat.zero_le _, fun o no => ?_⟩
    refine ⟨_, rfl, _, _, rfl, rfl, ⟨by decide, by decide, by decide⟩, _, _, rfl, rfl, ?_⟩
    refine ⟨_, rfl, n, rfl, by omega, by omega, for_range (lo := 0) (n := n)
      (fun i σ H3 => ∃ (c : Int) (b : Bool) (x4 : Option V) (zs : List Int), σ = [some (.int c), some (.int n), some (.ref o), some (.bl b), x4] ∧ Sm T H H3 ∧ H3 o = some (.lst (zs.map V.int)) ∧ zs.length = i)
      ⟨c, _, none, [], rfl, same_upd no, upd_same, rfl⟩ ?_ ?_⟩
    · rintro i σ H3 hi ⟨c, b, x4, zs, rfl, sm, eo, hl⟩
      have hs : (zs.map V.int).length < sizeLine := by
        rw [List.length_map]
        exact szl (by omega)
      refine ⟨_, rfl, _, rfl, ?_⟩
      cases b with
      | true =>
        refine iteT ?_
        refine ⟨_, rfl, .inl ⟨rfl, _, SqL.of eo⟩, _, _, rfl, rfl, ⟨by decide, by decide, by decide⟩, _, rfl, _, _, rfl, rfl, ⟨by decide, by decide, by decide⟩, _, _, rfl, rfl, (by show (0 : Int) < 10 ^ 30; decide), _, _, rfl, rfl, o, _, _, rfl, rfl, eo, hs, ?_⟩
        refine ⟨_, rfl, _, _, rfl, rfl, ⟨by decide, by decide, by decide⟩, _, _, rfl, rfl, wide_div (b := 200) (by show (0 : Int) < 10 ^ 30; decide) (by decide) (by decide) (by decide), ?_⟩
        refine ⟨_, true, _, zs ++ [10 ^ (18 : Int).toNat + c % 10 ^ (30 : Int).toNat], rfl, same_mut sm no eo, ?_, ?_⟩
        · rw [upd_same, List.map_append]
          rfl
        · rw [List.length_append, hl]
          rfl
      | false =>
        refine iteF ?_
        refine ⟨_, rfl, .inl ⟨rfl, _, SqL.of eo⟩, _, rfl, _, rfl, _, _, rfl, rfl, .inl ⟨by decide, by decide⟩, _, _, rfl, rfl, _, _, rfl, rfl, .inr ⟨by omega, by omega⟩, _, rfl, _, _, rfl, rfl, .inl ⟨by decide, by decide⟩, _, _, rfl, rfl, o, _, _, rfl, rfl, eo, hs, ?_⟩
        refine ⟨_, false, _, zs ++ [c * (2 * (0 + (i : Int)) + 3) + 7919 * (0 + (i : Int))], rfl, same_mut sm no eo, ?_, ?_⟩
        · rw [upd_same, List.map_append]
          rfl
        · rw [List.length_append, hl]
          rfl
    · rintro σ H3 ⟨c, b, x4, zs, rfl, sm, eo, hl⟩
      exact ⟨_, rfl, q o H3 zs sm no eo hl⟩

def sp_l_many (K : PySem.W.Frag) (T : Tb) : Sp := fun vs H Q _ => ∃ (a : Addr) (ns : List Int) (k : Int), vs = [.ref a, .int k] ∧ SqL K H a (ns.map V.int) ∧ 0 ≤ k ∧ k ≤ 63 ∧ ∀ m : Nat, m ≤ 63 → Q (.int m) H
theorem ok_l_many {f : Addr} {fd : FuncData} (F : Fun K "_law_many" "_law_many" s_l_many f fd) (B : Bn mg) : FnOk P w K mg base CX0 1 f fd ["_law_script", "_law_few"] (sp_l_many K T) := by
  refine F.ok sc_l_many (fun vs H Q E h => ?_) (fun cdv A outer s H vs Q E hr h => ?_)
  · obtain ⟨a, ns, k, rfl, _⟩ := h
    rfl
  · obtain ⟨a, ns, k, rfl, hS, h0, h1, q⟩ := h
    refine ⟨_, (pss_one (ps_ret (pe_callB (call_max2 rfl) (by rfl) B.max_ (by decide +kernel) (pa_cons (pv 1) (pa_cons (pe_callB (call_min2 rfl) (by rfl) B.min_ (by decide +kernel) (pa_cons (pe_callB call_len_seq (by rfl) B.len_ (by decide +kernel) (pa_cons (pv 0) pa_nil)) (pa_cons pe_int pa_nil))) pa_nil))))), ?_⟩
    refine ⟨_, rfl, _, rfl, a, _, rfl, .inl hS, _, _, rfl, _, _, rfl, ?_⟩
    rw [List.length_map]
    have e : ∃ m : Nat, m ≤ 63 ∧ (if (if (63 : Int) < (ns.length : Int) then 63 else (ns.length : Int)) > k then (if (63 : Int) < (ns.length : Int) then 63 else (ns.length : Int)) else k) = (m : Int) := by
      refine ⟨(if (if (63 : Int) < (ns.length : Int) then 63 else (ns.length : Int)) > k then (if (63 : Int) < (ns.length : Int) then 63 else (ns.length : Int)) else k).toNat, ?_, ?_⟩ <;> (split <;> (try split) <;> omega)
    obtain ⟨m, hm, em⟩ := e
    rw [em]
    exact q m hm


def sp_l_same_n (n : Nat) (K : PySem.W.Frag) (T : Tb) : Sp := fun vs H Q _ => ∃ x y d, vs = [x, y] ∧ Dp K H x d ∧ Dp K H y d ∧ depOk n d = true ∧ ∀ H', Sm T H H' → Q (.bl true) H'
abbrev sp_l_same (K : PySem.W.Frag) (T : Tb) : Sp := sp_l_same_n 5 K T
theorem ok_l_same_n {f : Addr} {fd : FuncData} (F : Fun K "_law_same" "_law_same" s_l_same f fd) (B : Bn mg) (g : mg "_law_same" = some (.ref f)) (b : Binds K fd ["_law_found", "_law_due"] []) :
    ∀ n, FnOk P w K mg base CX0 (n + 1) f fd ["_law_found", "_law_due"] (sp_l_same_n n K T)
  | 0 => by
    refine F.ok sc_l_same (fun vs H Q E h => ?_) (fun cdv A outer s H vs Q E hr h => ?_)
    · obtain ⟨x, y, d, rfl, _⟩ := h
      rfl
    · obtain ⟨x, y, d, rfl, hx, hy, hd, q⟩ := h
      have tx := tyx_of hx
      have ty := tyx_of hy
      have q0 := q H Sm.refl
      refine ⟨_, (pss_cons (ps_if (pt_cmpR op_isN (pv 1) pe_non (nomark _)) (pss_one (ps_ret (pe_cmpR op_isN (pv 0) pe_non (nomark _)))) pss_nil)
      (pss_cons (ps_if (PW.pt (pw_or (pt_val (pe_callB call_isi (by rfl) B.isinstance_ (by decide +kernel) (pa_cons (pv 1) (pa_cons (pe_bltn (v := .ty "bool") (by rfl) B.bool_ (by decide +kernel) rfl) pa_nil)))) (pw_or1 (pt_val (pe_callB call_isi (by rfl) B.isinstance_ (by decide +kernel) (pa_cons (pv 0) (pa_cons (pe_bltn (v := .ty "bool") (by rfl) B.bool_ (by decide +kernel) rfl) pa_nil))))))) (pss_one (ps_ret (pe_and (pe_callB call_isi (by rfl) B.isinstance_ (by decide +kernel) (pa_cons (pv 1) (pa_cons (pe_bltn (v := .ty "bool") (by rfl) B.bool_ (by decide +kernel) rfl) pa_nil))) (pe_and (pe_callB call_isi (by rfl) B.isinstance_ (by decide +kernel) (pa_cons (pv 0) (pa_cons (pe_bltn (v := .ty "bool") (by rfl) B.bool_ (by decide +kernel) rfl) pa_nil))) (pe_one (pe_cmpR op_eq (pv 0) (pv 1) (nomark _))))))) pss_nil)
      (pss_cons (ps_if (pt_val (pe_callB call_isi (by rfl) B.isinstance_ (by decide +kernel) (pa_cons (pv 1) (pa_cons (pe_bltn (v := .ty "int") (by rfl) B.int_ (by decide +kernel) rfl) pa_nil)))) (pss_one (ps_ret (pe_and (pe_callB call_isi (by rfl) B.isinstance_ (by decide +kernel) (pa_cons (pv 0) (pa_cons (pe_bltn (v := .ty "int") (by rfl) B.int_ (by decide +kernel) rfl) pa_nil))) (pe_one (pe_cmpR op_eq (pv 0) (pv 1) (nomark _)))))) pss_nil)
      (pss_cons (ps_if (pt_val (pe_callB call_isi (by rfl) B.isinstance_ (by decide +kernel) (pa_cons (pv 1) (pa_cons (pe_bltn (v := .ty "str") (by rfl) B.str_ (by decide +kernel) rfl) pa_nil)))) (pss_one (ps_ret (pe_and (pe_callB call_isi (by rfl) B.isinstance_ (by decide +kernel) (pa_cons (pv 0) (pa_cons (pe_bltn (v := .ty "str") (by rfl) B.str_ (by decide +kernel) rfl) pa_nil))) (pe_one (pe_cmpR op_eq (pv 0) (pv 1) (nomark _)))))) pss_nil)
      (pss_cons (ps_if (PW.pt (pw_or (pt_cmpR op_ne (pe_callB call_isi (by rfl) B.isinstance_ (by decide +kernel) (pa_cons (pv 1) (pa_cons (pe_bltn (v := .ty "tuple") (by rfl) B.tuple_ (by decide +kernel) rfl) pa_nil))) (pe_callB call_isi (by rfl) B.isinstance_ (by decide +kernel) (pa_cons (pv 0) (pa_cons (pe_bltn (v := .ty "tuple") (by rfl) B.tuple_ (by decide +kernel) rfl) pa_nil))) (nomark _)) (pw_or1 (pt_cmpR op_ne (pe_callB call_isi (by rfl) B.isinstance_ (by decide +kernel) (pa_cons (pv 1) (pa_cons (pe_bltn (v := .ty "list") (by rfl) B.list_ (by decide +kernel) rfl) pa_nil))) (pe_callB call_isi (by rfl) B.isinstance_ (by decide +kernel) (pa_cons (pv 0) (pa_cons (pe_bltn (v := .ty "list") (by rfl) B.list_ (by decide +kernel) rfl) pa_nil))) (nomark _))))) (pss_one (ps_ret pe_bl)) pss_nil)
      (pss_one ps_never)))))), ?_⟩
      cases d with
      | none =>
        cases hx; cases hy
        exact ⟨_, rfl, rfl, _, rfl, iteT ⟨_, rfl, rfl, q0⟩⟩
      | bool b =>
        cases hx; cases hy
        refine ⟨_, rfl, rfl, _, rfl, iteF ?_⟩
        refine ⟨_, rfl, _, _, _, _, true, rfl, .ty "bool", ty, kit_ty kb_bool_bool, _, rfl, iteT (iteT ?_)⟩
        refine ⟨_, rfl, _, _, _, _, true, rfl, .ty "bool", ty, kit_ty kb_bool_bool, _, rfl, iteT ?_⟩
        refine ⟨_, rfl, _, _, _, _, true, rfl, .ty "bool", tx, kit_ty kb_bool_bool, _, rfl, iteT ?_⟩
        refine ⟨_, rfl, _, rfl, rfl, ?_⟩
        rw [decide_eq_true rfl]
        exact q0
      | int i =>
        cases hx; cases hy
        refine ⟨_, rfl, rfl, _, rfl, iteF ?_⟩
        refine ⟨_, rfl, _, _, _, _, false, rfl, .ty "bool", ty, kit_ty kb_int_bool, _, rfl, iteF ?_⟩
        refine ⟨_, rfl, _, _, _, _, false, rfl, .ty "bool", tx, kit_ty kb_int_bool, _, rfl, iteF ?_⟩
        refine ⟨_, rfl, _, _, _, _, true, rfl, .ty "int", ty, kit_ty kb_int_int, _, rfl, iteT ?_⟩
        refine ⟨_, rfl, _, _, _, _, true, rfl, .ty "int", tx, kit_ty kb_int_int, _, rfl, iteT ?_⟩
        refine ⟨_, rfl, _, rfl, rfl, ?_⟩
        rw [decide_eq_true rfl]
        exact q0
      | str z =>
        cases hx; cases hy
        refine ⟨_, rfl, rfl, _, rfl, iteF ?_⟩
        refine ⟨_, rfl, _, _, _, _, false, rfl, .ty "bool", ty, kit_ty kb_str_bool, _, rfl, iteF ?_⟩
        refine ⟨_, rfl, _, _, _, _, false, rfl, .ty "bool", tx, kit_ty kb_str_bool, _, rfl, iteF ?_⟩
        refine ⟨_, rfl, _, _, _, _, false, rfl, .ty "int", ty, kit_ty kb_str_int, _, rfl, iteF ?_⟩
        refine ⟨_, rfl, _, _, _, _, true, rfl, .ty "str", ty, kit_ty kb_str_str, _, rfl, iteT ?_⟩
        refine ⟨_, rfl, _, _, _, _, true, rfl, .ty "str", tx, kit_ty kb_str_str, _, rfl, iteT ?_⟩
        refine ⟨_, rfl, _, rfl, rfl, ?_⟩
        rw [decide_eq_true rfl]
        exact q0
      | list ds => cases hd
      | tuple ds => cases hd
      | dict _ => cases hd
  | n + 1 => by
    have F_l_same : Fn P w K mg base (n + 1) "_law_same" ["_law_found", "_law_due"] (sp_l_same_n n K T) := Fn.mk' (ok_l_same_n F B g b n) g F.kp b
    refine F.ok sc_l_same (fun vs H Q E h => ?_) (fun cdv A outer s H vs Q E hr h => ?_)
    · obtain ⟨x, y, d, rfl, _⟩ := h
      rfl
    · obtain ⟨x, y, d, rfl, hx, hy, hd, q⟩ := h
      have tx := tyx_of hx
      have ty := tyx_of hy
      have q0 := q H Sm.refl
      refine ⟨_, (pss_cons (ps_if (pt_cmpR op_isN (pv 1) pe_non (nomark _)) (pss_one (ps_ret (pe_cmpR op_isN (pv 0) pe_non (nomark _)))) pss_nil)
      (pss_cons (ps_if (PW.pt (pw_or (pt_val (pe_callB call_isi (by rfl) B.isinstance_ (by decide +kernel) (pa_cons (pv 1) (pa_cons (pe_bltn (v := .ty "bool") (by rfl) B.bool_ (by decide +kernel) rfl) pa_nil)))) (pw_or1 (pt_val (pe_callB call_isi (by rfl) B.isinstance_ (by decide +kernel) (pa_cons (pv 0) (pa_cons (pe_bltn (v := .ty "bool") (by rfl) B.bool_ (by decide +kernel) rfl) pa_nil))))))) (pss_one (ps_ret (pe_and (pe_callB call_isi (by rfl) B.isinstance_ (by decide +kernel) (pa_cons (pv 1) (pa_cons (pe_bltn (v := .ty "bool") (by rfl) B.bool_ (by decide +kernel) rfl) pa_nil))) (pe_and (pe_callB call_isi (by rfl) B.isinstance_ (by decide +kernel) (pa_cons (pv 0) (pa_cons (pe_bltn (v := .ty "bool") (by rfl) B.bool_ (by decide +kernel) rfl) pa_nil))) (pe_one (pe_cmpR op_eq (pv 0) (pv 1) (nomark _))))))) pss_nil)
      (pss_cons (ps_if (pt_val (pe_callB call_isi (by rfl) B.isinstance_ (by decide +kernel) (pa_cons (pv 1) (pa_cons (pe_bltn (v := .ty "int") (by rfl) B.int_ (by decide +kernel) rfl) pa_nil)))) (pss_one (ps_ret (pe_and (pe_callB call_isi (by rfl) B.isinstance_ (by decide +kernel) (pa_cons (pv 0) (pa_cons (pe_bltn (v := .ty "int") (by rfl) B.int_ (by decide +kernel) rfl) pa_nil))) (pe_one (pe_cmpR op_eq (pv 0) (pv 1) (nomark _)))))) pss_nil)
      (pss_cons (ps_if (pt_val (pe_callB call_isi (by rfl) B.isinstance_ (by decide +kernel) (pa_cons (pv 1) (pa_cons (pe_bltn (v := .ty "str") (by rfl) B.str_ (by decide +kernel) rfl) pa_nil)))) (pss_one (ps_ret (pe_and (pe_callB call_isi (by rfl) B.isinstance_ (by decide +kernel) (pa_cons (pv 0) (pa_cons (pe_bltn (v := .ty "str") (by rfl) B.str_ (by decide +kernel) rfl) pa_nil))) (pe_one (pe_cmpR op_eq (pv 0) (pv 1) (nomark _)))))) pss_nil)
      (pss_cons (ps_if (PW.pt (pw_or (pt_cmpR op_ne (pe_callB call_isi (by rfl) B.isinstance_ (by decide +kernel) (pa_cons (pv 1) (pa_cons (pe_bltn (v := .ty "tuple") (by rfl) B.tuple_ (by decide +kernel) rfl) pa_nil))) (pe_callB call_isi (by rfl) B.isinstance_ (by decide +kernel) (pa_cons (pv 0) (pa_cons (pe_bltn (v := .ty "tuple") (by rfl) B.tuple_ (by decide +kernel) rfl) pa_nil))) (nomark _)) (pw_or1 (pt_cmpR op_ne (pe_callB call_isi (by rfl) B.isinstance_ (by decide +kernel) (pa_cons (pv 1) (pa_cons (pe_bltn (v := .ty "list") (by rfl) B.list_ (by decide +kernel) rfl) pa_nil))) (pe_callB call_isi (by rfl) B.isinstance_ (by decide +kernel) (pa_cons (pv 0) (pa_cons (pe_bltn (v := .ty "list") (by rfl) B.list_ (by decide +kernel) rfl) pa_nil))) (nomark _))))) (pss_one (ps_ret pe_bl)) pss_nil)
      (pss_one (ps_ret (pe_and (pe_cmpR op_eq (pe_callB call_len_seq (by rfl) B.len_ (by decide +kernel) (pa_cons (pv 0) pa_nil)) (pe_callB call_len_seq (by rfl) B.len_ (by decide +kernel) (pa_cons (pv 1) pa_nil)) (nomark _)) (pe_one (pe_callB (cr_all rfl) (by rfl) B.all_ (by decide +kernel) (pa_cons (pe_lc (own := [("_law_k", 2)]) (g := (gName 2)) (tt := tYes) (by rfl) sc_l_same.nd (pi_range1 (by rfl) B.range_ (pa_cons (pe_callB call_len_seq (by rfl) B.len_ (by decide +kernel) (pa_cons (pv 1) pa_nil)) pa_nil)) (blkOk_by (own := [("_law_k", 2)]) (N := ["_law_found", "_law_due", "_law_k"]) (sc := (defScope s_l_same)) (by decide +kernel)) (fun _ _ _ _ _ => (pg_name (i := 2) sc_l_same.nd rfl (.inl rfl))) (fun _ _ _ _ _ => pts_nil) (fun _ _ _ _ _ => (pe_fn F_l_same hr (pa_cons (pe_ix (r := rIx K) ix_seq (pv 0) (pv 2) (fun _ _ => rfl)) (pa_cons (pe_ix (r := rIx K) ix_seq (pv 1) (pv 2) (fun _ _ => rfl)) pa_nil))))) pa_nil))))))))))), ?_⟩
      cases d with
      | none =>
        cases hx; cases hy
        exact ⟨_, rfl, rfl, _, rfl, iteT ⟨_, rfl, rfl, q0⟩⟩
      | bool b =>
        cases hx; cases hy
        refine ⟨_, rfl, rfl, _, rfl, iteF ?_⟩
        refine ⟨_, rfl, _, _, _, _, true, rfl, .ty "bool", ty, kit_ty kb_bool_bool, _, rfl, iteT (iteT ?_)⟩
        refine ⟨_, rfl, _, _, _, _, true, rfl, .ty "bool", ty, kit_ty kb_bool_bool, _, rfl, iteT ?_⟩
        refine ⟨_, rfl, _, _, _, _, true, rfl, .ty "bool", tx, kit_ty kb_bool_bool, _, rfl, iteT ?_⟩
        refine ⟨_, rfl, _, rfl, rfl, ?_⟩
        rw [decide_eq_true rfl]
        exact q0
      | int i =>
        cases hx; cases hy
        refine ⟨_, rfl, rfl, _, rfl, iteF ?_⟩
        refine ⟨_, rfl, _, _, _, _, false, rfl, .ty "bool", ty, kit_ty kb_int_bool, _, rfl, iteF ?_⟩
        refine ⟨_, rfl, _, _, _, _, false, rfl, .ty "bool", tx, kit_ty kb_int_bool, _, rfl, iteF ?_⟩
        refine ⟨_, rfl, _, _, _, _, true, rfl, .ty "int", ty, kit_ty kb_int_int, _, rfl, iteT ?_⟩
        refine ⟨_, rfl, _, _, _, _, true, rfl, .ty "int", tx, kit_ty kb_int_int, _, rfl, iteT ?_⟩
        refine ⟨_, rfl, _, rfl, rfl, ?_⟩
        rw [decide_eq_true rfl]
        exact q0
      | str z =>
        cases hx; cases hy
        refine ⟨_, rfl, rfl, _, rfl, iteF ?_⟩
        refine ⟨_, rfl, _, _, _, _, false, rfl, .ty "bool", ty, kit_ty kb_str_bool, _, rfl, iteF ?_⟩
        refine ⟨_, rfl, _, _, _, _, false, rfl, .ty "bool", tx, kit_ty kb_str_bool, _, rfl, iteF ?_⟩
        refine ⟨_, rfl, _, _, _, _, false, rfl, .ty "int", ty, kit_ty kb_str_int, _, rfl, iteF ?_⟩
        refine ⟨_, rfl, _, _, _, _, true, rfl, .ty "str", ty, kit_ty kb_str_str, _, rfl, iteT ?_⟩
        refine ⟨_, rfl, _, _, _, _, true, rfl, .ty "str", tx, kit_ty kb_str_str, _, rfl, iteT ?_⟩
        refine ⟨_, rfl, _, rfl, rfl, ?_⟩
        rw [decide_eq_true rfl]
        exact q0
      | list ds =>
        cases hx with
        | @lst ax xs _ sx ax_ =>
        cases hy with
        | @lst ay ys _ sy ay_ =>
        refine ⟨_, rfl, rfl, _, rfl, iteF ?_⟩
        refine ⟨_, rfl, _, _, _, _, false, rfl, .ty "bool", ty, kit_ty kb_list_bool, _, rfl, iteF ?_⟩
        refine ⟨_, rfl, _, _, _, _, false, rfl, .ty "bool", tx, kit_ty kb_list_bool, _, rfl, iteF ?_⟩
        refine ⟨_, rfl, _, _, _, _, false, rfl, .ty "int", ty, kit_ty kb_list_int, _, rfl, iteF ?_⟩
        refine ⟨_, rfl, _, _, _, _, false, rfl, .ty "str", ty, kit_ty kb_list_str, _, rfl, iteF ?_⟩
        refine ⟨_, rfl, _, _, _, _, false, rfl, .ty "tuple", ty, kit_ty kb_list_tuple, _, rfl, _, _, _, _, false, rfl, .ty "tuple", tx, kit_ty kb_list_tuple, rfl, _, rfl, iteF ?_⟩
        refine ⟨_, rfl, _, _, _, _, true, rfl, .ty "list", ty, kit_ty kb_list_list, _, rfl, _, _, _, _, true, rfl, .ty "list", tx, kit_ty kb_list_list, rfl, _, rfl, iteF ?_⟩
        have hd' : (decide (ds.length ≤ 9000) && ds.all (depOk n)) = true := hd
        rw [Bool.and_eq_true] at hd'
        have hle : ds.length ≤ 9000 := of_decide_eq_true hd'.1
        have lx := dpa_len ax_
        have ly := dpa_len ay_
        refine ⟨_, rfl, ax, xs, rfl, .inl sx, _, rfl, ay, ys, rfl, .inl sy, rfl, _, rfl, ?_⟩
        rw [lx, ly, decide_eq_true rfl]
        refine iteT ?_
        refine ⟨_, rfl, ay, ys, rfl, .inl sy, _, rfl, by rw [ly]; omega, by rw [ly]; omega, fun D hD => lc_range (lo := 0) (n := ys.length)
          (Qd := _) (fun i H' => Sm T H H' ∧ H' D = some (.lst (List.replicate i (V.bl true)))) ⟨same_upd hD, upd_same⟩ ?_ ?_⟩
        · rintro i H' hi ⟨sm, eD⟩
          rw [ly] at hi
          obtain ⟨vx, ex, dx⟩ := dpa_get ax_ (List.getElem?_eq_getElem hi)
          obtain ⟨vy, ey, dy⟩ := dpa_get ay_ (List.getElem?_eq_getElem hi)
          refine ⟨rfl, tyes_i ?_⟩
          refine ⟨_, rfl, _, rfl, .inl ⟨ax, xs, _, vx, rfl, rfl, sm.seq sx, at_of (j := i) (by omega) ex, ?_⟩⟩
          refine ⟨_, rfl, _, rfl, .inl ⟨ay, ys, _, vy, rfl, rfl, sm.seq sy, at_of (j := i) (by omega) ey, ?_⟩⟩
          refine ⟨vx, vy, ds[i], rfl, dp_same sm _ _ dx, dp_same sm _ _ dy, List.all_eq_true.mp hd'.2 _ (List.getElem_mem hi), fun H2 s2 => ⟨_, s2.k eD, ?_, same_mut (sm.trans s2) hD (s2.lst eD), ?_⟩⟩
          · rw [List.length_replicate]
            exact szl (by omega)
          · rw [upd_same, ← List.replicate_succ']
        · rintro H' ⟨sm, eD⟩
          rw [ly] at eD
          refine ⟨D, List.replicate ds.length true, rfl, SqL.of (by rw [eD, List.map_replicate]), ?_⟩
          rw [rep_all]
          exact q H' sm
      | tuple ds =>
        cases hx with
        | @tup ax xs _ sx ax_ =>
        cases hy with
        | @tup ay ys _ sy ay_ =>
        refine ⟨_, rfl, rfl, _, rfl, iteF ?_⟩
        refine ⟨_, rfl, _, _, _, _, false, rfl, .ty "bool", ty, kit_ty kb_tuple_bool, _, rfl, iteF ?_⟩
        refine ⟨_, rfl, _, _, _, _, false, rfl, .ty "bool", tx, kit_ty kb_tuple_bool, _, rfl, iteF ?_⟩
        refine ⟨_, rfl, _, _, _, _, false, rfl, .ty "int", ty, kit_ty kb_tuple_int, _, rfl, iteF ?_⟩
        refine ⟨_, rfl, _, _, _, _, false, rfl, .ty "str", ty, kit_ty kb_tuple_str, _, rfl, iteF ?_⟩
        refine ⟨_, rfl, _, _, _, _, true, rfl, .ty "tuple", ty, kit_ty kb_tuple_tuple, _, rfl, _, _, _, _, true, rfl, .ty "tuple", tx, kit_ty kb_tuple_tuple, rfl, _, rfl, iteF ?_⟩
        refine ⟨_, rfl, _, _, _, _, false, rfl, .ty "list", ty, kit_ty kb_tuple_list, _, rfl, _, _, _, _, false, rfl, .ty "list", tx, kit_ty kb_tuple_list, rfl, _, rfl, iteF ?_⟩
        have hd' : (decide (ds.length ≤ 9000) && ds.all (depOk n)) = true := hd
        rw [Bool.and_eq_true] at hd'
        have hle : ds.length ≤ 9000 := of_decide_eq_true hd'.1
        have lx := dpa_len ax_
        have ly := dpa_len ay_
        refine ⟨_, rfl, ax, xs, rfl, .inr sx, _, rfl, ay, ys, rfl, .inr sy, rfl, _, rfl, ?_⟩
        rw [lx, ly, decide_eq_true rfl]
        refine iteT ?_
        refine ⟨_, rfl, ay, ys, rfl, .inr sy, _, rfl, by rw [ly]; omega, by rw [ly]; omega, fun D hD => lc_range (lo := 0) (n := ys.length)
          (Qd := _) (fun i H' => Sm T H H' ∧ H' D = some (.lst (List.replicate i (V.bl true)))) ⟨same_upd hD, upd_same⟩ ?_ ?_⟩
        · rintro i H' hi ⟨sm, eD⟩
          rw [ly] at hi
          obtain ⟨vx, ex, dx⟩ := dpa_get ax_ (List.getElem?_eq_getElem hi)
          obtain ⟨vy, ey, dy⟩ := dpa_get ay_ (List.getElem?_eq_getElem hi)
          refine ⟨rfl, tyes_i ?_⟩
          refine ⟨_, rfl, _, rfl, .inr (.inl ⟨ax, xs, _, vx, rfl, rfl, same_tup sm sx, at_of (j := i) (by omega) ex, ?_⟩)⟩
          refine ⟨_, rfl, _, rfl, .inr (.inl ⟨ay, ys, _, vy, rfl, rfl, same_tup sm sy, at_of (j := i) (by omega) ey, ?_⟩)⟩
          refine ⟨vx, vy, ds[i], rfl, dp_same sm _ _ dx, dp_same sm _ _ dy, List.all_eq_true.mp hd'.2 _ (List.getElem_mem hi), fun H2 s2 => ⟨_, s2.k eD, ?_, same_mut (sm.trans s2) hD (s2.lst eD), ?_⟩⟩
          · rw [List.length_replicate]
            exact szl (by omega)
          · rw [upd_same, ← List.replicate_succ']
        · rintro H' ⟨sm, eD⟩
          rw [ly] at eD
          refine ⟨D, List.replicate ds.length true, rfl, SqL.of (by rw [eD, List.map_replicate]), ?_⟩
          rw [rep_all]
          exact q H' sm
      | dict _ => cases hd
theorem ok_l_same {f : Addr} {fd : FuncData} (F : Fun K "_law_same" "_law_same" s_l_same f fd) (B : Bn mg) (g : mg "_law_same" = some (.ref f)) (b : Binds K fd ["_law_found", "_law_due"] []) :
    FnOk P w K mg base CX0 6 f fd ["_law_found", "_law_due"] (sp_l_same K T) := ok_l_same_n F B g b 5

def sp_l_gcd (K : PySem.W.Frag) (T : Tb) : Sp := fun vs H Q _ => ∃ a b : Nat, vs = [.int a, .int b] ∧ Q (.int (Nat.gcd a b : Nat)) H
theorem ok_l_gcd {f : Addr} {fd : FuncData} (F : Fun K "_law_gcd" "_law_gcd" s_l_gcd f fd) : FnOk P w K mg base CX0 1 f fd ["_law_one", "_law_other"] (sp_l_gcd K T) := by
  refine F.ok sc_l_gcd (fun vs H Q E h => ?_) (fun cdv A outer s H vs Q E hr h => ?_)
  · obtain ⟨a, b, rfl, _⟩ := h
    rfl
  · obtain ⟨a, b, rfl, q⟩ := h
    refine ⟨_, (pss_cons (ps_while PassesOwn.never (pt_cmpR op_gt (pv 1) pe_int (nomark _)) (pss_one (ps_par (i := 0) (j := 1) (by rfl) sc_l_gcd.nd rfl rfl (by decide) rfl rfl (pa_cons (pv 1) (pa_cons (pe_op op_mod (pv 0) (pv 1)) pa_nil)) (by rfl))))
      (pss_one (ps_ret (pv 0)))), ?_⟩
    refine while_by (fun σ H' => ∃ x y : Nat, σ = [some (.int x), some (.int y)] ∧ H' = H ∧ Nat.gcd x y = Nat.gcd a b) (fun σ _ => match σ with | [_, some (.int y)] => y.toNat | _ => 0) ⟨a, b, rfl, rfl, rfl⟩ ?_ ?_
    · rintro σ H' ⟨x, y, rfl, rfl, hg⟩
      refine ⟨_, rfl, _, _, rfl, rfl, _, rfl, ite2 (fun e => ?_) (fun e => ?_)⟩
      · have hy : 0 < y := by
          have : (0 : Int) < (y : Int) := of_decide_eq_true e
          omega
        refine ⟨_, rfl, _, rfl, _, rfl, _, _, rfl, rfl, (by show (0 : Int) < (y : Int); omega), _, _, rfl, ⟨y, x % y, ?_, rfl, ?_⟩, ?_⟩
        · show [some (V.int y), some (V.int ((x : Int) % (y : Int)))] = _
          rw [Int.natCast_emod]
        · rw [← hg, Nat.gcd_comm x y, Nat.gcd_rec y x, Nat.gcd_comm]
        · show ((x : Int) % (y : Int)).toNat < (y : Int).toNat
          rw [← Int.natCast_emod, Int.toNat_natCast, Int.toNat_natCast]
          exact Nat.mod_lt _ hy
      · have hy : y = 0 := by
          have : ¬ (0 : Int) < (y : Int) := fun z => e (decide_eq_true z)
          omega
        subst hy
        refine ⟨_, rfl, ?_⟩
        rw [← hg, Nat.gcd_zero_right] at q
        exact q
    · rintro σ H Q Q' m ⟨v, e, i, j, e1, e2, k, e3, q⟩
      exact ⟨v, e, i, j, e1, e2, k, e3, m _ _ q⟩

def sp_l_amt (K : PySem.W.Frag) (T : Tb) : Sp := fun vs H Q _ => ∃ n d : Int, vs = [.int n, .int d] ∧ 0 < d ∧ d.natAbs < 2 ^ 8900 ∧ ∀ p H', Sm T H H' → H p = none → H' p = some (.tup (tv (amt n d))) → Q (.ref p) H'
theorem ok_l_amt {f : Addr} {fd : FuncData} (F : Fun K "_law_amt" "_law_amt" s_l_amt f fd) (B : Bn mg) (F_l_gcd : Fn P w K mg base 1 "_law_gcd" ["_law_one", "_law_other"] (sp_l_gcd K T)) : FnOk P w K mg base CX0 2 f fd ["_law_num", "_law_den"] (sp_l_amt K T) := by
  refine F.ok sc_l_amt (fun vs H Q E h => ?_) (fun cdv A outer s H vs Q E hr h => ?_)
  · obtain ⟨n, d, rfl, _⟩ := h
    rfl
  · obtain ⟨n, d, rfl, hd, hb, q⟩ := h
    refine ⟨_, (pss_cons (ps_set (i := 2) sc_l_amt.nd rfl (.inl rfl) (pe_fn F_l_gcd (hr.mono (by decide)) (pa_cons (pe_callB call_abs (by rfl) B.abs_ (by decide +kernel) (pa_cons (pv 0) pa_nil)) (pa_cons (pv 1) pa_nil))))
      (pss_one (ps_ret (pe_tup (pa_cons (pe_op op_fdivW (pv 0) (pv 2)) (pa_cons (pe_op op_fdivW (pv 1) (pv 2)) pa_nil)))))), ?_⟩
    have hg := gcd_bound (n := n) (d := d) (by omega) hb
    have e1 : (if n < 0 then -n else n) = (n.natAbs : Int) := by split <;> omega
    have e2 : d = (d.natAbs : Int) := by omega
    refine ⟨_, rfl, _, rfl, _, rfl, n.natAbs, d.natAbs, ?_, ?_⟩
    · show [V.int (if n < 0 then -n else n), V.int d] ++ [] = _
      rw [e1, ← e2]
      rfl
    · refine ⟨_, rfl, _, rfl, _, _, rfl, rfl, wide_div (b := 8900) (by omega) (by rw [Int.natAbs_natCast]; exact hg.2) (by decide) (by decide), ?_⟩
      refine ⟨_, rfl, _, rfl, _, _, rfl, rfl, wide_div (b := 8900) (by omega) (by rw [Int.natAbs_natCast]; exact hg.2) (by decide) (by decide), ?_⟩
      refine ⟨by show 2 ≤ sizeLine; decide, fun p hp => ?_⟩
      refine q p _ (same_upd hp) hp (upd_same.trans ?_)
      show some (HO.tup [V.int (n / ((Nat.gcd n.natAbs d.natAbs : Nat) : Int)), V.int (d / ((Nat.gcd n.natAbs d.natAbs : Nat) : Int))]) = some (HO.tup [V.int ((if d < 0 then -n else n) / ((Nat.gcd n.natAbs d.natAbs : Nat) : Int)), V.int ((d.natAbs : Int) / ((Nat.gcd n.natAbs d.natAbs : Nat) : Int))])
      rw [if_neg (by omega : ¬ d < 0), ← e2]

abbrev sp_l_sub : PySem.W.Frag → Tb → Sp := spBin (fun x y => 0 < x.2 ∧ 0 < y.2) minusA
theorem ok_l_sub {f : Addr} {fd : FuncData} (F : Fun K "_law_sub" "_law_sub" s_l_sub f fd) (F_l_amt : Fn P w K mg base 2 "_law_amt" ["_law_num", "_law_den"] (sp_l_amt K T)) : FnOk P w K mg base CX0 3 f fd ["_law_one", "_law_other"] (sp_l_sub K T) := by
  refine F.ok sc_l_sub (fun vs H Q E h => ?_) (fun cdv A outer s H vs Q E hr h => ?_)
  · obtain ⟨a, b, x, y, rfl, _⟩ := h
    rfl
  · obtain ⟨a, b, x, y, rfl, ha, hb, ⟨bx, by_⟩, ⟨hx, hy⟩, q⟩ := h
    refine ⟨_, (pss_one (ps_ret (pe_fn F_l_amt (hr.mono (by decide)) (pa_cons (pe_op op_sub (pe_op op_mulW (pe_ix ix_tup (pv 0) pe_int (fun _ _ => rfl)) (pe_ix ix_tup (pv 1) pe_int (fun _ _ => rfl))) (pe_op op_mulW (pe_ix ix_tup (pv 1) pe_int (fun _ _ => rfl)) (pe_ix ix_tup (pv 0) pe_int (fun _ _ => rfl)))) (pa_cons (pe_op op_mulW (pe_ix ix_tup (pv 0) pe_int (fun _ _ => rfl)) (pe_ix ix_tup (pv 1) pe_int (fun _ _ => rfl))) pa_nil))))), ?_⟩
    refine ⟨_, rfl, a, _, 0, .int x.1, rfl, rfl, ha, atI_nat (j := 0) rfl, _, rfl, b, _, 1, .int y.2, rfl, rfl, hb, atI_nat (j := 1) rfl, _, _, rfl, rfl, wm bx.1 by_.2, ?_⟩
    refine ⟨_, rfl, b, _, 0, .int y.1, rfl, rfl, hb, atI_nat (j := 0) rfl, _, rfl, a, _, 1, .int x.2, rfl, rfl, ha, atI_nat (j := 1) rfl, _, _, rfl, rfl, wm by_.1 bx.2, _, _, rfl, rfl, ?_⟩
    refine ⟨_, rfl, a, _, 1, .int x.2, rfl, rfl, ha, atI_nat (j := 1) rfl, _, rfl, b, _, 1, .int y.2, rfl, rfl, hb, atI_nat (j := 1) rfl, _, _, rfl, rfl, wm bx.2 by_.2, ?_⟩
    exact ⟨_, _, rfl, Int.mul_pos hx hy, wl bx.2 by_.2, q⟩

def sp_l_by (K : PySem.W.Frag) (T : Tb) : Sp := fun vs H Q _ => ∃ a x k, vs = [.ref a, .int k] ∧ SqT K H a (tv x) ∧ x.2.natAbs < 2 ^ 4000 ∧ (0 < k ∧ k < 2 ^ 64) ∧ 0 < x.2 ∧
  ∀ p H', Sm T H H' → H p = none → H' p = some (.tup (tv (amt x.1 (x.2 * k)))) → Q (.ref p) H'
theorem ok_l_by {f : Addr} {fd : FuncData} (F : Fun K "_law_by" "_law_by" s_l_by f fd) (F_l_amt : Fn P w K mg base 2 "_law_amt" ["_law_num", "_law_den"] (sp_l_amt K T)) : FnOk P w K mg base CX0 3 f fd ["_law_one", "_law_number"] (sp_l_by K T) := by
  refine F.ok sc_l_by (fun vs H Q E h => ?_) (fun cdv A outer s H vs Q E hr h => ?_)
  · obtain ⟨a, x, k, rfl, _⟩ := h
    rfl
  · obtain ⟨a, x, k, rfl, ha, bx, hk, hx, q⟩ := h
    refine ⟨_, (pss_one (ps_ret (pe_fn F_l_amt (hr.mono (by decide)) (pa_cons (pe_ix ix_tup (pv 0) pe_int (fun _ _ => rfl)) (pa_cons (pe_op op_mul (pe_ix ix_tup (pv 0) pe_int (fun _ _ => rfl)) (pv 1)) pa_nil))))), ?_⟩
    refine ⟨_, rfl, a, _, 0, .int x.1, rfl, rfl, ha, atI_nat (j := 0) rfl, ?_⟩
    refine ⟨_, rfl, a, _, 1, .int x.2, rfl, rfl, ha, atI_nat (j := 1) rfl, _, rfl, _, _, rfl, rfl, .inr ⟨by omega, by omega⟩, ?_⟩
    refine ⟨_, _, rfl, Int.mul_pos hx hk.1, ?_, q⟩
    rw [Int.natAbs_mul]
    have h1 : x.2.natAbs * k.natAbs < 2 ^ 4000 * 2 ^ 64 := Nat.mul_lt_mul'' bx (by omega)
    rw [← Nat.pow_add] at h1
    exact Nat.lt_trans h1 (Nat.pow_lt_pow_right (by decide) (by decide))

def sp_l_less (K : PySem.W.Frag) (T : Tb) : Sp := fun vs H Q _ => ∃ a b x y, vs = [.ref a, .ref b] ∧ SqT K H a (tv x) ∧ SqT K H b (tv y) ∧ (Bd 4000 x ∧ Bd 4000 y) ∧ Q (.bl (belowA x y)) H
theorem ok_l_less {f : Addr} {fd : FuncData} (F : Fun K "_law_less" "_law_less" s_l_less f fd) : FnOk P w K mg base CX0 1 f fd ["_law_one", "_law_other"] (sp_l_less K T) := by
  refine F.ok sc_l_less (fun vs H Q E h => ?_) (fun cdv A outer s H vs Q E hr h => ?_)
  · obtain ⟨a, b, x, y, rfl, _⟩ := h
    rfl
  · obtain ⟨a, b, x, y, rfl, ha, hb, ⟨bx, by_⟩, q⟩ := h
    refine ⟨_, (pss_one (ps_ret (pe_cmpR op_lt (pe_op op_mulW (pe_ix ix_tup (pv 0) pe_int (fun _ _ => rfl)) (pe_ix ix_tup (pv 1) pe_int (fun _ _ => rfl))) (pe_op op_mulW (pe_ix ix_tup (pv 1) pe_int (fun _ _ => rfl)) (pe_ix ix_tup (pv 0) pe_int (fun _ _ => rfl))) (nomark _)))), ?_⟩
    refine ⟨_, rfl, a, _, 0, .int x.1, rfl, rfl, ha, atI_nat (j := 0) rfl, _, rfl, b, _, 1, .int y.2, rfl, rfl, hb, atI_nat (j := 1) rfl, _, _, rfl, rfl, wm bx.1 by_.2, ?_⟩
    exact ⟨_, rfl, b, _, 0, .int y.1, rfl, rfl, hb, atI_nat (j := 0) rfl, _, rfl, a, _, 1, .int x.2, rfl, rfl, ha, atI_nat (j := 1) rfl, _, _, rfl, rfl, wm by_.1 bx.2, _, _, rfl, rfl, q⟩

def sp_p_is_number (K : PySem.W.Frag) (T : Tb) : Sp := fun vs H Q _ => ∃ i : Int, vs = [.int i] ∧ Q (.bl true) H
theorem ok_p_is_number {f : Addr} {fd : FuncData} (F : Fun K "is_number" "is_number" s_p_is_number f fd) (B : Bn mg) : FnOk P w K mg base CX0 1 f fd ["thing"] (sp_p_is_number K T) := by
  refine F.ok sc_p_is_number (fun vs H Q E h => ?_) (fun cdv A outer s H vs Q E hr h => ?_)
  · obtain ⟨i, rfl, _⟩ := h
    rfl
  · obtain ⟨i, rfl, q⟩ := h
    refine ⟨_, (pss_one (ps_ret (pe_and (pe_callB call_isi (by rfl) B.isinstance_ (by decide +kernel) (pa_cons (pv 0) (pa_cons (pe_bltn (v := .ty "int") (by rfl) B.int_ (by decide +kernel) rfl) pa_nil))) (pe_one (pe_not (pe_callB call_isi (by rfl) B.isinstance_ (by decide +kernel) (pa_cons (pv 0) (pa_cons (pe_bltn (v := .ty "bool") (by rfl) B.bool_ (by decide +kernel) rfl) pa_nil)))))))), ?_⟩
    refine ⟨_, rfl, _, _, _, _, true, rfl, .ty "int", .base (.int i), kit_ty kb_int_int, _, rfl, iteT ?_⟩
    exact ⟨_, rfl, _, _, _, _, false, rfl, .ty "bool", .base (.int i), kit_ty kb_int_bool, _, rfl, q⟩
def sp_p_is_within (K : PySem.W.Frag) (T : Tb) : Sp := fun vs H Q _ => ∃ i l m : Int, vs = [.int i, .int l, .int m] ∧ Q (.bl (decide (l ≤ i) && decide (i ≤ m))) H
theorem ok_p_is_within {f : Addr} {fd : FuncData} (F : Fun K "is_within" "is_within" s_p_is_within f fd) (F_p_is_number : Fn P w K mg base 1 "is_number" ["thing"] (sp_p_is_number K T)) : FnOk P w K mg base CX0 2 f fd ["thing", "least", "most"] (sp_p_is_within K T) := by
  refine F.ok sc_p_is_within (fun vs H Q E h => ?_) (fun cdv A outer s H vs Q E hr h => ?_)
  · obtain ⟨i, l, m, rfl, _⟩ := h
    rfl
  · obtain ⟨i, l, m, rfl, q⟩ := h
    refine ⟨_, (pss_one (ps_ret (pe_and (pe_fn F_p_is_number (hr.mono (by decide)) (pa_cons (pv 0) pa_nil)) (pe_one (pe_chain op_le op_le (pv 1) (pv 0) (pv 2)))))), ?_⟩
    refine ⟨_, rfl, i, rfl, _, rfl, iteT ?_⟩
    refine ⟨_, rfl, _, rfl, _, _, rfl, rfl, _, rfl, ?_⟩
    by_cases h : l ≤ i
    · rw [decide_eq_true h, Bool.true_and] at q
      rw [decide_eq_true h]
      exact iteT ⟨_, rfl, _, _, rfl, rfl, q⟩
    · rw [decide_eq_false h, Bool.false_and] at q
      rw [decide_eq_false h]
      exact iteF q
def paceB (z : Int) : Bool := decide (1 ≤ z) && decide (z ≤ 12)
def sp_p_check_pace (K : PySem.W.Frag) (T : Tb) (CP : Addr) : Sp := fun vs H Q E => ∃ z : Int, vs = [.int z] ∧ (paceB z = true → Q .non H) ∧ (paceB z = false → ∀ cls d H', Sm T H H' → Rf K CP "bad pace" cls d H' → E cls d H')
theorem ok_p_check_pace {f : Addr} {fd : FuncData} {u_MOST_PACE : Value} (F : Fun K "check_pace" "check_pace" s_p_check_pace f fd) (C_MOST_PACE : RelV (.int 12) u_MOST_PACE ∧ mg "MOST_PACE" = some u_MOST_PACE) {CP : Addr} (R_BadPace : Err P w K mg base CP "BadPace" "bad pace") (F_p_is_within : Fn P w K mg base 2 "is_within" ["thing", "least", "most"] (sp_p_is_within K T)) : FnOk P w K mg base (L2.CX P w) 4 f fd ["pace"] (sp_p_check_pace K T CP) := by
  obtain ⟨⟨tM, rfl⟩, gM⟩ := id C_MOST_PACE
  refine F.okX sc_p_check_pace (fun vs H Q E h => ?_) (fun cdv A outer s H vs Q E hr h => ?_)
  · obtain ⟨z, rfl, _⟩ := h
    rfl
  · obtain ⟨z, rfl, k1, k2⟩ := h
    refine ⟨_, (pss_one (ps_if (pt_not (pt_val (pe_fn F_p_is_within (hr.mono (by decide)) (pa_cons (pv 0) (pa_cons pe_int (pa_cons (pe_glob (by rfl) C_MOST_PACE.2 C_MOST_PACE.1) pa_nil)))))) (pss_one (ps_raise rfl (takes_of rfl rfl rfl rfl) (pmk_err R_BadPace (hr.mono (by decide)) (by rfl)))) pss_nil)), ?_⟩
    refine ⟨_, rfl, z, 1, 12, rfl, _, rfl, ?_⟩
    show if (!(paceB z)) = true then _ else _
    cases hz : paceB z with
    | true => exact iteF (k1 hz)
    | false => exact iteT fun cls dd hn rf => k2 hz cls (some dd) _ (same_upd hn) rf
/-- what paces are refused with -/
def pcW (m : Int) (zs : List Int) : Option Str := if ¬ (1 ≤ (zs.length : Int) ∧ (zs.length : Int) ≤ m) then some "bad count" else if zs.all paceB = true then none else some "bad pace"
def sp_p_check_paces (K : PySem.W.Frag) (T : Tb) (CP : Addr) : Sp := fun vs H Q E => ∃ (a : Addr) (zs : List Int) (m : Int), vs = [.ref a, .int m] ∧ SqL K H a (zs.map V.int) ∧ (pcW m zs = none → Q .non H) ∧ (∀ wd, pcW m zs = some wd → ∀ cls d H', Sm T H H' → Rf K CP wd cls d H' → E cls d H')
theorem ok_p_check_paces {f : Addr} {fd : FuncData} (F : Fun K "check_paces" "check_paces" s_p_check_paces f fd) (B : Bn mg) {CP : Addr} (R_BadCount : Err P w K mg base CP "BadCount" "bad count") (F_p_check_pace : Fx P w K mg base 4 "check_pace" ["pace"] (sp_p_check_pace K T CP)) : FnOk P w K mg base (L2.CX P w) 5 f fd ["paces", "most"] (sp_p_check_paces K T CP) := by
  refine F.okX sc_p_check_paces (fun vs H Q E h => ?_) (fun cdv A outer s H vs Q E hr h => ?_)
  · obtain ⟨a, zs, m, rfl, _⟩ := h
    rfl
  · obtain ⟨a, zs, m, rfl, ha, k1, k2⟩ := h
    refine ⟨_, (pss_cons (ps_if (pt_not (pt_chain op_le op_le pe_int (pe_callB call_len_seq (by rfl) B.len_ (by decide +kernel) (pa_cons (pv 0) pa_nil)) (pv 1))) (pss_one (ps_raise rfl (takes_of rfl rfl rfl rfl) (pmk_err R_BadCount (hr.mono (by decide)) (by rfl)))) pss_nil)
      (pss_one (ps_for (passes_of rfl) rfl (pi_list (pv 0)) (pg_name (i := 2) sc_p_check_paces.nd rfl (.inl rfl))
      (pss_one (ps_expr (pe_fx F_p_check_pace (hr.mono (by decide)) (takes_of rfl rfl rfl rfl) (pa_cons (pv 2) pa_nil))))))), ?_⟩
    refine ⟨_, rfl, a, _, rfl, .inl ha, _, _, rfl, rfl, _, rfl, ?_⟩
    rw [List.length_map]
    have bad : ¬ (1 ≤ (zs.length : Int) ∧ (zs.length : Int) ≤ m) → tErr K CP "bad count" [] H (fun cls d H' => E cls d H') := fun hb cls dd hn rf => k2 "bad count" (by unfold pcW; rw [if_pos hb]) cls (some dd) _ (same_upd hn) rf
    by_cases h1 : (1 : Int) ≤ (zs.length : Int)
    · rw [decide_eq_true h1]
      refine iteT ?_
      refine ⟨_, rfl, _, _, rfl, rfl, _, rfl, ?_⟩
      by_cases h2 : (zs.length : Int) ≤ m
      · rw [decide_eq_true h2]
        refine iteF ?_
        refine ⟨_, rfl, a, rfl, ⟨_, ha⟩, for_list (K := K) (a := a) (xs := zs.map V.int) (fun i σ H3 => H3 = H ∧ (zs.take i).all paceB = true ∧ ∃ x, σ = [some (.ref a), some (.int m), x]) ⟨rfl, by rw [List.take_zero]; rfl, _, rfl⟩ (fun i σ H3 _ ⟨e, _⟩ => by rw [e]; exact ha) ?_ ?_⟩
        · rintro i v σ H3 hi ⟨rfl, hall, x, rfl⟩
          rw [List.getElem?_map] at hi
          obtain ⟨z, hq, rfl⟩ : ∃ z, zs[i]? = some z ∧ V.int z = v := Option.map_eq_some_iff.mp hi
          refine ⟨_, rfl, z, rfl, fun hz => ?_, fun hz cls d H' s' rf => ?_⟩
          · refine ⟨rfl, ?_, _, rfl⟩
            rw [List.take_add_one, List.all_append, hall, hq]
            show (true && ([z].all paceB)) = true
            rw [List.all_cons, hz]
            rfl
          · refine k2 "bad pace" ?_ cls d H' s' rf
            unfold pcW
            rw [if_neg (fun c => c ⟨h1, h2⟩), if_neg]
            intro c
            have := List.all_eq_true.mp c z (List.mem_of_getElem? hq)
            rw [hz] at this
            exact absurd this (by decide)
        · rintro σ H3 ⟨rfl, hall, x, rfl⟩
          refine k1 ?_
          rw [List.length_map, List.take_length] at hall
          unfold pcW
          rw [if_neg (fun c => c ⟨h1, h2⟩), if_pos hall]
      · rw [decide_eq_false h2]
        exact iteT (bad fun c => h2 c.2)
    · rw [decide_eq_false h1]
      exact iteF ⟨_, rfl, iteT (bad fun c => h1 c.1)⟩
def risB : List Int → Bool
  | a :: b :: r => decide (a ≤ b) && risB (b :: r)
  | _ => true
def pW (zs : List Int) : Option Str := match pcW 8 zs with
  | some wd => some wd
  | none => if risB zs = true then none else some "not rising"
theorem risB_drop : ∀ (zs : List Int) (i : Nat), (∀ j, j < i → j + 1 < zs.length → zs.getD j 0 ≤ zs.getD (j + 1) 0) → risB (zs.drop i) = risB zs
  | [], i, _ => by rw [List.drop_nil]
  | [a], i, _ => by cases i <;> simp [risB]
  | a :: b :: r, 0, _ => rfl
  | a :: b :: r, i + 1, h => by
    rw [List.drop_succ_cons, risB_drop (b :: r) i (fun j hj hj2 => by
      have := h (j + 1) (by omega) (by simpa using hj2)
      simpa using this)]
    have := h 0 (by omega) (by simp)
    simp only [risB]
    rw [decide_eq_true (by simpa using this), Bool.true_and]
theorem risB_pair : ∀ {zs : List Int}, risB zs = true ↔ zs.Pairwise (· ≤ ·)
  | [] => by simp [risB]
  | [a] => by simp [risB]
  | a :: b :: r => by
    simp only [risB, Bool.and_eq_true, decide_eq_true_eq]
    rw [risB_pair (zs := b :: r), List.pairwise_cons (a := a)]
    constructor
    · rintro ⟨h1, h2⟩
      refine ⟨fun c hc => ?_, h2⟩
      rcases List.mem_cons.mp hc with rfl | hc
      · exact h1
      · exact Int.le_trans h1 ((List.pairwise_cons.mp h2).1 c hc)
    · rintro ⟨h1, h2⟩
      exact ⟨h1 b List.mem_cons_self, h2⟩
theorem pW_ris {zs : List Int} : pW zs = none ↔ Ris zs := by
  unfold pW pcW
  constructor
  · intro h
    by_cases h1 : ¬ (1 ≤ (zs.length : Int) ∧ (zs.length : Int) ≤ 8)
    · rw [if_pos h1] at h
      cases h
    · rw [if_neg h1] at h
      by_cases h2 : zs.all paceB = true
      · rw [if_pos h2] at h
        by_cases h3 : risB zs = true
        · refine ⟨by omega, by omega, fun n hn => ?_, risB_pair.mp h3⟩
          have := List.all_eq_true.mp h2 n hn
          unfold paceB at this
          simp only [Bool.and_eq_true, decide_eq_true_eq] at this
          exact this
        · simp only [if_neg h3] at h
          cases h
      · rw [if_neg h2] at h
        cases h
  · intro w
    rw [if_neg (fun c => c ⟨by have := w.n1; omega, by have := w.n8; omega⟩), if_pos (List.all_eq_true.mpr fun n hn => ?_)]
    · simp only [if_pos (risB_pair.mpr w.rise)]
    · unfold paceB
      simp only [Bool.and_eq_true, decide_eq_true_eq]
      exact w.pace n hn
def sp_p_check_rising (K : PySem.W.Frag) (T : Tb) (CP : Addr) : Sp := fun vs H Q E => ∃ (a : Addr) (zs : List Int), vs = [.ref a] ∧ SqL K H a (zs.map V.int) ∧ zs.length ≤ 1000 ∧ (pW zs = none → ∀ H', Sm T H H' → Q .non H') ∧ (∀ wd, pW zs = some wd → ∀ cls d H', Sm T H H' → Rf K CP wd cls d H' → E cls d H')
theorem ok_p_check_rising {f : Addr} {fd : FuncData} {u_MOST_HANDS : Value} (F : Fun K "check_rising" "check_rising" s_p_check_rising f fd) (B : Bn mg) (C_MOST_HANDS : RelV (.int 8) u_MOST_HANDS ∧ mg "MOST_HANDS" = some u_MOST_HANDS) {CP : Addr} (R_NotRising : Err P w K mg base CP "NotRising" "not rising") (F_p_check_paces : Fx P w K mg base 5 "check_paces" ["paces", "most"] (sp_p_check_paces K T CP)) : FnOk P w K mg base (L2.CX P w) 6 f fd ["paces"] (sp_p_check_rising K T CP) := by
  obtain ⟨⟨tM, rfl⟩, gM⟩ := id C_MOST_HANDS
  refine F.okX sc_p_check_rising (fun vs H Q E h => ?_) (fun cdv A outer s H vs Q E hr h => ?_)
  · obtain ⟨a, zs, rfl, _⟩ := h
    rfl
  · obtain ⟨a, zs, rfl, ha, hl, k1, k2⟩ := h
    refine ⟨_, (pss_cons (ps_expr (pe_fx F_p_check_paces (hr.mono (by decide)) (takes_of rfl rfl rfl rfl) (pa_cons (pv 0) (pa_cons (pe_glob (by rfl) C_MOST_HANDS.2 C_MOST_HANDS.1) pa_nil))))
      (pss_one (ps_for (passes_of rfl) rfl (pi_zip (by rfl) B.zip_ (pa_cons (pv 0) (pa_cons (pe_slice sl_list (pv 0) (po_some pe_int) po_none) pa_nil))) (pg_tup rfl (pgs_cons (pg_name (i := 1) sc_p_check_rising.nd rfl (.inl rfl)) (pgs_cons (pg_name (i := 2) sc_p_check_rising.nd rfl (.inl rfl)) pgs_nil)))
      (pss_one (ps_if (pt_cmpR op_gt (pv 1) (pv 2) (nomark _)) (pss_one (ps_raise rfl (takes_of rfl rfl rfl rfl) (pmk_err R_NotRising (hr.mono (by decide)) (by rfl)))) pss_nil))))), ?_⟩
    refine ⟨_, rfl, a, zs, 8, rfl, ha, fun hp => ?_, fun wd hp cls d H' s' rf => k2 wd (by unfold pW; rw [hp]) cls d H' s' rf⟩
    refine ⟨_, rfl, _, rfl, 1, rfl, a, _, rfl, ha, fun l1 n1 => ?_⟩
    have ec0 : cutV (zs.map V.int) (some 1) none = (zs.map V.int).drop 1 := cut_drop _ 1 rfl
    have ec : cutV (zs.map V.int) (some 1) none = (zs.drop 1).map V.int := by rw [ec0, List.map_drop]
    rw [ec]
    have u1 := same_upd (T := T) (o := HO.lst ((zs.drop 1).map V.int)) n1
    refine ⟨a, l1, _, _, rfl, u1.seq ha, SqL.of upd_same, for_it (walk_zip (n := zs.length - 1) (by rw [List.length_map, List.length_map, List.length_drop]; omega)) (fun i σ H3 => Sm T (upd H l1 (.lst ((zs.drop 1).map V.int))) H3 ∧ (∀ j, j < i → j + 1 < zs.length → zs.getD j 0 ≤ zs.getD (j + 1) 0) ∧ ∃ x1 x2, σ = [some (.ref a), x1, x2]) ⟨Sm.refl, fun j hj => by omega, _, _, rfl⟩ (fun i σ H3 _ ⟨s3, _⟩ => ⟨(u1.trans s3).seq ha, SqL.of (s3.k upd_same)⟩) ?_ ?_⟩
    · rintro i x σ H2 H3 hi ⟨s2, hr, x1, x2, rfl⟩ ⟨tp, y1, y2, rfl, ntp, rfl, f1, f2⟩
      have g1 := getI (l := zs) (j := i) (by omega)
      have g2 := getI (l := zs) (j := i + 1) (by omega)
      simp only [List.getElem?_map, g1, Option.map_some] at f1
      simp only [List.getElem?_map, List.getElem?_drop, Nat.add_comm 1 i, g2, Option.map_some] at f2
      cases f1
      cases f2
      have ut := same_upd (T := T) (o := .tup [V.int (zs.getD i 0), V.int (zs.getD (i + 1) 0)]) ntp
      refine ⟨tp, _, rfl, SqT.of upd_same, rfl, _, _, rfl, _, _, rfl, rfl, ?_⟩
      refine ⟨_, rfl, _, rfl, _, _, rfl, rfl, _, rfl, ite2 (fun e => ?_) (fun e => ?_)⟩
      · have hg : zs.getD (i + 1) 0 < zs.getD i 0 := of_decide_eq_true e
        refine fun cls dd hn rf => k2 "not rising" ?_ cls (some dd) _ (u1.trans (s2.trans (ut.trans (same_upd hn)))) rf
        unfold pW
        rw [hp]
        refine if_neg (fun c => ?_)
        have := risB_pair.mp c
        have := List.pairwise_iff_getElem.mp this i (i + 1) (by omega) (by omega) (by omega)
        rw [getD_lt (show i < zs.length by omega), getD_lt (show i + 1 < zs.length by omega)] at hg
        omega
      · have hg : ¬ zs.getD (i + 1) 0 < zs.getD i 0 := fun z => e (decide_eq_true z)
        refine ⟨s2.trans ut, fun j hj hj2 => ?_, _, _, rfl⟩
        by_cases c : j = i
        · subst c; omega
        · exact hr j (by omega) hj2
    · rintro σ H2 ⟨s2, hr, x1, x2, rfl⟩
      refine k1 ?_ H2 (u1.trans s2)
      unfold pW
      rw [hp]
      refine if_pos ?_
      rw [← risB_drop zs (zs.length - 1) hr]
      have : (zs.drop (zs.length - 1)).length ≤ 1 := by rw [List.length_drop]; omega
      match zs.drop (zs.length - 1), this with
      | [], _ => rfl
      | [_], _ => rfl

def sp_l_rising_of (K : PySem.W.Frag) (T : Tb) : Sp := fun vs H Q _ => ∃ c : Int, vs = [.int c] ∧ ∀ p H' ns, Sm T H H' → H p = none → H' p = some (.lst (ns.map V.int)) → Ris ns → Q (.ref p) H'
theorem cut_mid {ds : List Int} {lo m : Nat} {z1 z2 : Int} (h1 : z1 = (lo : Int)) (h2 : z2 = ((lo + m : Nat) : Int)) (hl : lo + m ≤ ds.length) : cutV (ds.map V.int) (some z1) (some z2) = ((ds.drop lo).take m).map V.int := by
  subst h1 h2
  unfold cutV
  rw [HT.sIx_nat, HT.sIx_nat, List.length_map, Nat.min_eq_left (by omega), Nat.min_eq_left (by omega), Nat.add_sub_cancel_left, List.map_take, List.map_drop]
theorem ok_l_rising_of {f : Addr} {fd : FuncData} (F : Fun K "_law_rising_of" "_law_rising_of" s_l_rising_of f fd) (B : Bn mg) (F_l_draws : Fn P w K mg base 1 "_law_draws" ["_law_cell_here", "_law_parts"] (sp_l_draws K T)) : FnOk P w K mg base CX0 2 f fd ["_law_cell_here"] (sp_l_rising_of K T) := by
  refine F.ok sc_l_rising_of (fun vs H Q E h => ?_) (fun cdv A outer s H vs Q E hr h => ?_)
  · obtain ⟨c, rfl, _⟩ := h
    rfl
  · obtain ⟨c, rfl, q⟩ := h
    refine ⟨_, (pss_cons (ps_set (i := 1) sc_l_rising_of.nd rfl (.inr rfl) (pe_fn F_l_draws (hr.mono (by decide)) (pa_cons (pv 0) (pa_cons (pe_op op_cat (pe_lst (pa_cons pe_int (pa_cons pe_int pa_nil))) (pe_op op_rep (pe_lst (pa_cons pe_int pa_nil)) pe_int)) pa_nil))))
      (pss_cons (ps_set (i := 2) sc_l_rising_of.nd rfl (.inl rfl) (pe_op op_add (pe_ix ix_list (pv 1) pe_int (fun _ _ => rfl)) pe_int))
      (pss_one (ps_ret (pe_callB cr_sortedI (by rfl) B.sorted_ (by decide +kernel) (pa_cons (pe_lc (own := [("_law_one", 3)]) (g := (gName 3)) (tt := tYes) (by rfl) sc_l_rising_of.nd (pi_list (pe_slice sl_list (pv 1) (po_some pe_int) (po_some (pe_op op_add pe_int (pv 2))))) (blkOk_by (own := [("_law_one", 3)]) (N := ["_law_cell_here", "_law_drawn", "_law_many_here", "_law_one"]) (sc := (defScope s_l_rising_of)) (by decide +kernel)) (fun _ _ _ _ _ => (pg_name (i := 3) sc_l_rising_of.nd rfl (.inl rfl))) (fun _ _ _ _ _ => pts_nil) (fun _ _ _ _ _ => (pe_ix (r := rIxL K) ix_list (pe_lst (pa_cons (pe_op op_add pe_int (pv 3)) (pa_cons (pe_op op_add pe_int (pe_op op_mod (pv 3) pe_int)) (pa_cons (pe_op op_sub pe_int (pe_op op_mod (pv 3) pe_int)) (pa_cons (pe_op op_add pe_int (pe_ix (r := rIxL K) ix_list (pv 1) pe_int (fun _ _ => rfl))) (pa_cons (pe_op op_add pe_int (pv 3)) pa_nil)))))) (pe_ix (r := rIxL K) ix_list (pv 1) pe_int (fun _ _ => rfl)) (fun _ _ => rfl)))) pa_nil)))))), ?_⟩
    refine ⟨_, rfl, by show 2 ≤ sizeLine; decide, fun l1 n1 => ⟨by show 1 ≤ sizeLine; decide, fun l2 n2 => ?_⟩⟩
    refine ⟨_, _, _, rfl, rfl, upd_same, by decide, by decide, by show 1 * 8 ≤ sizeLine; decide, fun l3 n3 => ?_⟩
    have u1 := same_upd (T := T) (o := HO.lst [V.int 8, V.int 5]) n1
    have u2 := same_upd (T := T) (o := HO.lst [V.int 12]) n2
    have u3 := same_upd (T := T) (o := HO.lst (List.replicate 8 [V.int 12]).flatten) n3
    refine ⟨_, _, _, _, rfl, rfl, u3.k (u2.k upd_same), upd_same, by show 2 + 8 ≤ sizeLine; decide, fun l4 n4 => ?_⟩
    have u4 := same_upd (T := T) (o := HO.lst ([V.int 8, V.int 5] ++ (List.replicate 8 [V.int 12]).flatten)) n4
    refine ⟨c, l4, [8, 5, 12, 12, 12, 12, 12, 12, 12, 12], rfl, SqL.of upd_same, by decide, by decide, fun p3 H3 ds s3 np3 e3 hd => ?_⟩
    have s03 : Sm T H H3 := u1.trans (u2.trans (u3.trans (u4.trans s3)))
    clear s3 u1 u2 u3 u4
    have dl : ds.length = 10 := hd.length
    obtain ⟨d0, g0, h00, h01⟩ := hd.get (i := 0) rfl
    obtain ⟨d1, g1, h10, h11⟩ := hd.get (i := 1) rfl
    obtain ⟨d2, g2, h20, h21⟩ := hd.get (i := 2) rfl
    obtain ⟨m, hm⟩ : ∃ m : Nat, d0 + 1 = (m : Int) := ⟨(d0 + 1).toNat, by omega⟩
    refine ⟨_, rfl, p3, _, 0, .int d0, rfl, rfl, SqL.of e3, at_map (i := 0) rfl g0, _, _, rfl, rfl, ?_⟩
    refine ⟨_, rfl, 2, rfl, _, rfl, _, _, rfl, rfl, _, rfl, p3, _, rfl, SqL.of e3, fun p4 np4 => ?_⟩
    have ec : cutV (ds.map V.int) (some 2) (some (2 + (d0 + 1))) = ((ds.drop 2).take m).map V.int := cut_mid (lo := 2) (m := m) rfl (by omega) (by omega)
    rw [ec]
    have u4 := same_upd (T := T) (o := HO.lst (((ds.drop 2).take m).map V.int)) np4
    refine ⟨p4, rfl, ⟨_, SqL.of upd_same⟩, fun D hD => lc_list (K := K) (a := p4) (xs := ((ds.drop 2).take m).map V.int) (Qd := _) (fun i H' => Sm T (upd H3 p4 (.lst (((ds.drop 2).take m).map V.int))) H' ∧ ∃ ns : List Int, H' D = some (.lst (ns.map V.int)) ∧ ns.length = i ∧ ∀ n ∈ ns, 1 ≤ n ∧ n ≤ 12) ⟨same_upd hD, [], upd_same, rfl, fun _ h => nomatch h⟩ (fun i H' _ ⟨sm, _⟩ => SqL.of (sm.k upd_same)) ?_ ?_⟩
    · rintro i v H' hi ⟨sm, ns, eD, hl, hn⟩
      rw [List.getElem?_map] at hi
      obtain ⟨one, hq, rfl⟩ : ∃ one, ((ds.drop 2).take m)[i]? = some one ∧ V.int one = v := Option.map_eq_some_iff.mp hi
      have him : i < m := by
        have := (List.getElem?_eq_some_iff.mp hq).1
        rw [List.length_take] at this
        omega
      have hone : 0 ≤ one ∧ one < 12 := by
        obtain ⟨x, gx, x0, x1⟩ : ∃ x, ds[2 + i]? = some x ∧ 0 ≤ x ∧ x < 12 := hd.get (q := 12) (by rcases (by omega : i = 0 ∨ i = 1 ∨ i = 2 ∨ i = 3 ∨ i = 4 ∨ i = 5 ∨ i = 6 ∨ i = 7) with rfl | rfl | rfl | rfl | rfl | rfl | rfl | rfl <;> rfl)
        rw [List.getElem?_take_of_lt him, List.getElem?_drop, gx] at hq
        cases hq
        exact ⟨x0, x1⟩
      refine ⟨rfl, tyes_i ?_⟩
      have e4 := (u4.trans sm).k e3
      refine ⟨_, rfl, _, _, rfl, rfl, _, rfl, _, _, rfl, rfl, (by show (0 : Int) < 3; decide), _, _, rfl, rfl, _, rfl, _, _, rfl, rfl, (by show (0 : Int) < 2; decide), _, _, rfl, rfl, _, rfl, p3, _, 2, .int d2, rfl, rfl, SqL.of e4, at_map (i := 2) rfl g2, _, _, rfl, rfl, _, rfl, _, _, rfl, rfl, by show 5 ≤ sizeLine; decide, fun l nl => ?_⟩
      have ul := same_upd (T := T) (o := HO.lst [V.int (1 + one), V.int (1 + one % 3), V.int (12 - one % 2), V.int (1 + d2), V.int (1 + one)]) nl
      have hz : ∃ z : Int, 1 ≤ z ∧ z ≤ 12 ∧ atI [V.int (1 + one), V.int (1 + one % 3), V.int (12 - one % 2), V.int (1 + d2), V.int (1 + one)] d1 = some (.int z) := by
        rcases (by omega : d1 = 0 ∨ d1 = 1 ∨ d1 = 2 ∨ d1 = 3 ∨ d1 = 4) with rfl | rfl | rfl | rfl | rfl
        · exact ⟨_, by omega, by omega, atI_nat (j := 0) rfl⟩
        · exact ⟨_, by omega, by omega, atI_nat (j := 1) rfl⟩
        · exact ⟨_, by omega, by omega, atI_nat (j := 2) rfl⟩
        · exact ⟨_, by omega, by omega, atI_nat (j := 3) rfl⟩
        · exact ⟨_, by omega, by omega, atI_nat (j := 4) rfl⟩
      obtain ⟨z, z1, z12, hz⟩ := hz
      have e5 := ul.k e4
      have eD5 := ul.k eD
      refine ⟨_, rfl, p3, _, 1, .int d1, rfl, rfl, SqL.of e5, at_map (i := 1) rfl g1, l, _, _, _, rfl, rfl, SqL.of upd_same, hz, ?_⟩
      refine ⟨_, eD5, by rw [List.length_map]; exact szl (by omega), same_mut (sm.trans ul) hD eD5, ns ++ [z], by rw [upd_same, List.map_append]; rfl, by rw [List.length_append, hl]; rfl, fun n hn' => ?_⟩
      rcases List.mem_append.mp hn' with h | h
      · exact hn n h
      · rw [List.mem_singleton.mp h]
        exact ⟨z1, z12⟩
    · rintro H5 ⟨s5, ns, eD, hl, hn⟩
      have nl : ns.length = m := by
        rw [hl, List.length_map, List.length_take, List.length_drop]
        omega
      refine ⟨D, ns, rfl, SqL.of eD, fun ns' p hperm hs np => ?_⟩
      have lp := hperm.length_eq
      exact q p _ ns' (s03.trans (u4.trans (s5.trans (same_upd np)))) ((s03.trans (u4.trans s5)).free _ np) upd_same ⟨by omega, by omega, fun n hn' => hn n (hperm.mem_iff.mp hn'), hs⟩

def wOk (q : Am) : Bool := (decide (1 ≤ q.1) && decide (q.1 ≤ 9)) && (decide (1 ≤ q.2) && decide (q.2 ≤ 9))
def wayB (qs : List Am) : Bool := (decide (1 ≤ qs.length) && decide (qs.length ≤ 6)) && qs.all wOk
def labourM (qs : List Am) : Int := (qs.map fun (q : Int × Int) => q.1 * q.2).sum
def stepsM (qs : List Am) : Int := (qs.map fun (q : Int × Int) => q.1).sum
theorem wOk_b {q : Am} (h : wOk q = true) : 1 ≤ q.1 ∧ q.1 ≤ 9 ∧ 1 ≤ q.2 ∧ q.2 ≤ 9 := by
  unfold wOk at h
  simp only [Bool.and_eq_true, decide_eq_true_eq] at h
  exact ⟨h.1.1, h.1.2, h.2.1, h.2.2⟩
theorem wayB_b {qs : List Am} (h : wayB qs = true) : 1 ≤ qs.length ∧ qs.length ≤ 6 ∧ ∀ q ∈ qs, 1 ≤ q.1 ∧ q.1 ≤ 9 ∧ 1 ≤ q.2 ∧ q.2 ≤ 9 := by
  unfold wayB at h
  simp only [Bool.and_eq_true, decide_eq_true_eq, List.all_eq_true] at h
  exact ⟨h.1.1, h.1.2, fun q hq => wOk_b (h.2 q hq)⟩
theorem sum_bd {c : Int} (hc : 0 ≤ c) : ∀ (l : List Int), (∀ z ∈ l, 0 ≤ z ∧ z ≤ c) → 0 ≤ l.sum ∧ l.sum ≤ c * (l.length : Int)
  | [], _ => by simp
  | z :: l, h => by
    have i := sum_bd hc l fun y hy => h y (List.mem_cons_of_mem _ hy)
    have j := h z List.mem_cons_self
    rw [List.sum_cons, List.length_cons]
    have e : c * ((l.length + 1 : Nat) : Int) = c * (l.length : Int) + c := by rw [Int.natCast_add, Int.mul_add]; simp
    rw [e]
    omega
theorem long_of {l : List Int} (h : ∀ z ∈ l, 0 ≤ z ∧ z ≤ 81) (hl : l.length ≤ 6) : ∀ j, j < l.length → InLong (l.getD j 0) ∧ InLong ((l.take (j + 1)).sum) := fun j hj => by
  constructor
  · rw [List.getD_eq_getElem?_getD, List.getElem?_eq_getElem hj]
    have := h _ (List.getElem_mem hj)
    show -(2 ^ 63) ≤ l[j] ∧ l[j] < 2 ^ 63
    omega
  · have s := sum_bd (c := 81) (by decide) (l.take (j + 1)) fun z hz => h z (List.mem_of_mem_take hz)
    have : ((l.take (j + 1)).length : Int) ≤ 6 := by rw [List.length_take]; omega
    show -(2 ^ 63) ≤ (l.take (j + 1)).sum ∧ (l.take (j + 1)).sum < 2 ^ 63
    omega
theorem pairs_of {K : PySem.W.Frag} {H : Hp} {a : Addr} {vs : List V} {qs : List Am} (hS : SqL K H a vs) (hd : DpAll K H vs (qs.map amD)) : Pairs K H a qs := by
  refine ⟨vs, hS, ?_, fun i p e => ?_⟩
  · rw [dpa_len hd, List.length_map]
  · obtain ⟨v, e1, e2⟩ := dpa_get hd (i := i) (d := amD p) (by rw [List.getElem?_map, e]; rfl)
    obtain ⟨b, rfl, hb⟩ := pd_at e2
    exact ⟨b, e1, hb⟩
def sp_p_is_stretch (K : PySem.W.Frag) (T : Tb) : Sp := fun vs H Q _ => ∃ b q, vs = [.ref b] ∧ SqT K H b (tv q) ∧ Ok T H ∧ ∀ H', Sm T H H' → Q (.bl (wOk q)) H'
theorem ok_p_is_stretch {f : Addr} {fd : FuncData} {u_MOST_STEPS_OR_TOIL : Value} {c PT : Addr} (F : FunC K "is_stretch" "is_stretch" s_p_is_stretch f fd c) (hnT : (T.map (·.1)).Nodup) (hPT : (PT, (none : Option Str)) ∈ T) (TB : GxR.TabB base mg c PT) (B : Bn mg) (C_MOST_STEPS_OR_TOIL : RelV (.int 9) u_MOST_STEPS_OR_TOIL ∧ mg "MOST_STEPS_OR_TOIL" = some u_MOST_STEPS_OR_TOIL) {fW fN : Addr} (Wt : WithAt K fW) (kW : PySem.W.keepIn K (.ref fW) = true) (gW : mg "is_within" = some (.ref fW)) (N : NumAt K fN) (kN : PySem.W.keepIn K (.ref fN) = true) (gN : mg "is_number" = some (.ref fN)) : FnOk P w K mg base CX0 1 f fd ["thing"] (sp_p_is_stretch K T) := by
  obtain ⟨⟨tM, rfl⟩, gM⟩ := C_MOST_STEPS_OR_TOIL
  refine F.ok sc_p_is_stretch (fun vs H Q E h => ?_) (fun A outer s H vs Q E hr h => ?_)
  · obtain ⟨b, q, rfl, _⟩ := h
    rfl
  · obtain ⟨b, q, rfl, hS, hok, k⟩ := h
    refine ⟨_, (pss_cons (ps_if (PW.pt (pw_or (pt_not (pt_val (pe_callB call_isi (by rfl) B.isinstance_ (by decide +kernel) (pa_cons (pv 0) (pa_cons (pe_bltn (v := .ty "tuple") (by rfl) B.tuple_ (by decide +kernel) rfl) pa_nil))))) (pw_or1 (pt_cmpR op_ne (pe_callB call_len_seq (by rfl) B.len_ (by decide +kernel) (pa_cons (pv 0) pa_nil)) pe_int (nomark _))))) (pss_one (ps_ret pe_bl)) pss_nil)
      (pss_one (ps_ret (pe_allI hnT hPT hr (by rfl) B.all_ (by decide +kernel) TB rfl (gens_by (by decide +kernel)) (pv 0) (elt_num hr Wt kW gW N kN gN gM rfl B.isinstance_ B.int_ B.bool_ rfl rfl rfl rfl) (fun _ => rfl))))), ?_⟩
    refine ⟨_, rfl, _, _, _, _, true, rfl, .ty "tuple", tyx_of (amD_dp hS), kit_ty kb_tuple_tuple, _, rfl, iteF ?_⟩
    refine ⟨_, rfl, b, _, rfl, .inr hS, rfl, _, rfl, iteF ?_⟩
    refine ⟨_, rfl, b, [q.1, q.2], rfl, hS, hok _ hPT, hok, fun H2 s2 => ?_⟩
    have e : ([q.1, q.2].all fun i => decide (1 ≤ i) && decide (i ≤ 9)) = wOk q := by
      unfold wOk
      rw [List.all_cons, List.all_cons, List.all_nil, Bool.and_true]
    rw [e]
    exact k H2 s2
def sp_p_check_way (K : PySem.W.Frag) (T : Tb) (CP : Addr) : Sp := fun vs H Q E => ∃ a us qs, vs = [.ref a] ∧ SqL K H a us ∧ DpAll K H us (qs.map amD) ∧ qs.length ≤ 1000 ∧ Ok T H ∧ (wayB qs = true → ∀ H', Sm T H H' → Q .non H') ∧
  (wayB qs = false → ∀ cls d H', Sm T H H' → Rf K CP "bad way" cls d H' → E cls d H')
theorem ok_p_check_way {f : Addr} {fd : FuncData} {u_MOST_STRETCHES : Value} (F : Fun K "check_way" "check_way" s_p_check_way f fd) (B : Bn mg) (C_MOST_STRETCHES : RelV (.int 6) u_MOST_STRETCHES ∧ mg "MOST_STRETCHES" = some u_MOST_STRETCHES) {CP : Addr} (R_BadWay : Err P w K mg base CP "BadWay" "bad way") (F_p_is_stretch : Fn P w K mg base 1 "is_stretch" ["thing"] (sp_p_is_stretch K T)) : FnOk P w K mg base (L2.CX P w) 4 f fd ["way"] (sp_p_check_way K T CP) := by
  refine F.okX sc_p_check_way (fun vs H Q E h => ?_) (fun cdv A outer s H vs Q E hr h => ?_)
  · obtain ⟨a, us, qs, rfl, _⟩ := h
    rfl
  · obtain ⟨a, us, qs, rfl, hS, hd, hl, hok, k1, k2⟩ := h
    obtain ⟨⟨tM, rfl⟩, gM⟩ := id C_MOST_STRETCHES
    refine ⟨_, (pss_cons (ps_if (pt_not (pt_chain op_le op_le pe_int (pe_callB call_len_seq (by rfl) B.len_ (by decide +kernel) (pa_cons (pv 0) pa_nil)) (pe_glob (by rfl) C_MOST_STRETCHES.2 C_MOST_STRETCHES.1))) (pss_one (ps_raise rfl (takes_of rfl rfl rfl rfl) (pmk_err R_BadWay (hr.mono (by decide)) (by rfl)))) pss_nil)
      (pss_one (ps_for (passes_of rfl) rfl (pi_list (pv 0)) (pg_name (i := 1) sc_p_check_way.nd rfl (.inl rfl))
      (pss_one (ps_if (pt_not (pt_val (pe_fn F_p_is_stretch (hr.mono (by decide)) (pa_cons (pv 1) pa_nil)))) (pss_one (ps_raise rfl (takes_of rfl rfl rfl rfl) (pmk_err R_BadWay (hr.mono (by decide)) (by rfl)))) pss_nil))))), ?_⟩
    have el : us.length = qs.length := by rw [dpa_len hd, List.length_map]
    have bad : wayB qs = false → ∀ (H1 : Hp), Sm T H H1 → tErr K CP "bad way" [] H1 (fun cls d H' => E cls d H') := fun hb H1 s1 cls dd hn rf => k2 hb cls (some dd) _ (s1.trans (same_upd hn)) rf
    refine ⟨_, rfl, a, us, rfl, .inl hS, _, _, rfl, rfl, _, rfl, ?_⟩
    by_cases h1 : (1 : Int) ≤ (us.length : Int)
    · rw [decide_eq_true h1]
      refine iteT ?_
      refine ⟨_, _, rfl, rfl, _, rfl, ?_⟩
      by_cases h2 : (us.length : Int) ≤ 6
      · rw [decide_eq_true h2]
        refine iteF ?_
        refine ⟨_, rfl, a, rfl, ⟨_, hS⟩, for_list (K := K) (a := a) (xs := us) (fun i σ H3 => Sm T H H3 ∧ (qs.take i).all wOk = true ∧ ∃ x, σ = [some (.ref a), x]) ⟨Sm.refl, by rw [List.take_zero]; rfl, _, rfl⟩ (fun i σ H3 _ ⟨s3, _⟩ => s3.seq hS) ?_ ?_⟩
        · rintro i v σ H3 hi ⟨s3, ha, x, rfl⟩
          have hil : i < qs.length := by rw [← el]; exact (List.getElem?_eq_some_iff.mp hi).1
          obtain ⟨v', e1, e2⟩ := dpa_get hd (i := i) (d := amD qs[i]) (by rw [List.getElem?_map, List.getElem?_eq_getElem hil]; rfl)
          rw [hi] at e1
          cases e1
          obtain ⟨b, rfl, hb⟩ := pd_at e2
          refine ⟨_, rfl, b, qs[i], rfl, same_tup s3 hb, s3.ok hok, fun H4 s4 => ⟨_, rfl, ?_⟩⟩
          cases hw : wOk qs[i] with
          | true =>
            refine iteF ?_
            refine ⟨s3.trans s4, ?_, _, rfl⟩
            rw [List.take_add_one, List.all_append, ha, List.getElem?_eq_getElem hil]
            show (true && ([qs[i]].all wOk)) = true
            rw [List.all_cons, hw]
            rfl
          | false =>
            refine iteT ?_
            refine bad ?_ H4 (s3.trans s4)
            unfold wayB
            rw [Bool.and_eq_false_iff]
            refine .inr ?_
            rw [List.all_eq_false]
            exact ⟨_, List.getElem_mem hil, by rw [hw]; decide⟩
        · rintro σ H3 ⟨s3, ha, x, rfl⟩
          refine k1 ?_ H3 s3
          rw [el, List.take_length] at ha
          unfold wayB
          rw [ha, Bool.and_true, Bool.and_eq_true]
          exact ⟨decide_eq_true (by omega), decide_eq_true (by omega)⟩
      · rw [decide_eq_false h2]
        refine iteT ?_
        refine bad ?_ H Sm.refl
        unfold wayB
        rw [Bool.and_eq_false_iff, Bool.and_eq_false_iff]
        exact .inl (.inr (decide_eq_false (by omega)))
    · rw [decide_eq_false h1]
      refine iteF ?_
      refine ⟨_, rfl, iteT ?_⟩
      refine bad ?_ H Sm.refl
      unfold wayB
      rw [Bool.and_eq_false_iff, Bool.and_eq_false_iff]
      exact .inl (.inl (decide_eq_false (by omega)))
def sp_p_labour (K : PySem.W.Frag) (T : Tb) (CP : Addr) : Sp := fun vs H Q E => ∃ a us qs, vs = [.ref a] ∧ SqL K H a us ∧ DpAll K H us (qs.map amD) ∧ qs.length ≤ 1000 ∧ Ok T H ∧ (wayB qs = true → ∀ H', Sm T H H' → Q (.int (labourM qs)) H') ∧
  (wayB qs = false → ∀ cls d H', Sm T H H' → Rf K CP "bad way" cls d H' → E cls d H')
theorem ok_p_labour {f : Addr} {fd : FuncData} {c PT : Addr} (F : FunC K "labour" "labour" s_p_labour f fd c) (hnT : (T.map (·.1)).Nodup) (hPT : (PT, (none : Option Str)) ∈ T) (TB : GxR.TabB base mg c PT) (B : Bn mg) {CP : Addr} (F_p_check_way : Fx P w K mg base 4 "check_way" ["way"] (sp_p_check_way K T CP)) : FnOk P w K mg base (L2.CX P w) 5 f fd ["way"] (sp_p_labour K T CP) := by
  refine F.okX sc_p_labour (fun vs H Q E h => ?_) (fun A outer s H vs Q E hr h => ?_)
  · obtain ⟨a, us, qs, rfl, _⟩ := h
    rfl
  · obtain ⟨a, us, qs, rfl, hS, hd, hl, hok, k1, k2⟩ := h
    refine ⟨_, (pss_cons (ps_expr (pe_fx F_p_check_way (hr.mono (by decide)) (takes_of rfl rfl rfl rfl) (pa_cons (pv 0) pa_nil)))
      (pss_one (ps_ret (pe_sumP hnT hPT hr (by rfl) B.sum_ (by decide +kernel) TB rfl (gens_by (by decide +kernel)) rfl (by decide) (pv 0) (elt_mul rfl rfl rfl) (fun _ => rfl))))), ?_⟩
    refine ⟨_, rfl, a, us, qs, rfl, hS, hd, hl, hok, fun hw H1 s1 => ?_, k2⟩
    have hb := wayB_b hw
    refine ⟨_, rfl, a, qs, rfl, (pairs_of hS hd).keep s1, fun q hq => by have := hb.2.2 q hq; omega, s1.ok hok _ hPT, ⟨s1.ok hok, ?_⟩, fun H2 s2 => k1 hw H2 (s1.trans s2)⟩
    have := long_of (l := qs.map fun (q : Int × Int) => q.1 * q.2) (fun z hz => ?_) (by rw [List.length_map]; exact hb.2.1)
    · rw [List.length_map] at this
      exact this
    · obtain ⟨q, hq, rfl⟩ := List.mem_map.mp hz
      have c := hb.2.2 q hq
      exact ⟨Int.mul_nonneg (by omega) (by omega), (Int.mul_le_mul c.2.1 c.2.2.2 (by omega) (by omega) : q.1 * q.2 ≤ 9 * 9)⟩

def sp_l_way (K : PySem.W.Frag) (T : Tb) : Sp := fun vs H Q _ => ∃ c : Int, vs = [.int c] ∧ ∀ o H' us qs, Sm T H H' → H o = none → H' o = some (.lst us) → DpAll K H' us (qs.map amD) → wayB qs = true → Q (.ref o) H'
theorem ok_l_way {f : Addr} {fd : FuncData} (F : Fun K "_law_way" "_law_way" s_l_way f fd) (B : Bn mg) (F_l_draws : Fn P w K mg base 1 "_law_draws" ["_law_cell_here", "_law_parts"] (sp_l_draws K T)) : FnOk P w K mg base CX0 2 f fd ["_law_cell_here"] (sp_l_way K T) := by
  refine F.ok sc_l_way (fun vs H Q E h => ?_) (fun cdv A outer s H vs Q E hr h => ?_)
  · obtain ⟨c, rfl, _⟩ := h
    rfl
  · obtain ⟨c, rfl, q⟩ := h
    refine ⟨_, (pss_cons (ps_set (i := 1) sc_l_way.nd rfl (.inr rfl) (pe_fn F_l_draws (hr.mono (by decide)) (pa_cons (pv 0) (pa_cons (pe_op op_cat (pe_lst (pa_cons pe_int (pa_cons pe_int (pa_cons pe_int pa_nil)))) (pe_lc (own := [("_law_k", 4)]) (g := (gName 4)) (tt := tYes) (by rfl) sc_l_way.nd (pi_range1 (by rfl) B.range_ (pa_cons pe_int pa_nil)) (blkOk_by (own := [("_law_k", 4)]) (N := ["_law_cell_here", "_law_drawn", "_law_cap", "_law_many_here", "_law_k"]) (sc := (defScope s_l_way)) (by decide +kernel)) (fun _ _ _ _ _ => (pg_name (i := 4) sc_l_way.nd rfl (.inl rfl))) (fun _ _ _ _ _ => pts_nil) (fun _ _ _ _ _ => pe_int))) pa_nil))))
      (pss_cons (ps_set (i := 2) sc_l_way.nd rfl (.inr rfl) (pe_ix ix_list (pe_lst (pa_cons pe_int (pa_cons pe_int (pa_cons pe_int pa_nil)))) (pe_ix ix_list (pv 1) pe_int (fun _ _ => rfl)) (fun _ _ => rfl)))
      (pss_cons (ps_set (i := 3) sc_l_way.nd rfl (.inl rfl) (pe_ix ix_list (pe_lst (pa_cons (pe_op op_add (pe_ix ix_list (pv 1) pe_int (fun _ _ => rfl)) pe_int) (pa_cons pe_int (pa_cons (pe_op op_add pe_int (pe_op op_mod (pe_ix ix_list (pv 1) pe_int (fun _ _ => rfl)) pe_int)) pa_nil)))) (pe_ix ix_list (pv 1) pe_int (fun _ _ => rfl)) (fun _ _ => rfl)))
      (pss_one (ps_ret (pe_lc (own := [("_law_k", 4)]) (g := (gName 4)) (tt := tYes) (by rfl) sc_l_way.nd (pi_range1 (by rfl) B.range_ (pa_cons (pv 3) pa_nil)) (blkOk_by (own := [("_law_k", 4)]) (N := ["_law_cell_here", "_law_drawn", "_law_cap", "_law_many_here", "_law_k"]) (sc := (defScope s_l_way)) (by decide +kernel)) (fun _ _ _ _ _ => (pg_name (i := 4) sc_l_way.nd rfl (.inl rfl))) (fun _ _ _ _ _ => pts_nil) (fun _ _ _ _ _ => (pe_tup (pa_cons (pe_op op_add pe_int (pe_op op_mod (pe_ix (r := rIxL K) ix_list (pv 1) (pe_op op_add pe_int (pe_op op_mul pe_int (pv 4))) (fun _ _ => rfl)) (pv 2))) (pa_cons (pe_op op_add pe_int (pe_op op_mod (pe_ix (r := rIxL K) ix_list (pv 1) (pe_op op_add pe_int (pe_op op_mul pe_int (pv 4))) (fun _ _ => rfl)) (pv 2))) pa_nil)))))))))), ?_⟩
    refine ⟨_, rfl, by show 3 ≤ sizeLine; decide, fun l1 nl1 => ?_⟩
    refine ⟨_, rfl, by decide, by decide, fun D hD => lc_range (lo := 0) (n := 12) (Qd := _) (fun i H' => Sm T (upd H l1 (.lst [.int 6, .int 3, .int 3])) H' ∧ H' D = some (.lst (List.replicate i (V.int 9)))) ⟨same_upd hD, upd_same⟩ ?_ ?_⟩
    · rintro i H' hi ⟨sm, eD⟩
      refine ⟨rfl, tyes_i ?_⟩
      refine ⟨_, eD, by rw [List.length_replicate]; exact szl (by omega), same_mut sm hD eD, ?_⟩
      rw [upd_same, ← List.replicate_succ']
    · rintro H1 ⟨s1, e1⟩
      refine ⟨l1, D, _, _, rfl, rfl, s1.k upd_same, e1, by show 15 ≤ sizeLine; decide, fun l2 nl2 => ?_⟩
      refine ⟨c, l2, [6, 3, 3, 9, 9, 9, 9, 9, 9, 9, 9, 9, 9, 9, 9], rfl, SqL.of upd_same, by decide, by decide, fun p3 H3 ds s3 np3 e3 hd => ?_⟩
      have s03 : Sm T H H3 := (same_upd nl1).trans (s1.trans ((same_upd nl2).trans s3))
      obtain ⟨d0, g0, h00, h01⟩ := hd.get (i := 0) rfl
      obtain ⟨d1, g1, h10, h11⟩ := hd.get (i := 1) rfl
      obtain ⟨d2, g2, h20, h21⟩ := hd.get (i := 2) rfl
      refine ⟨by show 3 ≤ sizeLine; decide, fun l4 nl4 => ?_⟩
      have e4 := (same_upd (T := T) (o := HO.lst [V.int 9, V.int 3, V.int 5]) nl4).k e3
      have hcap : ∃ cap : Int, 1 ≤ cap ∧ cap ≤ 9 ∧ atI [V.int 9, V.int 3, V.int 5] d1 = some (.int cap) := by
        rcases (by omega : d1 = 0 ∨ d1 = 1 ∨ d1 = 2) with rfl | rfl | rfl
        · exact ⟨9, by omega, by omega, atI_nat (j := 0) rfl⟩
        · exact ⟨3, by omega, by omega, atI_nat (j := 1) rfl⟩
        · exact ⟨5, by omega, by omega, atI_nat (j := 2) rfl⟩
      obtain ⟨cap, c1, c9, hcap⟩ := hcap
      refine ⟨_, rfl, p3, _, 1, .int d1, rfl, rfl, SqL.of e4, at_map (i := 1) rfl g1, l4, _, _, _, rfl, rfl, SqL.of upd_same, hcap, ?_⟩
      refine ⟨_, rfl, p3, _, 0, .int d0, rfl, rfl, SqL.of e4, at_map (i := 0) rfl g0, _, _, rfl, rfl, ?_⟩
      refine ⟨_, rfl, p3, _, 0, .int d0, rfl, rfl, SqL.of e4, at_map (i := 0) rfl g0, _, _, rfl, rfl, (by show (0 : Int) < 3; decide), _, _, rfl, rfl, ?_⟩
      refine ⟨by show 3 ≤ sizeLine; decide, fun l5 nl5 => ?_⟩
      have e5 := (same_upd (T := T) (o := HO.lst [V.int (d0 + 1), V.int 1, V.int (1 + d0 % 3)]) nl5).k e4
      have hm : ∃ m : Nat, 1 ≤ m ∧ m ≤ 6 ∧ atI [V.int (d0 + 1), V.int 1, V.int (1 + d0 % 3)] d2 = some (.int (m : Int)) := by
        rcases (by omega : d2 = 0 ∨ d2 = 1 ∨ d2 = 2) with rfl | rfl | rfl
        · refine ⟨(d0 + 1).toNat, by omega, by omega, ?_⟩
          rw [Int.toNat_of_nonneg (by omega)]
          exact atI_nat (j := 0) rfl
        · exact ⟨1, by omega, by omega, atI_nat (j := 1) rfl⟩
        · refine ⟨(1 + d0 % 3).toNat, by omega, by omega, ?_⟩
          rw [Int.toNat_of_nonneg (by omega)]
          exact atI_nat (j := 2) rfl
      obtain ⟨m, m1, m6, hm⟩ := hm
      refine ⟨_, rfl, p3, _, 2, .int d2, rfl, rfl, SqL.of e5, at_map (i := 2) rfl g2, l5, _, _, _, rfl, rfl, SqL.of upd_same, hm, ?_⟩
      have s05 : Sm T H (upd (upd H3 l4 (.lst [V.int 9, V.int 3, V.int 5])) l5 (.lst [V.int (d0 + 1), V.int 1, V.int (1 + d0 % 3)])) := s03.trans ((same_upd nl4).trans (same_upd nl5))
      refine ⟨_, rfl, m, rfl, by omega, by omega, fun D2 hD2 => lc_range (lo := 0) (n := m) (Qd := _) (fun i H' => Sm T (upd (upd H3 l4 (.lst [V.int 9, V.int 3, V.int 5])) l5 (.lst [V.int (d0 + 1), V.int 1, V.int (1 + d0 % 3)])) H' ∧ ∃ us qs, H' D2 = some (.lst us) ∧ DpAll K H' us (qs.map amD) ∧ qs.length = i ∧ qs.all wOk = true) ⟨same_upd hD2, [], [], upd_same, .nil, rfl, rfl⟩ ?_ ?_⟩
      · rintro i H' hi ⟨sm, us, qs, eD2, hd2, hl, ha⟩
        have e6 : H' p3 = some (.lst (ds.map V.int)) := sm.k e5
        have hx : ∃ x, ds[3 + 2 * i]? = some x ∧ 0 ≤ x ∧ x < 9 := hd.get (q := 9) (by rcases (by omega : i = 0 ∨ i = 1 ∨ i = 2 ∨ i = 3 ∨ i = 4 ∨ i = 5) with rfl | rfl | rfl | rfl | rfl | rfl <;> rfl)
        have hy : ∃ x, ds[4 + 2 * i]? = some x ∧ 0 ≤ x ∧ x < 9 := hd.get (q := 9) (by rcases (by omega : i = 0 ∨ i = 1 ∨ i = 2 ∨ i = 3 ∨ i = 4 ∨ i = 5) with rfl | rfl | rfl | rfl | rfl | rfl <;> rfl)
        obtain ⟨x, gx, x0, x9⟩ := hx
        obtain ⟨y, gy, y0, y9⟩ := hy
        have hx0 := Int.emod_nonneg x (show cap ≠ 0 by omega)
        have hx1 := Int.emod_lt_of_pos x (show 0 < cap by omega)
        have hy0 := Int.emod_nonneg y (show cap ≠ 0 by omega)
        have hy1 := Int.emod_lt_of_pos y (show 0 < cap by omega)
        refine ⟨rfl, tyes_i ?_⟩
        refine ⟨_, rfl, _, rfl, _, _, rfl, rfl, .inl ⟨by decide, by decide⟩, _, _, rfl, rfl, p3, _, _, .int x, rfl, rfl, SqL.of e6, at_map (i := 3 + 2 * i) (by omega) gx, _, rfl, _, _, rfl, rfl, (by omega), _, _, rfl, rfl, ?_⟩
        refine ⟨_, rfl, _, rfl, _, _, rfl, rfl, .inl ⟨by decide, by decide⟩, _, _, rfl, rfl, p3, _, _, .int y, rfl, rfl, SqL.of e6, at_map (i := 4 + 2 * i) (by omega) gy, _, rfl, _, _, rfl, rfl, (by omega), _, _, rfl, rfl, ?_⟩
        refine ⟨by show 2 ≤ sizeLine; decide, fun t nt => ?_⟩
        have st := same_upd (T := T) (o := HO.tup (tv (1 + x % cap, 1 + y % cap))) nt
        have eD3 := st.k eD2
        have lu : us.length = i := by rw [dpa_len hd2, List.length_map, hl]
        refine ⟨us, eD3, szl (by omega), same_mut (sm.trans st) hD2 eD3, us ++ [.ref t], qs ++ [(1 + x % cap, 1 + y % cap)], upd_same, ?_, ?_, ?_⟩
        · refine pds_mut eD3 ?_
          rw [List.map_append]
          exact dpa_app (dpa_same st _ _ hd2) (.cons (tup_dp upd_same) .nil)
        · rw [List.length_append, hl]
          rfl
        · rw [List.all_append, ha, Bool.true_and, List.all_cons, List.all_nil, Bool.and_true]
          unfold wOk
          simp only [Bool.and_eq_true, decide_eq_true_eq]
          omega
      · rintro H6 ⟨s6, us, qs, eD2, hd2, hl, ha⟩
        have free : H D2 = none := s05.free _ hD2
        refine q D2 H6 us qs (s05.trans s6) free eD2 hd2 ?_
        unfold wayB
        rw [ha, hl, Bool.and_true, Bool.and_eq_true]
        exact ⟨decide_eq_true m1, decide_eq_true m6⟩

def sp_l_labour (K : PySem.W.Frag) (T : Tb) : Sp := fun vs H Q _ => ∃ a us qs, vs = [.ref a] ∧ SqL K H a us ∧ DpAll K H us (qs.map amD) ∧ (∀ q ∈ qs, wOk q = true) ∧ Q (.int (labourM qs)) H
theorem ok_l_labour {f : Addr} {fd : FuncData} (F : Fun K "_law_labour" "_law_labour" s_l_labour f fd) (B : Bn mg) : FnOk P w K mg base CX0 1 f fd ["_law_way_here"] (sp_l_labour K T) := by
  refine F.ok sc_l_labour (fun vs H Q E h => ?_) (fun cdv A outer s H vs Q E hr h => ?_)
  · obtain ⟨a, us, qs, rfl, _⟩ := h
    rfl
  · obtain ⟨a, us, qs, rfl, hS, hd, hw, q⟩ := h
    refine ⟨_, (pss_cons (ps_set (i := 1) sc_l_labour.nd rfl (.inl rfl) pe_int)
      (pss_cons (ps_for PassesOwn.never rfl (pi_list (pv 0)) (pg_tup rfl (pgs_cons (pg_name (i := 2) sc_l_labour.nd rfl (.inl rfl)) (pgs_cons (pg_name (i := 3) sc_l_labour.nd rfl (.inl rfl)) pgs_nil)))
      (pss_one (ps_for PassesOwn.never rfl (pi_range1 (by rfl) B.range_ (pa_cons (pv 2) pa_nil)) (pg_name (i := 4) sc_l_labour.nd rfl (.inl rfl))
      (pss_one (ps_set (i := 1) sc_l_labour.nd rfl (.inl rfl) (pe_op op_add (pv 1) (pv 3)))))))
      (pss_one (ps_ret (pv 1))))), ?_⟩
    have el : us.length = qs.length := by rw [dpa_len hd, List.length_map]
    refine ⟨_, rfl, a, rfl, ⟨_, hS⟩, for_list (K := K) (a := a) (xs := us) (fun i σ H3 => H3 = H ∧ ∃ x1 x2 x3, σ = [some (.ref a), some (.int (labourM (qs.take i))), x1, x2, x3]) ⟨rfl, _, _, _, rfl⟩ (fun i σ H3 _ ⟨e, _⟩ => by rw [e]; exact hS) ?_ ?_⟩
    · rintro i v σ H3 hi ⟨rfl, x1, x2, x3, rfl⟩
      have hil : i < qs.length := by rw [← el]; exact (List.getElem?_eq_some_iff.mp hi).1
      obtain ⟨v', e1, e2⟩ := dpa_get hd (i := i) (d := amD qs[i]) (by rw [List.getElem?_map, List.getElem?_eq_getElem hil]; rfl)
      rw [hi] at e1
      cases e1
      obtain ⟨b, rfl, hb⟩ := pd_at e2
      have c := wOk_b (hw qs[i] (List.getElem_mem hil))
      have et : labourM (qs.take (i + 1)) = labourM (qs.take i) + qs[i].1 * qs[i].2 := by
        unfold labourM
        rw [List.take_add_one, List.getElem?_eq_getElem hil, List.map_append, List.sum_append]
        simp
      refine ⟨b, _, rfl, hb, rfl, _, _, rfl, _, _, rfl, rfl, ?_⟩
      refine ⟨_, rfl, qs[i].1.toNat, by rw [Int.toNat_of_nonneg (by omega)], by omega, by omega, for_range (lo := 0) (n := qs[i].1.toNat) (fun j σ H4 => H4 = H3 ∧ ∃ x1, σ = [some (.ref a), some (.int (labourM (qs.take i) + (j : Int) * qs[i].2)), some (.int qs[i].1), some (.int qs[i].2), x1]) ⟨rfl, x3, by simp⟩ ?_ ?_⟩
      · rintro j σ H4 hj ⟨rfl, x1, rfl⟩
        refine ⟨_, rfl, _, rfl, _, _, rfl, rfl, rfl, some (.int (0 + (j : Int))), ?_⟩
        have : labourM (qs.take i) + (j : Int) * qs[i].2 + qs[i].2 = labourM (qs.take i) + ((j + 1 : Nat) : Int) * qs[i].2 := by
          rw [Int.natCast_add, Int.add_mul]
          simp [Int.add_assoc]
        rw [← this]
        rfl
      · rintro σ H4 ⟨rfl, x1, rfl⟩
        refine ⟨rfl, some (.int qs[i].1), some (.int qs[i].2), x1, ?_⟩
        rw [et, Int.toNat_of_nonneg (by omega)]
    · rintro σ H3 ⟨rfl, x1, x2, x3, rfl⟩
      refine ⟨_, rfl, ?_⟩
      rw [el, List.take_length]
      exact q

def sp_l_way_ok (K : PySem.W.Frag) (T : Tb) : Sp := fun vs H Q _ => ∃ a us qs, vs = [.ref a] ∧ SqL K H a us ∧ DpAll K H us (qs.map amD) ∧ qs.length ≤ 1000 ∧ ∀ H', Sm T H H' → Q (.bl (wayB qs)) H'
theorem ok_l_way_ok {f : Addr} {fd : FuncData} (F : Fun K "_law_way_ok" "_law_way_ok" s_l_way_ok f fd) (B : Bn mg) : FnOk P w K mg base CX0 1 f fd ["_law_way_here"] (sp_l_way_ok K T) := by
  refine F.ok sc_l_way_ok (fun vs H Q E h => ?_) (fun cdv A outer s H vs Q E hr h => ?_)
  · obtain ⟨a, us, qs, rfl, _⟩ := h
    rfl
  · obtain ⟨a, us, qs, rfl, hS, hd, hl, q⟩ := h
    refine ⟨_, (pss_one (ps_ret (pe_and (pe_chain op_le op_le pe_int (pe_callB call_len_seq (by rfl) B.len_ (by decide +kernel) (pa_cons (pv 0) pa_nil)) pe_int) (pe_one (pe_callB (cr_all rfl) (by rfl) B.all_ (by decide +kernel) (pa_cons (pe_lc (own := [("_law_count", 1), ("_law_toil", 2)]) (g := (gTup K 2 (gCons (gName 1) (gCons (gName 2) gNil)))) (tt := tYes) (by rfl) sc_l_way_ok.nd (pi_list (pv 0)) (blkOk_by (own := [("_law_count", 1), ("_law_toil", 2)]) (N := ["_law_way_here", "_law_count", "_law_toil"]) (sc := (defScope s_l_way_ok)) (by decide +kernel)) (fun _ _ _ _ _ => (pg_tup rfl (pgs_cons (pg_name (i := 1) sc_l_way_ok.nd rfl (.inl rfl)) (pgs_cons (pg_name (i := 2) sc_l_way_ok.nd rfl (.inl rfl)) pgs_nil)))) (fun _ _ _ _ _ => pts_nil) (fun _ _ _ _ _ => (pe_and (pe_chain op_le op_le pe_int (pv 1) pe_int) (pe_one (pe_chain op_le op_le pe_int (pv 2) pe_int))))) pa_nil)))))), ?_⟩
    have el : us.length = qs.length := by rw [dpa_len hd, List.length_map]
    refine ⟨_, rfl, a, us, rfl, .inl hS, _, _, rfl, rfl, _, rfl, ?_⟩
    by_cases h1 : (1 : Int) ≤ (us.length : Int)
    · rw [decide_eq_true h1]
      refine iteT ?_
      refine ⟨_, _, rfl, rfl, _, rfl, ?_⟩
      by_cases h2 : (us.length : Int) ≤ 6
      · rw [decide_eq_true h2]
        refine iteT ?_
        refine ⟨_, rfl, a, rfl, ⟨_, hS⟩, fun D hD => lc_list (K := K) (a := a) (xs := us) (Qd := _) (fun i H' => Sm T H H' ∧ H' D = some (.lst (((qs.take i).map wOk).map V.bl))) ⟨same_upd hD, upd_same⟩ (fun i H' _ ⟨sm, _⟩ => sm.seq hS) ?_ ?_⟩
        · rintro i v H' hi ⟨sm, eD⟩
          have hil : i < qs.length := by rw [← el]; exact (List.getElem?_eq_some_iff.mp hi).1
          obtain ⟨v', e1, e2⟩ := dpa_get hd (i := i) (d := amD qs[i]) (by rw [List.getElem?_map, List.getElem?_eq_getElem hil]; rfl)
          rw [hi] at e1
          cases e1
          obtain ⟨b, rfl, hb⟩ := pd_at e2
          have fin : ∀ y, wOk qs[i] = y → ∃ acc, H' D = some (.lst acc) ∧ acc.length < sizeLine ∧ (Sm T H (upd H' D (.lst (acc ++ [V.bl y]))) ∧ upd H' D (.lst (acc ++ [V.bl y])) D = some (.lst (((qs.take (i + 1)).map wOk).map V.bl))) := by
            rintro y rfl
            refine ⟨_, eD, ?_, same_mut sm hD eD, ?_⟩
            · rw [List.length_map, List.length_map, List.length_take]
              exact szl (by omega)
            · rw [upd_same, List.take_add_one, List.getElem?_eq_getElem hil, List.map_append, List.map_append]
              rfl
          refine ⟨b, _, rfl, same_tup sm hb, rfl, _, _, rfl, _, _, rfl, rfl, rfl, tyes_i ?_⟩
          refine ⟨_, rfl, _, _, rfl, rfl, _, rfl, ?_⟩
          by_cases k1 : 1 ≤ qs[i].1
          · rw [decide_eq_true k1]
            refine iteT ?_
            refine ⟨_, _, rfl, rfl, _, rfl, ?_⟩
            by_cases k2 : qs[i].1 ≤ 9
            · rw [decide_eq_true k2]
              refine iteT ?_
              refine ⟨_, rfl, _, _, rfl, rfl, _, rfl, ?_⟩
              by_cases k3 : 1 ≤ qs[i].2
              · rw [decide_eq_true k3]
                refine iteT ?_
                refine ⟨_, _, rfl, rfl, fin _ ?_⟩
                unfold wOk
                rw [decide_eq_true k1, decide_eq_true k2, decide_eq_true k3]
                rfl
              · rw [decide_eq_false k3]
                refine iteF (fin _ ?_)
                unfold wOk
                rw [decide_eq_false k3]
                simp
            · rw [decide_eq_false k2]
              refine iteF (fin _ ?_)
              unfold wOk
              rw [decide_eq_false k2]
              simp
          · rw [decide_eq_false k1]
            refine iteF ⟨_, rfl, iteF (fin _ ?_)⟩
            unfold wOk
            rw [decide_eq_false k1]
            simp
        · rintro H' ⟨sm, eD⟩
          rw [el, List.take_length] at eD
          refine ⟨D, qs.map wOk, rfl, SqL.of eD, ?_⟩
          have e : (qs.map wOk).all id = wayB qs := by
            unfold wayB
            rw [decide_eq_true (show 1 ≤ qs.length by omega), decide_eq_true (show qs.length ≤ 6 by omega), List.all_map]
            rfl
          rw [e]
          exact q H' sm
      · have e : wayB qs = false := by
          unfold wayB
          rw [Bool.and_eq_false_iff, Bool.and_eq_false_iff]
          exact .inl (.inr (decide_eq_false (by omega)))
        rw [decide_eq_false h2]
        refine iteF ?_
        have q0 := q H Sm.refl
        rw [e] at q0
        exact q0
    · have e : wayB qs = false := by
        unfold wayB
        rw [Bool.and_eq_false_iff, Bool.and_eq_false_iff]
        exact .inl (.inl (decide_eq_false (by omega)))
      rw [decide_eq_false h1]
      refine iteF ?_
      have q0 := q H Sm.refl
      rw [e] at q0
      exact ⟨_, rfl, iteF q0⟩

theorem labour_rng {qs : List Am} (hwb : 1 ≤ qs.length ∧ qs.length ≤ 6 ∧ ∀ q ∈ qs, 1 ≤ q.1 ∧ q.1 ≤ 9 ∧ 1 ≤ q.2 ∧ q.2 ≤ 9) : 0 ≤ labourM qs ∧ labourM qs ≤ 486 := by
  have h := sum_bd (c := 81) (by decide) (qs.map fun (q : Int × Int) => q.1 * q.2) (fun z hz => by
    obtain ⟨e, he, rfl⟩ := List.mem_map.mp hz
    have k := hwb.2.2 e he
    exact ⟨Int.mul_nonneg (by omega) (by omega), (Int.mul_le_mul k.2.1 k.2.2.2 (by omega) (by omega) : e.1 * e.2 ≤ 9 * 9)⟩)
  rw [List.length_map] at h
  unfold labourM
  omega

theorem rep_flat {α : Type} (v : α) : ∀ n, (List.replicate n [v]).flatten = List.replicate n v
  | 0 => rfl
  | n + 1 => by rw [List.replicate_succ, List.flatten_cons, rep_flat v n]; rfl

/-! ### the end of a law whose program raises, with tables of code objects -/
theorem walk_tabs {l : PySem.W.OpenLaw} {n k : Nat} {q : Program} {loose : List Str} {XP : (Str → Option Value) → Heap → Prop} {YP : World → Heap → Prop} {d : DefRec} {K : Params → PySem.W.Frag} {CX : World → CXT} {x : Str}
    (hn : l.most = some n) (hn2 : n ≤ sizeLine) (hdf : d.params.defaults = []) (hr : Room k callerA) (hY : ∀ (w : World) (h : Heap), YP w h → (K w.params).In h)
    (F : ∀ (w : World) (mg : Str → Option Value) (fa : Addr) (h : Heap), YP w h → (K w.params).In h → h.Ns mainGlobals mg → mg d.name = some (.ref fa) →
      (∀ (y : Str) (c P : Addr), ((recsOf q).any fun e => e.name == y) = true → PySem.W.tabIn (K w.params) y = some (c, P) → PySem.W.CodeHd h c P ∧ h.get? P = some { cls := .none, data := .fields #[] }) → LamX.LawAtS l w (K w.params) (CX w) k n x mg fa h)
    (hCX : ∀ (w : World) (H : Hp) (s : Shared) (e : Value) (s' : Shared), CX w [] H s (fun _ _ _ => False) e s' → False) :
    PySem.W.WalkO q loose XP YP l.row.toRowW d [] (fun f vs => PySem.call f vs) := by
  refine Att.attach_callB hn hdf fun w s₀ s₁ mg mb fa o pm cd doc a vs ns G Y ho hd hcd hmg hobj hints hlen hbits hg => ?_
  have KX := hY w _ Y
  have tabs : ∀ (y : Str) (c P : Addr), ((recsOf q).any fun e => e.name == y) = true → PySem.W.tabIn (K w.params) y = some (c, P) → PySem.W.CodeHd s₁.heap c P ∧ s₁.heap.get? P = some { cls := .none, data := .fields #[] } := fun y c P ha ht => by
    cases hf : (recsOf q).find? (fun e => e.name == y) with
    | none =>
      obtain ⟨e, he, hy⟩ := List.any_eq_true.mp ha
      exact absurd hy (List.find?_eq_none.mp hf e he)
    | some e => exact PySem.W.tab_of G.T KX hf ht
  obtain ⟨fd, cs, sp, hT, nT, C, hb, hsp, hF⟩ := F w mg fa _ Y KX G.T.g hmg tabs
  exact LamX.law_callTs KX G.T.g G.T.b G.T.builtins G.T.nolimit hg hT nT C G.T.bmain hobj hints (Nat.le_trans hlen hn2) hr hF hb (fun H hH hS => hsp H a ns hlen hbits hH hS) fun H e s' => hCX w H s₁ e s'
theorem tab_in {K : PySem.W.Frag} {y : Str} {f c P : Addr} {o : Obj} {fd : FuncData} {e : Value} {dd : Option Addr} {vs : Array Value} {sl : Array (Option Value)} (h1 : PySem.W.nsIn K mainGlobals y = some (some (.ref f))) (h2 : K.lookup f = some o) (h3 : o.data = .func fd) (h4 : fd.code = .ref c)
    (h5 : K.lookup c = some ⟨e, dd, .fields vs, sl⟩) (h6 : vs[11]? = some (.ref P)) : PySem.W.tabIn K y = some (c, P) := by
  obtain ⟨o1, o2, o3, o4⟩ := o
  obtain rfl : o3 = .func fd := h3
  unfold PySem.W.tabIn
  simp only [h1, h2, h4, h5, h6]
theorem okG0 {H : Hp} {P : Addr} (h : H P = some (.tbl #[])) : OkP H (P, none) := ⟨#[], h, by first | trivial | constructor⟩
theorem okS0 {H : Hp} {P : Addr} {q : Str} (h : H P = some (.tbl #[])) : OkP H (P, some q) := ⟨#[], h, by first | trivial | constructor, fun pos cv e => by cases e⟩
theorem tup_const {K : PySem.W.Frag} {a : Addr} {od : Option Addr} {xs : List V} {its : Array Value} {n : Nat} {sl : Array (Option Value)} (h : K.lookup a = some ⟨.type "tuple", od, .seq its n, sl⟩) (hs : its.size ≤ sizeLine) (hv : Vals xs its.toList) : ∀ H, SqT K H a xs := fun _ => .inr ⟨_, its, n, h, rfl, rfl, hs, hv⟩
theorem gx_lam {base : Heap} {mg : Str → Option Value} {c P : Addr} (h : LamX.TabB base mg c P) : GxR.TabB base mg c P := ⟨h.code, h.bm, h.gP⟩

theorem num_of {K : PySem.W.Frag} {f : Addr} {fd : FuncData} (F : Fun K "is_number" "is_number" s_p_is_number f fd) : NumAt K f := by
  obtain ⟨oc, od, kV, doc, pm, an, cdv, ct, osl, rfl, lk, hcg⟩ := F.ex
  exact ⟨oc, od, kV, doc, pm, an, cdv, ct, osl, _, _, _, _, _, _, _, _, _, _, _, _, lk, hcg⟩
theorem with_of {K : PySem.W.Frag} {f : Addr} {fd : FuncData} (F : Fun K "is_within" "is_within" s_p_is_within f fd) : WithAt K f := by
  obtain ⟨oc, od, kV, doc, pm, an, cdv, ct, osl, rfl, lk, hcg⟩ := F.ex
  exact ⟨oc, od, kV, doc, pm, an, cdv, ct, osl, _, _, _, _, _, _, _, _, _, _, _, _, lk, hcg⟩

theorem cutI_take (ns : List Int) (k : Nat) {z : Int} (hz : z = (k : Int)) : cutV (ns.map V.int) none (some z) = (ns.take k).map V.int := by rw [cut_take _ k hz, List.map_take]
theorem cutI_drop (ns : List Int) (k : Nat) {z : Int} (hz : z = (k : Int)) : cutV (ns.map V.int) (some z) none = (ns.drop k).map V.int := by rw [cut_drop _ k hz, List.map_drop]
def sp_l_spoilt_paces (K : PySem.W.Frag) (T : Tb) : Sp := fun vs H Q _ => ∃ (c : Int) (a : Addr) (ns : List Int), vs = [.int c, .ref a] ∧ H a = some (.lst (ns.map V.int)) ∧ (1 ≤ ns.length ∧ ns.length ≤ 8) ∧
  ∀ o H' (zs : List Int), Sm T H H' → H o = none → H' o = some (.lst (zs.map V.int)) → zs.length ≤ 100 → Q (.ref o) H'
theorem ok_l_spoilt_paces {f : Addr} {fd : FuncData} (F : Fun K "_law_spoilt_paces" "_law_spoilt_paces" s_l_spoilt_paces f fd) (B : Bn mg) (F_l_draws : Fn P w K mg base 1 "_law_draws" ["_law_cell_here", "_law_parts"] (sp_l_draws K T)) : FnOk P w K mg base CX0 2 f fd ["_law_cell_here", "_law_paces"] (sp_l_spoilt_paces K T) := by
  refine F.ok sc_l_spoilt_paces (fun vs H Q E h => ?_) (fun cdv A outer s H vs Q E hr h => ?_)
  · obtain ⟨c, a, ns, rfl, _⟩ := h
    rfl
  · obtain ⟨c, a, ns, rfl, ha, hn, q⟩ := h
    refine ⟨_, (pss_cons (ps_asg (pe_fn F_l_draws (hr.mono (by decide)) (pa_cons (pv 0) (pa_cons (pe_lst (pa_cons pe_int (pa_cons pe_int (pa_cons pe_int (pa_cons (pe_op op_pow pe_int pe_int) pa_nil))))) pa_nil))) (pg_unl rfl (pgs_cons (pg_name (i := 2) sc_l_spoilt_paces.nd rfl (.inl rfl)) (pgs_cons (pg_name (i := 3) sc_l_spoilt_paces.nd rfl (.inl rfl)) (pgs_cons (pg_name (i := 4) sc_l_spoilt_paces.nd rfl (.inl rfl)) (pgs_cons (pg_name (i := 5) sc_l_spoilt_paces.nd rfl (.inl rfl)) pgs_nil))))))
      (pss_cons (ps_set (i := 3) sc_l_spoilt_paces.nd rfl (.inl rfl) (pe_op op_mod (pv 3) (pe_callB call_len_seq (by rfl) B.len_ (by decide +kernel) (pa_cons (pv 1) pa_nil))))
      (pss_cons (ps_if (pt_cmpR op_eq (pv 2) pe_int (nomark _)) (pss_one (ps_ret (pe_ix ix_list (pe_lst (pa_cons (pe_lst pa_nil) (pa_cons (pe_op op_cat (pv 1) (pe_op op_rep (pe_lst (pa_cons pe_int pa_nil)) (pe_op op_sub pe_int (pe_callB call_len_seq (by rfl) B.len_ (by decide +kernel) (pa_cons (pv 1) pa_nil))))) (pa_cons (pe_op op_rep (pv 1) pe_int) (pa_cons (pe_op op_rep (pe_lst (pa_cons pe_int pa_nil)) (pe_op op_add pe_int (pe_op op_mod (pv 5) pe_int))) pa_nil))))) (pv 4) (fun _ _ => rfl)))) pss_nil)
      (pss_cons (ps_if (pt_cmpR op_in_seq (pv 2) (pe_lst (pa_cons pe_int (pa_cons pe_int pa_nil))) (by rfl)) (pss_one (ps_ret (pe_op op_cat (pe_op op_cat (pe_slice sl_list (pv 1) po_none (po_some (pv 3))) (pe_lst (pa_cons (pe_ix ix_list (pe_lst (pa_cons pe_int (pa_cons pe_int (pa_cons (pe_op op_sub (pe_un un_neg pe_int) (pv 5)) (pa_cons (pe_op op_add pe_int (pv 5)) pa_nil))))) (pv 4) (fun _ _ => rfl)) pa_nil))) (pe_slice sl_list (pv 1) (po_some (pe_op op_add (pv 3) pe_int)) po_none)))) pss_nil)
      (pss_cons (ps_if (pt_cmpR op_in_seq (pv 2) (pe_lst (pa_cons pe_int (pa_cons pe_int pa_nil))) (by rfl)) (pss_one (ps_ret (pe_op op_cat (pe_op op_cat (pe_slice sl_list (pv 1) po_none (po_some (pv 3))) (pe_lst (pa_cons (pe_op op_add pe_int (pe_op op_mod (pe_op op_add (pe_ix ix_list (pv 1) (pv 3) (fun _ _ => rfl)) (pv 4)) pe_int)) pa_nil))) (pe_slice sl_list (pv 1) (po_some (pe_op op_add (pv 3) pe_int)) po_none)))) pss_nil)
      (pss_one (ps_ret (pe_callTy call_list_of (by rfl) B.list_ (by decide +kernel) (pa_cons (pv 1) pa_nil))))))))), ?_⟩
    have el : (ns.map V.int).length = ns.length := List.length_map ..
    refine ⟨_, rfl, _, _, rfl, rfl, ⟨by decide, by decide, by decide⟩, by show 4 ≤ sizeLine; decide, fun l1 nl1 => ?_⟩
    refine ⟨c, l1, [8, 8, 4, 10 ^ (20 : Int).toNat], rfl, SqL.of upd_same, by decide, by decide, fun p3 H3 ds s3 np3 e3 hdr => ?_⟩
    obtain ⟨kind, r1, rfl, h10, h11, hdr⟩ := hdr.cons
    obtain ⟨at_, r2, rfl, h20, h21, hdr⟩ := hdr.cons
    obtain ⟨odd, r3, rfl, h30, h31, hdr⟩ := hdr.cons
    obtain ⟨far, r4, rfl, h40, h41, hdr⟩ := hdr.cons
    obtain rfl := hdr.nil
    have s03 : Sm T H H3 := (same_upd nl1).trans s3
    have ha3 := s03.k ha
    refine ⟨p3, _, rfl, SqL.of e3, rfl, _, _, rfl, _, _, rfl, _, _, rfl, _, _, rfl, rfl, ?_⟩
    have hup : 0 < ((ns.map V.int).length : Int) := by rw [el]; omega
    refine ⟨_, rfl, _, rfl, a, _, rfl, .inl (SqL.of ha3), _, _, rfl, rfl, hup, ?_⟩
    have m0 := Int.emod_nonneg at_ (show (ns.length : Int) ≠ 0 by omega)
    have m1 := Int.emod_lt_of_pos at_ (show 0 < (ns.length : Int) by omega)
    obtain ⟨j, hj, hj2⟩ : ∃ j : Nat, at_ % (ns.length : Int) = (j : Int) ∧ j < ns.length := ⟨(at_ % (ns.length : Int)).toNat, by omega, by omega⟩
    have em : at_ % ((ns.map V.int).length : Int) = (j : Int) := by rw [el]; exact hj
    dsimp only [gName]
    rw [em]
    clear m0 m1 hj hup em
    refine ⟨_, rfl, rfl, _, rfl, ite2 (fun e => ?_) (fun e => ?_)⟩
    · refine ⟨by show 0 ≤ sizeLine; decide, fun o0 no0 => ?_⟩
      have u0 := same_upd (T := T) (o := .lst []) no0
      refine ⟨_, rfl, by show 1 ≤ sizeLine; decide, fun l nl => ?_⟩
      have u1 := same_upd (T := T) (o := .lst [.int 12]) nl
      have s1 := s03.trans (u0.trans u1)
      refine ⟨_, rfl, a, _, rfl, .inl (SqL.of (s1.k ha)), _, _, rfl, rfl, l, _, _, rfl, rfl, upd_same, by rw [el]; omega, by rw [el]; omega, by show 1 * _ ≤ sizeLine; rw [el]; exact sz (by omega), fun r nr => ?_⟩
      rw [el]
      have u2 := same_upd (T := T) (o := .lst (List.replicate (9 - (ns.length : Int)).toNat [V.int 12]).flatten) nr
      have s2 := s1.trans u2
      refine ⟨a, r, _, _, rfl, rfl, s2.k ha, upd_same, sz (by rw [len_rep, el]; show ns.length + _ * 1 ≤ 10000; omega), fun o1 no1 => ?_⟩
      have u3 := same_upd (T := T) (o := .lst (ns.map V.int ++ (List.replicate (9 - (ns.length : Int)).toNat [V.int 12]).flatten)) no1
      have s3' := s2.trans u3
      refine ⟨_, rfl, a, 9, _, rfl, rfl, s3'.k ha, by decide, by decide, sz (by rw [el]; show ns.length * 9 ≤ _; omega), fun o2 no2 => ?_⟩
      have u4 := same_upd (T := T) (o := .lst (List.replicate (9 : Int).toNat (ns.map V.int)).flatten) no2
      have s4 := s3'.trans u4
      refine ⟨by show 1 ≤ sizeLine; decide, fun l2 nl2 => ?_⟩
      have u5 := same_upd (T := T) (o := .lst [.int 1]) nl2
      have f0 := Int.emod_nonneg far (show (20 : Int) ≠ 0 by decide)
      have f1 := Int.emod_lt_of_pos far (show (0 : Int) < 20 by decide)
      refine ⟨_, rfl, _, _, rfl, rfl, (by show (0 : Int) < 20; decide), _, _, rfl, rfl, l2, _, _, rfl, rfl, upd_same, by omega, by omega, by show 1 * _ ≤ sizeLine; exact sz (by omega), fun o3 no3 => ?_⟩
      have u6 := same_upd (T := T) (o := .lst (List.replicate (9 + far % 20).toNat [V.int 1]).flatten) no3
      have s6 := s4.trans (u5.trans u6)
      refine ⟨by show 4 ≤ sizeLine; decide, fun L nL => ?_⟩
      have u7 := same_upd (T := T) (o := .lst [.ref o0, .ref o1, .ref o2, .ref o3]) nL
      have s7 := s6.trans u7
      rcases (by omega : odd = 0 ∨ odd = 1 ∨ odd = 2 ∨ odd = 3) with rfl | rfl | rfl | rfl
      · exact ⟨_, rfl, L, _, _, _, rfl, rfl, SqL.of upd_same, atI_nat (j := 0) rfl, q o0 _ [] s7 (s03.free _ no0) ((u1.trans (u2.trans (u3.trans (u4.trans (u5.trans (u6.trans u7)))))).k upd_same) (by decide)⟩
      · refine ⟨_, rfl, L, _, _, _, rfl, rfl, SqL.of upd_same, atI_nat (j := 1) rfl, q o1 _ (ns ++ List.replicate (9 - (ns.length : Int)).toNat 12) s7 (s2.free _ no1) ?_ ?_⟩
        · rw [(u4.trans (u5.trans (u6.trans u7))).k upd_same, rep_flat, List.map_append, List.map_replicate]
        · rw [List.length_append, List.length_replicate]
          omega
      · refine ⟨_, rfl, L, _, _, _, rfl, rfl, SqL.of upd_same, atI_nat (j := 2) rfl, q o2 _ (List.replicate 9 ns).flatten s7 (s3'.free _ no2) ?_ ?_⟩
        · rw [(u5.trans (u6.trans u7)).k upd_same, List.map_flatten, List.map_replicate]
          rfl
        · rw [len_rep]
          omega
      · refine ⟨_, rfl, L, _, _, _, rfl, rfl, SqL.of upd_same, atI_nat (j := 3) rfl, q o3 _ (List.replicate (9 + far % 20).toNat 1) s7 ((s4.trans u5).free _ no3) ?_ ?_⟩
        · rw [u7.k upd_same, rep_flat, List.map_replicate]
        · rw [List.length_replicate]
          omega
    · have fin : ∀ (z : Int) (H4 : Hp) (p1 p2 : Addr), Sm T H H4 → H4 p1 = some (.lst (cutV (ns.map V.int) none (some (j : Int)))) → H4 p2 = some (.lst [.int z]) → ∀ p6 H6, Sm T H4 H6 → H4 p6 = none → H6 p6 = some (.lst (cutV (ns.map V.int) none (some (j : Int)) ++ [V.int z] ++ cutV (ns.map V.int) (some ((j : Int) + 1)) none)) → Q (.ref p6) H6 := by
        intro z H4 p1 p2 sp e1 e2 p6 H6 s6 n6 e6
        refine q p6 _ (ns.take j ++ [z] ++ ns.drop (j + 1)) (sp.trans s6) (sp.free _ n6) ?_ ?_
        · rw [e6, cutI_take ns j rfl, cutI_drop ns (j + 1) (by omega), List.map_append, List.map_append]
          rfl
        · rw [List.length_append, List.length_append, List.length_take, List.length_drop]
          show _ + 1 + _ ≤ 100
          omega
      have lc := cutV_length (ns.map V.int) none (some (j : Int))
      have lc2 := cutV_length (ns.map V.int) (some ((j : Int) + 1)) none
      rw [el] at lc lc2
      refine ⟨_, rfl, by show 2 ≤ sizeLine; decide, fun l nl => ⟨l, _, rfl, .inl (SqL.of upd_same), rfl, rfl, _, rfl, ?_⟩⟩
      have v1 := same_upd (T := T) (o := .lst [.int 1, .int 2]) nl
      have s04 := s03.trans v1
      refine ite2 (fun e => ?_) (fun e => ?_)
      · refine ⟨_, rfl, _, rfl, _, rfl, a, _, rfl, SqL.of (s04.k ha), fun p1 np1 => ?_⟩
        have w1 := same_upd (T := T) (o := .lst (cutV (ns.map V.int) none (some (j : Int)))) np1
        refine ⟨1, rfl, _, rfl, _, _, rfl, rfl, _, rfl, _, _, rfl, rfl, by show 4 ≤ sizeLine; decide, fun l4 nl4 => ?_⟩
        have w2 := same_upd (T := T) (o := .lst [.int 0, .int 13, .int (-1 - far), .int (13 + far)]) nl4
        have hz : ∃ z : Int, atI [V.int 0, V.int 13, V.int (-1 - far), V.int (13 + far)] odd = some (.int z) := by
          rcases (by omega : odd = 0 ∨ odd = 1 ∨ odd = 2 ∨ odd = 3) with rfl | rfl | rfl | rfl
          · exact ⟨_, atI_nat (j := 0) rfl⟩
          · exact ⟨_, atI_nat (j := 1) rfl⟩
          · exact ⟨_, atI_nat (j := 2) rfl⟩
          · exact ⟨_, atI_nat (j := 3) rfl⟩
        obtain ⟨z, hz⟩ := hz
        refine ⟨_, rfl, l4, _, _, _, rfl, rfl, SqL.of upd_same, hz, by show 1 ≤ sizeLine; decide, fun p2 np2 => ?_⟩
        have w3 := same_upd (T := T) (o := .lst [V.int z]) np2
        have e1 := (w2.trans w3).k upd_same
        refine ⟨p1, p2, _, _, rfl, rfl, e1, upd_same, by show _ + 1 ≤ sizeLine; exact sz (by omega), fun p4 np4 => ?_⟩
        have w4 := same_upd (T := T) (o := .lst (cutV (ns.map V.int) none (some (j : Int)) ++ [V.int z])) np4
        have sp := s04.trans (w1.trans (w2.trans w3))
        refine ⟨_, rfl, _, rfl, _, _, rfl, rfl, _, rfl, a, _, rfl, SqL.of ((sp.trans w4).k ha), fun p5 np5 => ?_⟩
        have w5 := same_upd (T := T) (o := .lst (cutV (ns.map V.int) (some ((j : Int) + 1)) none)) np5
        refine ⟨p4, p5, _, _, rfl, rfl, w5.k upd_same, upd_same, ?_, fun p6 np6 => ?_⟩
        · rw [List.length_append]
          show _ + 1 + _ ≤ sizeLine
          exact sz (by omega)
        have w6 := same_upd (T := T) (o := .lst (cutV (ns.map V.int) none (some (j : Int)) ++ [V.int z] ++ cutV (ns.map V.int) (some ((j : Int) + 1)) none)) np6
        exact fin z _ p1 p2 sp e1 upd_same p6 _ (w4.trans (w5.trans w6)) ((w4.trans w5).free _ np6) upd_same
      · refine ⟨_, rfl, by show 2 ≤ sizeLine; decide, fun l' nl' => ⟨l', _, rfl, .inl (SqL.of upd_same), rfl, rfl, _, rfl, ?_⟩⟩
        have v2 := same_upd (T := T) (o := .lst [.int 3, .int 4]) nl'
        have s05 := s04.trans v2
        refine ite2 (fun e => ?_) (fun e => ?_)
        · refine ⟨_, rfl, _, rfl, _, rfl, a, _, rfl, SqL.of (s05.k ha), fun p1 np1 => ?_⟩
          have w1 := same_upd (T := T) (o := .lst (cutV (ns.map V.int) none (some (j : Int)))) np1
          refine ⟨_, rfl, _, rfl, a, _, _, _, rfl, rfl, SqL.of ((s05.trans w1).k ha), at_map (i := j) rfl (List.getElem?_eq_getElem hj2), _, rfl, _, _, rfl, rfl, _, _, rfl, rfl, (by show (0 : Int) < 12; decide), _, _, rfl, rfl, by show 1 ≤ sizeLine; decide, fun p2 np2 => ?_⟩
          have w3 := same_upd (T := T) (o := .lst [V.int (1 + (ns[j] + odd) % 12)]) np2
          have e1 := w3.k upd_same
          refine ⟨p1, p2, _, _, rfl, rfl, e1, upd_same, by show _ + 1 ≤ sizeLine; exact sz (by omega), fun p4 np4 => ?_⟩
          have w4 := same_upd (T := T) (o := .lst (cutV (ns.map V.int) none (some (j : Int)) ++ [V.int (1 + (ns[j] + odd) % 12)])) np4
          have sp := s05.trans (w1.trans w3)
          refine ⟨_, rfl, _, rfl, _, _, rfl, rfl, _, rfl, a, _, rfl, SqL.of ((sp.trans w4).k ha), fun p5 np5 => ?_⟩
          have w5 := same_upd (T := T) (o := .lst (cutV (ns.map V.int) (some ((j : Int) + 1)) none)) np5
          refine ⟨p4, p5, _, _, rfl, rfl, w5.k upd_same, upd_same, ?_, fun p6 np6 => ?_⟩
          · rw [List.length_append]
            show _ + 1 + _ ≤ sizeLine
            exact sz (by omega)
          have w6 := same_upd (T := T) (o := .lst (cutV (ns.map V.int) none (some (j : Int)) ++ [V.int (1 + (ns[j] + odd) % 12)] ++ cutV (ns.map V.int) (some ((j : Int) + 1)) none)) np6
          exact fin _ _ p1 p2 sp e1 upd_same p6 _ (w4.trans (w5.trans w6)) ((w4.trans w5).free _ np6) upd_same
        · refine ⟨_, rfl, a, _, rfl, .inl (SqL.of (s05.k ha)), fun o no => ?_⟩
          have w1 := same_upd (T := T) (o := .lst (ns.map V.int)) no
          exact q o _ ns (s05.trans w1) (s05.free _ no) upd_same (by omega)

theorem eqvAll_ints : ∀ (xs ys : List Int), xs.length = ys.length → PyData.eqvAll (xs.map PyData.int) (ys.map PyData.int) = decide (xs = ys)
  | [], [], _ => rfl
  | [], _ :: _, h => by cases h
  | _ :: _, [], h => by cases h
  | x :: xs, y :: ys, h => by
    have ih := eqvAll_ints xs ys (Nat.succ.inj h)
    simp only [List.map_cons, PyData.eqvAll, PyData.eqv, ih, List.cons.injEq]
    by_cases h1 : x = y <;> by_cases h2 : xs = ys <;> simp [h1, h2]
theorem canAll_ints : ∀ xs : List Int, PyData.canLayAll0 (xs.map PyData.int) = true
  | [] => rfl
  | x :: xs => by simp [PyData.canLayAll0, PyData.canLay0, canAll_ints xs]
theorem depAll_ints : ∀ xs : List Int, PyData.depthAll (xs.map PyData.int) ≤ 1
  | [] => by simp [PyData.depthAll]
  | x :: xs => by
    have := depAll_ints xs
    simp only [List.map_cons, PyData.depthAll, PyData.depth]
    omega
theorem shaped_ints (xs : List Int) : SeqAt.shaped (.list (xs.map PyData.int)) = true := by
  have := depAll_ints xs
  unfold SeqAt.shaped
  rw [Bool.and_eq_true]
  exact ⟨canAll_ints xs, decide_eq_true (by show PyData.depthAll (xs.map PyData.int) + 1 ≤ 64; omega)⟩
theorem sorted_eq {xs ys : List Int} (hp : xs.Perm ys) (hs : xs.Pairwise (· ≤ ·)) : (decide (xs = ys)) = risB ys := by
  by_cases h : risB ys = true
  · rw [h]
    exact decide_eq_true (List.Perm.eq_of_pairwise (fun a b _ _ => Int.le_antisymm) hs (risB_pair.mp h) hp)
  · rw [Bool.not_eq_true] at h
    rw [h]
    refine decide_eq_false fun e => ?_
    rw [e] at hs
    rw [risB_pair.mpr hs] at h
    cases h
def sp_l_paces_word (K : PySem.W.Frag) (T : Tb) : Sp := fun vs H Q _ => ∃ (a : Addr) (zs : List Int), vs = [.ref a] ∧ SqL K H a (zs.map V.int) ∧ zs.length ≤ 100 ∧ ∀ H', Sm T H H' → Q (.str ((pW zs).getD "")) H'
theorem ok_l_paces_word {f : Addr} {fd : FuncData} (F : Fun K "_law_paces_word" "_law_paces_word" s_l_paces_word f fd) (B : Bn mg) : FnOk P w K mg base CX0 1 f fd ["_law_paces"] (sp_l_paces_word K T) := by
  refine F.ok sc_l_paces_word (fun vs H Q E h => ?_) (fun cdv A outer s H vs Q E hr h => ?_)
  · obtain ⟨a, zs, rfl, _⟩ := h
    rfl
  · obtain ⟨a, zs, rfl, ha, hl, q⟩ := h
    refine ⟨_, (pss_cons (ps_if (pt_not (pt_chain op_le op_le pe_int (pe_callB call_len_seq (by rfl) B.len_ (by decide +kernel) (pa_cons (pv 0) pa_nil)) pe_int)) (pss_one (ps_ret pe_str)) pss_nil)
      (pss_cons (ps_if (pt_not (pt_val (pe_callB (cr_all rfl) (by rfl) B.all_ (by decide +kernel) (pa_cons (pe_lc (own := [("_law_one", 1)]) (g := (gName 1)) (tt := tYes) (by rfl) sc_l_paces_word.nd (pi_list (pv 0)) (blkOk_by (own := [("_law_one", 1)]) (N := ["_law_paces", "_law_one"]) (sc := (defScope s_l_paces_word)) (by decide +kernel)) (fun _ _ _ _ _ => (pg_name (i := 1) sc_l_paces_word.nd rfl (.inl rfl))) (fun _ _ _ _ _ => pts_nil) (fun _ _ _ _ _ => (pe_chain op_le op_le pe_int (pv 1) pe_int))) pa_nil)))) (pss_one (ps_ret pe_str)) pss_nil)
      (pss_one (ps_ret (pe_ifExp (pt_cmpR (op_eqD hr.units) (pe_callB cr_sortedI (by rfl) B.sorted_ (by decide +kernel) (pa_cons (pv 0) pa_nil)) (pv 0) (nomark _)) pe_str pe_str))))), ?_⟩
    refine ⟨_, rfl, a, _, rfl, .inl ha, _, _, rfl, rfl, _, rfl, ?_⟩
    rw [List.length_map]
    have bad : ¬ (1 ≤ (zs.length : Int) ∧ (zs.length : Int) ≤ 8) → Q (.str "bad count") H := fun hb => by
      have q0 := q H Sm.refl
      unfold pW pcW at q0
      rw [if_pos hb] at q0
      exact q0
    by_cases h1 : (1 : Int) ≤ (zs.length : Int)
    · rw [decide_eq_true h1]
      refine iteT ?_
      refine ⟨_, _, rfl, rfl, _, rfl, ?_⟩
      by_cases h2 : (zs.length : Int) ≤ 8
      · rw [decide_eq_true h2]
        refine iteF ?_
        refine ⟨_, rfl, a, rfl, ⟨_, ha⟩, fun D hD => lc_list (K := K) (a := a) (xs := zs.map V.int) (Qd := _) (fun i H' => Sm T H H' ∧ H' D = some (.lst (((zs.take i).map paceB).map V.bl))) ⟨same_upd hD, upd_same⟩ (fun i H' _ ⟨sm, _⟩ => sm.seq ha) ?_ ?_⟩
        · rintro i v H' hi ⟨sm, eD⟩
          rw [List.getElem?_map] at hi
          obtain ⟨z, hq, rfl⟩ : ∃ z, zs[i]? = some z ∧ V.int z = v := Option.map_eq_some_iff.mp hi
          have hil := (List.getElem?_eq_some_iff.mp hq).1
          have fin : ∀ y, paceB z = y → ∃ acc, H' D = some (.lst acc) ∧ acc.length < sizeLine ∧ (Sm T H (upd H' D (.lst (acc ++ [V.bl y]))) ∧ upd H' D (.lst (acc ++ [V.bl y])) D = some (.lst (((zs.take (i + 1)).map paceB).map V.bl))) := by
            rintro y rfl
            refine ⟨_, eD, ?_, same_mut sm hD eD, ?_⟩
            · rw [List.length_map, List.length_map, List.length_take]
              exact szl (by omega)
            · rw [upd_same, List.take_add_one, hq, List.map_append, List.map_append]
              rfl
          refine ⟨rfl, tyes_i ?_⟩
          refine ⟨_, rfl, _, _, rfl, rfl, _, rfl, ?_⟩
          by_cases k1 : 1 ≤ z
          · rw [decide_eq_true k1]
            refine iteT ⟨_, _, rfl, rfl, fin _ ?_⟩
            unfold paceB
            rw [decide_eq_true k1]
            rfl
          · rw [decide_eq_false k1]
            refine iteF (fin _ ?_)
            unfold paceB
            rw [decide_eq_false k1]
            rfl
        · rintro H' ⟨sm, eD⟩
          rw [List.length_map, List.take_length] at eD
          refine ⟨D, zs.map paceB, rfl, SqL.of eD, _, rfl, ?_⟩
          have e : (zs.map paceB).all id = zs.all paceB := by rw [List.all_map]; rfl
          rw [e]
          have q1 := fun H1 (s1 : Sm T H' H1) => q H1 (sm.trans s1)
          unfold pW pcW at q1
          rw [if_neg (fun c => c ⟨h1, h2⟩)] at q1
          by_cases h3 : zs.all paceB = true
          · rw [if_pos h3] at q1
            rw [h3]
            refine iteF ?_
            refine ⟨_, rfl, a, zs, rfl, sm.seq ha, fun ns' p hperm hs np => ?_⟩
            have u := same_upd (T := T) (o := .lst (ns'.map V.int)) np
            have hlp := hperm.length_eq
            refine ⟨_, rfl, .list (ns'.map PyData.int), .list (zs.map PyData.int), dp_ints (SqL.of upd_same), dp_ints ((sm.trans u).seq ha), shaped_ints _, shaped_ints _, _, rfl, ?_⟩
            have e2 : PyData.eqv (.list (ns'.map PyData.int)) (.list (zs.map PyData.int)) = risB zs := by
              rw [← sorted_eq hperm hs, ← eqvAll_ints _ _ hlp]
              simp only [PyData.eqv]
            rw [e2]
            have q2 := q1 _ u
            dsimp only at q2
            cases hr : risB zs with
            | true =>
              rw [hr, if_pos rfl] at q2
              exact iteT q2
            | false =>
              rw [hr, if_neg (by decide)] at q2
              exact iteF q2
          · rw [if_neg h3] at q1
            rw [Bool.not_eq_true] at h3
            rw [h3]
            exact iteT (q1 _ Sm.refl)
      · rw [decide_eq_false h2]
        exact iteT (bad fun c => h2 c.2)
    · rw [decide_eq_false h1]
      exact iteF ⟨_, rfl, iteT (bad fun c => h1 c.1)⟩

theorem iteJ2 {c : Bool} {A B : Prop} (hA : A) (hB : B) : if c = true then A else B := by
  cases c
  · exact iteF hB
  · exact iteT hA
def sp_p_check_places (K : PySem.W.Frag) (T : Tb) (CP : Addr) : Sp := fun vs H Q E => ∃ (D : Int) (c f : Addr) (ws : List V) (ps : List Rat) (L : Int), vs = [.ref c, .ref f] ∧ SqL K H c ws ∧ AmL K H ws ps ∧ (1 ≤ ps.length ∧ ps.length ≤ 100) ∧ SqT K H f (tv (am (L : Rat))) ∧ L.natAbs < 2 ^ 60 ∧ (0 < D ∧ D.natAbs < 2 ^ 3900) ∧ (∀ p ∈ ps, Fr D p ∧ 0 ≤ p ∧ p ≤ 50000) ∧
  ((ps.getD 0 0 ≠ 0 ∧ ∀ cls d H', Sm T H H' → Rf K CP "bad place" cls d H' → E cls d H') ∨ (ps.getD 0 0 = 0 ∧ (∀ p ∈ ps, p < (L : Rat)) ∧ ps.Pairwise (· ≤ ·) ∧ ∀ H', Sm T H H' → Q .non H'))
theorem ok_p_check_places {f : Addr} {fd : FuncData} {a_NOUGHT : Addr} (F : Fun K "check_places" "check_places" s_p_check_places f fd) (B : Bn mg) (g_NOUGHT : mg "NOUGHT" = some (.ref a_NOUGHT)) (s_NOUGHT : ∀ H, SqT K H a_NOUGHT [.int 0, .int 1]) {CP : Addr} (R_BadPlace : Err P w K mg base CP "BadPlace" "bad place") (F_p_below : Fn P w K mg base 1 "below" ["one", "other"] (sp_p_below K T)) : FnOk P w K mg base (L2.CX P w) 4 f fd ["places", "fire"] (sp_p_check_places K T CP) := by
  refine F.okX sc_p_check_places (fun vs H Q E h => ?_) (fun cdv A outer s H vs Q E hr h => ?_)
  · obtain ⟨D, c, f, ws, ps, L, rfl, _⟩ := h
    rfl
  · obtain ⟨D, c, f, ws, ps, L, rfl, hc, hw, hn, hf, hL, hD, hps, k⟩ := h
    refine ⟨_, (pss_cons (ps_if (PW.pt (pw_or (pt_cmpR (op_neD hr.units) (pe_ix ix_list (pv 0) pe_int (fun _ _ => rfl)) (pe_glob (v := .ref a_NOUGHT) (by rfl) g_NOUGHT rfl) (nomark _)) (pw_or1 (pt_not (pt_val (pe_fn F_p_below (hr.mono (by decide)) (pa_cons (pe_ix ix_list (pv 0) (pe_un un_neg pe_int) (fun _ _ => rfl)) (pa_cons (pv 1) pa_nil)))))))) (pss_one (ps_raise rfl (takes_of rfl rfl rfl rfl) (pmk_err R_BadPlace (hr.mono (by decide)) (by rfl)))) pss_nil)
      (pss_one (ps_for (passes_of rfl) rfl (pi_zip (by rfl) B.zip_ (pa_cons (pv 0) (pa_cons (pe_slice sl_list (pv 0) (po_some pe_int) po_none) pa_nil))) (pg_tup rfl (pgs_cons (pg_name (i := 2) sc_p_check_places.nd rfl (.inl rfl)) (pgs_cons (pg_name (i := 3) sc_p_check_places.nd rfl (.inl rfl)) pgs_nil)))
      (pss_one (ps_if (pt_val (pe_fn F_p_below (hr.mono (by decide)) (pa_cons (pv 3) (pa_cons (pv 2) pa_nil)))) (pss_one (ps_raise rfl (takes_of rfl rfl rfl rfl) (pmk_err R_BadPlace (hr.mono (by decide)) (by rfl)))) pss_nil))))), ?_⟩
    obtain ⟨b0, g0, q0⟩ := hw.at (i := 0) (by omega)
    have lw := hw.len
    have z0 : SqT K H a_NOUGHT (tv ((0, 1) : Am)) := s_NOUGHT H
    have bd : ∀ p ∈ ps, Bd 4000 (am p) := fun p hp => bdL hD.1 hD.2 (hps p hp).1 (hps p hp).2.1 (Rat.le_trans (hps p hp).2.2 (by decide))
    refine ⟨_, rfl, c, ws, 0, .ref b0, rfl, rfl, hc, atI_nat (j := 0) g0, amD (am (ps.getD 0 0)), amD (0, 1), amD_dp q0, amD_dp z0, shaped_am _, shaped_am _, _, rfl, ?_⟩
    rw [eqv_am]
    rcases k with ⟨hne, ke⟩ | ⟨h0, hlt, hris, kq⟩
    · rw [decide_eq_false (fun z => hne (am_inj (z.trans am_zero.symm)))]
      exact iteT (iteT fun cls dd hn rf => ke cls (some dd) _ (same_upd hn) rf)
    · rw [decide_eq_true (by rw [h0, am_zero])]
      refine iteF ?_
      obtain ⟨bl, gl, ql⟩ := hw.at (i := ps.length - 1) (by omega)
      have ml := getD_mem (d := (0 : Rat)) (show ps.length - 1 < ps.length by omega)
      refine ⟨_, rfl, 1, rfl, c, ws, _, .ref bl, rfl, rfl, hc, at_neg1 (by omega) (by rw [lw]; exact gl), _, rfl, bl, f, _, _, rfl, ql, hf, ⟨bd _ ml, ?_⟩, _, rfl, ?_⟩
      · rw [am_int]
        exact bd_int (small hL)
      rw [below_am, decide_eq_true (hlt _ ml)]
      refine iteF ?_
      refine ⟨_, rfl, _, rfl, 1, rfl, c, ws, rfl, hc, fun l1 n1 => ?_⟩
      have ec : cutV ws (some 1) none = ws.drop 1 := cut_drop _ 1 rfl
      rw [ec]
      have u1 := same_upd (T := T) (o := HO.lst (ws.drop 1)) n1
      refine ⟨c, l1, _, _, rfl, u1.seq hc, SqL.of upd_same, for_it (walk_zip (n := ps.length - 1) (by rw [List.length_drop, lw]; omega)) (fun i σ H3 => Sm T (upd H l1 (.lst (ws.drop 1))) H3 ∧ ∃ x1 x2, σ = [some (.ref c), some (.ref f), x1, x2]) ⟨Sm.refl, _, _, rfl⟩ (fun i σ H3 _ ⟨s3, _⟩ => ⟨(u1.trans s3).seq hc, SqL.of (s3.k upd_same)⟩) ?_ ?_⟩
      · rintro i x σ H2 H3 hi ⟨s2, x1, x2, rfl⟩ ⟨tp, y1, y2, rfl, ntp, rfl, f1, f2⟩
        obtain ⟨b1, g1, q1⟩ := hw.at (i := i) (by omega)
        obtain ⟨b2, g2, q2⟩ := hw.at (i := i + 1) (by omega)
        simp only [g1] at f1
        simp only [List.getElem?_drop, Nat.add_comm 1 i, g2] at f2
        cases f1
        cases f2
        have ut := same_upd (T := T) (o := .tup [V.ref b1, V.ref b2]) ntp
        have s3 := u1.trans (s2.trans ut)
        refine ⟨tp, _, rfl, SqT.of upd_same, rfl, _, _, rfl, _, _, rfl, rfl, ?_⟩
        refine ⟨_, rfl, _, rfl, b2, b1, _, _, rfl, same_tup s3 q2, same_tup s3 q1, ⟨bd _ (getD_mem (by omega)), bd _ (getD_mem (by omega))⟩, _, rfl, ?_⟩
        have hle : ps.getD i 0 ≤ ps.getD (i + 1) 0 := by
          rw [getD_lt (show i < ps.length by omega), getD_lt (show i + 1 < ps.length by omega)]
          exact List.pairwise_iff_getElem.mp hris i (i + 1) (by omega) (by omega) (by omega)
        rw [below_am, decide_eq_false (Rat.not_lt.mpr hle)]
        exact iteF ⟨s2.trans ut, _, _, rfl⟩
      · rintro σ H2 ⟨s2, x1, x2, rfl⟩
        exact kq H2 (u1.trans s2)
def shW (qs : List Am) (ns : List Int) (ps : List Rat) : Option Str :=
  if wayB qs = true then (if ps.length = ns.length then (match pW ns with
    | some wd => some wd
    | none => if ps.getD 0 0 = 0 then none else some "bad place") else some "bad count") else some "bad way"
/-- the share of hand j: the way to the next one, or to the fire, by its pace -/
def shr (L : Int) (ns : List Int) (ps : List Rat) (j : Nat) : Rat := ((ps.drop 1 ++ [(L : Rat)]).getD j 0 - ps.getD j 0) / ((ns.getD j 0 : Int) : Rat)
def sp_p_shares (K : PySem.W.Frag) (T : Tb) (CP : Addr) : Sp := fun vs H Q E => ∃ (D : Int) (a b c : Addr) (us ws : List V) (qs : List Am) (ns : List Int) (ps : List Rat), vs = [.ref a, .ref b, .ref c] ∧ (SqL K H a us ∧ DpAll K H us (qs.map amD) ∧ qs.length ≤ 1000) ∧ (SqL K H b (ns.map V.int) ∧ ns.length ≤ 1000) ∧ (SqL K H c ws ∧ AmL K H ws ps ∧ ps.length ≤ 1000) ∧ Ok T H ∧ (0 < D ∧ D.natAbs < 2 ^ 3900) ∧ (∀ p ∈ ps, Fr D p ∧ 0 ≤ p ∧ p ≤ 50000) ∧
  (shW qs ns ps = none → (∀ p ∈ ps, p < ((labourM qs : Int) : Rat)) ∧ ps.Pairwise (· ≤ ·)) ∧
  (shW qs ns ps = none → ∀ p H' us', Sm T H H' → H p = none → H' p = some (.lst us') → AmL K H' us' ((List.range ns.length).map (shr (labourM qs) ns ps)) → Q (.ref p) H') ∧ (∀ wd, shW qs ns ps = some wd → ∀ cls d H', Sm T H H' → Rf K CP wd cls d H' → E cls d H')
theorem amL_snoc {K : PySem.W.Frag} {H : Hp} {us : List V} {xs : List Rat} {b : Addr} {r : Rat} (h : AmL K H us xs) (hb : SqT K H b (tv (am r))) : AmL K H (us ++ [.ref b]) (xs ++ [r]) := by
  unfold AmL
  rw [List.map_append, List.map_append]
  exact dpa_app h (.cons (amD_dp hb) .nil)
theorem AmL.take {K : PySem.W.Frag} {H : Hp} {us : List V} {xs : List Rat} (h : AmL K H us xs) (n : Nat) : AmL K H (us.take n) (xs.take n) := by
  have := dpa_take n h
  rw [← List.map_take, ← List.map_take] at this
  exact this
theorem AmL.drop {K : PySem.W.Frag} {H : Hp} {us : List V} {xs : List Rat} (h : AmL K H us xs) (n : Nat) : AmL K H (us.drop n) (xs.drop n) := by
  have := dpa_drop n h
  rw [← List.map_drop, ← List.map_drop] at this
  exact this
theorem ok_p_shares {f : Addr} {fd : FuncData} (F : Fun K "shares" "shares" s_p_shares f fd) (B : Bn mg) {CP : Addr} (R_BadCount : Err P w K mg base CP "BadCount" "bad count") (F_p_minus : Fn P w K mg base 3 "minus" ["one", "other"] (sp_p_minus K T)) (F_p_over : Fn P w K mg base 3 "over" ["one", "other"] (sp_p_over K T)) (F_p_check_rising : Fx P w K mg base 6 "check_rising" ["paces"] (sp_p_check_rising K T CP)) (F_p_labour : Fx P w K mg base 5 "labour" ["way"] (sp_p_labour K T CP)) (F_p_check_places : Fx P w K mg base 4 "check_places" ["places", "fire"] (sp_p_check_places K T CP)) : FnOk P w K mg base (L2.CX P w) 7 f fd ["way", "paces", "places"] (sp_p_shares K T CP) := by
  refine F.okX sc_p_shares (fun vs H Q E h => ?_) (fun cdv A outer s H vs Q E hr h => ?_)
  · obtain ⟨D, a, b, c, us, ws, qs, ns, ps, rfl, _⟩ := h
    rfl
  · obtain ⟨D, a, b, c, us, ws, qs, ns, ps, rfl, ⟨ha, hd, hq⟩, ⟨hb, hn⟩, ⟨hc, hw, hp⟩, hok, hD, hps, hg, k1, k2⟩ := h
    refine ⟨_, (pss_cons (ps_set (i := 3) sc_p_shares.nd rfl (.inl rfl) (pe_tup (pa_cons (pe_fx F_p_labour (hr.mono (by decide)) (takes_of rfl rfl rfl rfl) (pa_cons (pv 0) pa_nil)) (pa_cons pe_int pa_nil))))
      (pss_cons (ps_if (pt_cmpR op_ne (pe_callB call_len_seq (by rfl) B.len_ (by decide +kernel) (pa_cons (pv 2) pa_nil)) (pe_callB call_len_seq (by rfl) B.len_ (by decide +kernel) (pa_cons (pv 1) pa_nil)) (nomark _)) (pss_one (ps_raise rfl (takes_of rfl rfl rfl rfl) (pmk_err R_BadCount (hr.mono (by decide)) (by rfl)))) pss_nil)
      (pss_cons (ps_expr (pe_fx F_p_check_rising (hr.mono (by decide)) (takes_of rfl rfl rfl rfl) (pa_cons (pv 1) pa_nil)))
      (pss_cons (ps_expr (pe_fx F_p_check_places (hr.mono (by decide)) (takes_of rfl rfl rfl rfl) (pa_cons (pv 2) (pa_cons (pv 3) pa_nil))))
      (pss_cons (ps_set (i := 4) sc_p_shares.nd rfl (.inl rfl) (pe_op op_cat (pe_slice sl_list (pv 2) (po_some pe_int) po_none) (pe_lst (pa_cons (pv 3) pa_nil))))
      (pss_one (ps_ret (pe_lc (own := [("pace", 5), ("place", 6), ("end", 7)]) (g := (gTup K 3 (gCons (gName 5) (gCons (gName 6) (gCons (gName 7) gNil))))) (tt := tYes) (by rfl) sc_p_shares.nd (pi_zip3 (by rfl) B.zip_ (pa_cons (pv 1) (pa_cons (pv 2) (pa_cons (pv 4) pa_nil)))) (blkOk_by (own := [("pace", 5), ("place", 6), ("end", 7)]) (N := ["way", "paces", "places", "fire", "ends", "pace", "place", "end"]) (sc := (defScope s_p_shares)) (by decide +kernel)) (fun _ _ _ _ _ => (pg_tup rfl (pgs_cons (pg_name (i := 5) sc_p_shares.nd rfl (.inl rfl)) (pgs_cons (pg_name (i := 6) sc_p_shares.nd rfl (.inl rfl)) (pgs_cons (pg_name (i := 7) sc_p_shares.nd rfl (.inl rfl)) pgs_nil))))) (fun _ _ _ _ _ => pts_nil) (fun _ _ _ _ _ => (pe_fn F_p_over (hr.mono (by decide)) (pa_cons (pe_fn F_p_minus (hr.mono (by decide)) (pa_cons (pv 7) (pa_cons (pv 6) pa_nil))) (pa_cons (pe_tup (pa_cons (pv 5) (pa_cons pe_int pa_nil))) pa_nil)))))))))))), ?_⟩
    have lw := hw.len
    refine ⟨_, rfl, a, us, qs, rfl, ha, hd, hq, hok, fun hwb H1 s1 => ?_, fun hwb cls d H' s' rf => k2 "bad way" (by unfold shW; rw [hwb]; rfl) cls d H' s' rf⟩
    have lr := labour_rng (wayB_b hwb)
    refine ⟨by show 2 ≤ sizeLine; decide, fun t nt => ?_⟩
    have ut := same_upd (T := T) (o := HO.tup [V.int (labourM qs), V.int 1]) nt
    have s1t := s1.trans ut
    refine ⟨_, rfl, c, _, rfl, .inl (s1t.seq hc), _, rfl, b, _, rfl, .inl (s1t.seq hb), rfl, _, rfl, ?_⟩
    rw [lw, List.length_map]
    by_cases hl : ps.length = ns.length
    · rw [decide_eq_true (by rw [hl])]
      refine iteF ?_
      refine ⟨_, rfl, b, ns, rfl, s1t.seq hb, hn, fun hpw H2 s2 => ?_, fun wd hpw cls d H' s' rf => k2 wd (by unfold shW; rw [if_pos hwb, if_pos hl, hpw]) cls d H' (s1t.trans s') rf⟩
      have w := pW_ris.mp hpw
      have n1 := w.n1
      have n8 := w.n8
      have s2t := s1t.trans s2
      have ht2 : SqT K H2 t (tv (am ((labourM qs : Int) : Rat))) := by
        rw [am_int]
        exact SqT.of (s2.k upd_same)
      by_cases h0 : ps.getD 0 0 = 0
      · have hsh : shW qs ns ps = none := by
          unfold shW
          rw [if_pos hwb, if_pos hl, hpw]
          exact if_pos h0
        have k1 := k1 hsh
        obtain ⟨hlt, hris⟩ := hg hsh
        refine ⟨_, rfl, _, rfl, D, c, t, ws, ps, labourM qs, rfl, s2t.seq hc, hw.keep s2t, ⟨by omega, by omega⟩, ht2, by omega, hD, hps, .inr ⟨h0, hlt, hris, fun H3 s3 => ?_⟩⟩
        have s3t := s2t.trans s3
        refine ⟨_, rfl, 1, rfl, c, ws, rfl, s3t.seq hc, fun l1 n1 => ?_⟩
        have ec : cutV ws (some 1) none = ws.drop 1 := cut_drop _ 1 rfl
        rw [ec]
        have u1 := same_upd (T := T) (o := HO.lst (ws.drop 1)) n1
        refine ⟨_, rfl, by show 1 ≤ sizeLine; decide, fun l2 n2 => ?_⟩
        have u2 := same_upd (T := T) (o := HO.lst [V.ref t]) n2
        refine ⟨l1, l2, _, _, rfl, rfl, u2.k upd_same, upd_same, sz (by rw [List.length_drop]; show _ + 1 ≤ _; omega), fun l3 n3 => ?_⟩
        have u3 := same_upd (T := T) (o := HO.lst (ws.drop 1 ++ [V.ref t])) n3
        have s4t := s3t.trans (u1.trans (u2.trans u3))
        have e3 : upd (upd (upd H3 l1 (.lst (ws.drop 1))) l2 (.lst [.ref t])) l3 (.lst (ws.drop 1 ++ [.ref t])) l3 = some (.lst (ws.drop 1 ++ [.ref t])) := upd_same
        have hw4 := hw.keep s4t
        have ht4 := same_tup (s3.trans (u1.trans (u2.trans u3))) ht2
        have hE := amL_snoc (hw4.drop 1) ht4
        generalize upd (upd (upd H3 l1 (.lst (ws.drop 1))) l2 (.lst [.ref t])) l3 (.lst (ws.drop 1 ++ [.ref t])) = H4 at *
        have lE : (ps.drop 1 ++ [((labourM qs : Int) : Rat)]).length = ns.length := by rw [List.length_append, List.length_drop]; show _ + 1 = _; omega
        have gE : ∀ j, j < ns.length → ps.getD j 0 ≤ (ps.drop 1 ++ [((labourM qs : Int) : Rat)]).getD j 0 ∧ Fr D ((ps.drop 1 ++ [((labourM qs : Int) : Rat)]).getD j 0) ∧ (ps.drop 1 ++ [((labourM qs : Int) : Rat)]).getD j 0 ≤ 50000 := fun j hj => by
          by_cases hj2 : j + 1 < ns.length
          · have e : (ps.drop 1 ++ [((labourM qs : Int) : Rat)]).getD j 0 = ps.getD (j + 1) 0 := by
              rw [List.getD_eq_getElem?_getD, List.getElem?_append_left (by rw [List.length_drop]; omega), List.getElem?_drop, Nat.add_comm 1 j, ← List.getD_eq_getElem?_getD]
            rw [e]
            have m := hps _ (getD_mem (d := (0 : Rat)) (show j + 1 < ps.length by omega))
            refine ⟨?_, m.1, m.2.2⟩
            rw [getD_lt (show j < ps.length by omega), getD_lt (show j + 1 < ps.length by omega)]
            exact List.pairwise_iff_getElem.mp hris j (j + 1) (by omega) (by omega) (by omega)
          · have e : (ps.drop 1 ++ [((labourM qs : Int) : Rat)]).getD j 0 = ((labourM qs : Int) : Rat) := by
              rw [List.getD_eq_getElem?_getD, List.getElem?_append_right (by rw [List.length_drop]; omega), List.length_drop, show j - (ps.length - 1) = 0 by omega]
              rfl
            rw [e]
            refine ⟨Rat.le_of_lt (hlt _ (getD_mem (by omega))), Fr.int (by omega) _, ?_⟩
            exact Rat.le_trans (Rat.intCast_le_intCast.mpr lr.2) (by decide +kernel)
        refine ⟨_, rfl, _, rfl, _, rfl, b, c, l3, _, _, _, rfl, s4t.seq hb, s4t.seq hc, SqL.of e3, fun D0 hD0 => lc_it (walk_zip3 (n := ns.length) (by rw [List.length_map, lw, hE.len, lE]; omega)) (Qd := _) (fun i H' => Sm T H4 H' ∧ ∃ vs, H' D0 = some (.lst vs) ∧ AmL K H' vs ((List.range i).map (shr (labourM qs) ns ps))) ⟨same_upd hD0, [], upd_same, .nil⟩ (fun i H' _ ⟨sm, _⟩ => ⟨(s4t.trans sm).seq hb, (s4t.trans sm).seq hc, SqL.of (sm.k e3)⟩) ?_ ?_⟩
        · rintro i x H5 H6 hi ⟨sm, vs, eD, hv⟩ ⟨tp, x1, y1, z1, rfl, ntp, rfl, f1, f2, f3⟩
          have g1 := getI (l := ns) (j := i) hi
          obtain ⟨b2, g2, q2⟩ := hw4.at (i := i) (by omega)
          obtain ⟨b3, g3, q3⟩ := hE.at (i := i) (by omega)
          simp only [List.getElem?_map, g1, Option.map_some] at f1
          simp only [g2] at f2
          simp only [g3] at f3
          cases f1
          cases f2
          cases f3
          have ut' := same_upd (T := T) (o := .tup [V.int (ns.getD i 0), V.ref b2, V.ref b3]) ntp
          have pc := w.pace _ (getD_mem (d := (0 : Int)) hi)
          have hp1 := hps _ (getD_mem (d := (0 : Rat)) (show i < ps.length by omega))
          obtain ⟨ge1, ge2, ge3⟩ := gE i hi
          have s5 := sm.trans ut'
          refine ⟨tp, _, rfl, SqT.of upd_same, rfl, _, _, rfl, _, _, rfl, _, _, rfl, rfl, rfl, tyes_i ?_⟩
          refine ⟨_, rfl, _, rfl, b3, b2, _, _, rfl, same_tup s5 q3, same_tup s5 q2, ⟨bdL hD.1 hD.2 ge2 (Rat.le_trans hp1.2.1 ge1) (Rat.le_trans ge3 (by decide)), bdL hD.1 hD.2 hp1.1 hp1.2.1 (Rat.le_trans hp1.2.2 (by decide))⟩, ⟨am_pos _, am_pos _⟩, fun p4 H7 s7 n4 e4 => ?_⟩
          rw [minus_am] at e4
          refine ⟨_, rfl, by show 2 ≤ sizeLine; decide, fun t2 nt2 => ?_⟩
          have u4 := same_upd (T := T) (o := .tup [V.int (ns.getD i 0), V.int 1]) nt2
          refine ⟨p4, t2, _, (ns.getD i 0, 1), rfl, SqT.of (u4.k e4), SqT.of upd_same, ⟨bdL hD.1 hD.2 (ge2.sub hp1.1) (sub_nn' ge1) (Rat.le_trans (sub_le' ge3 hp1.2.1) (by decide)), bd_int (small (by omega))⟩, ⟨am_pos _, by show (0 : Int) < 1; decide, by show ns.getD i 0 ≠ 0; omega⟩, fun p5 H8 s8 n5 e5 => ?_⟩
          rw [← am_int, over_am _ _ (cn (by omega))] at e5
          have sA := ut'.trans (s7.trans (u4.trans s8))
          have eD5 := sA.k eD
          have lv : vs.length = i := by rw [hv.len, List.length_map, List.length_range]
          refine ⟨_, eD5, szl (by omega), same_mut (sm.trans sA) hD0 eD5, _, upd_same, ?_⟩
          rw [take_range]
          exact (hv.keep sA).push eD5 (SqT.of e5)
        · rintro H5 ⟨sm, vs, eD, hv⟩
          exact k1 D0 H5 vs (s4t.trans sm) (s4t.free _ hD0) eD hv
      · refine ⟨_, rfl, _, rfl, D, c, t, ws, ps, labourM qs, rfl, s2t.seq hc, hw.keep s2t, ⟨by omega, by omega⟩, ht2, by omega, hD, hps, .inl ⟨h0, fun cls d H' s' rf => k2 "bad place" ?_ cls d H' (s2t.trans s') rf⟩⟩
        unfold shW
        rw [if_pos hwb, if_pos hl, hpw]
        exact if_neg h0
    · rw [decide_eq_false (fun z => hl (by have := V.int.inj z; omega))]
      exact iteT fun cls dd hn rf => k2 "bad count" (by unfold shW; rw [if_pos hwb, if_neg hl]) cls (some dd) _ (s1t.trans (same_upd hn)) rf

def sp_l_spots (K : PySem.W.Frag) (T : Tb) : Sp := fun vs H Q _ => ∃ (c : Int) (m : Nat) (W : Int), vs = [.int c, .int m, .int W] ∧ (1 ≤ m ∧ m ≤ 1000) ∧ (1 ≤ W ∧ W ≤ 1000) ∧
  ∀ p H' us xs (D : Int), Sm T H H' → H p = none → H' p = some (.lst us) → AmL K H' us xs → xs.length = min m 9 → (1 ≤ D ∧ D ≤ 100) → (∀ x ∈ xs, Fr D x ∧ 0 ≤ x ∧ x < (W : Rat)) → xs.Pairwise (· ≤ ·) → xs.getD 0 0 = 0 → Q (.ref p) H'
theorem rlt {a b c : Rat} (h : a ≤ b) (g : b < c) : a < c := by grind
theorem sumI_le : ∀ (l : List Int) (n m : Nat), (∀ z ∈ l, 0 ≤ z) → n ≤ m → (l.take n).sum ≤ (l.take m).sum
  | [], _, _, _, _ => by simp
  | _ :: _, 0, m, h, _ => by
    rw [List.take_zero]
    have : ∀ l : List Int, (∀ z ∈ l, 0 ≤ z) → 0 ≤ l.sum := fun l => by
      induction l with
      | nil => intro _; simp
      | cons a l ih =>
        intro h
        have i1 := ih fun z hz => h z (List.mem_cons_of_mem _ hz)
        have i2 := h a List.mem_cons_self
        rw [List.sum_cons]
        omega
    exact this _ fun z hz => h z (List.mem_of_mem_take hz)
  | a :: l, n + 1, 0, _, hm => absurd hm (by omega)
  | a :: l, n + 1, m + 1, h, hm => by
    rw [List.take_succ_cons, List.take_succ_cons, List.sum_cons, List.sum_cons]
    have := sumI_le l n m (fun z hz => h z (List.mem_cons_of_mem _ hz)) (by omega)
    omega
theorem ok_l_spots {f : Addr} {fd : FuncData} (F : Fun K "_law_spots" "_law_spots" s_l_spots f fd) (B : Bn mg) (F_l_draws : Fn P w K mg base 1 "_law_draws" ["_law_cell_here", "_law_parts"] (sp_l_draws K T)) (F_l_amt : Fn P w K mg base 2 "_law_amt" ["_law_num", "_law_den"] (sp_l_amt K T)) : FnOk P w K mg base CX0 3 f fd ["_law_cell_here", "_law_many_here", "_law_whole"] (sp_l_spots K T) := by
  refine F.ok sc_l_spots (fun vs H Q E h => ?_) (fun cdv A outer s H vs Q E hr h => ?_)
  · obtain ⟨c, m, W, rfl, _⟩ := h
    rfl
  · obtain ⟨c, m, W, rfl, hm, hW, q⟩ := h
    refine ⟨_, (pss_cons (ps_set (i := 3) sc_l_spots.nd rfl (.inl rfl) (pe_fn F_l_draws (hr.mono (by decide)) (pa_cons (pv 0) (pa_cons (pe_op op_rep (pe_lst (pa_cons pe_int pa_nil)) pe_int) pa_nil))))
      (pss_cons (ps_set (i := 4) sc_l_spots.nd rfl (.inl rfl) (pe_lst (pa_cons (pe_tup (pa_cons pe_int (pa_cons pe_int pa_nil))) pa_nil)))
      (pss_cons (ps_set (i := 5) sc_l_spots.nd rfl (.inl rfl) (pe_op op_add pe_int (pe_callB (cr_sum rfl) (by rfl) B.sum_ (by decide +kernel) (pa_cons (pe_slice sl_list (pv 3) po_none (po_some (pv 1))) pa_nil))))
      (pss_cons (ps_set (i := 6) sc_l_spots.nd rfl (.inl rfl) pe_int)
      (pss_cons (ps_for PassesOwn.never rfl (pi_list (pe_slice sl_list (pv 3) po_none (po_some (pe_op op_sub (pv 1) pe_int)))) (pg_name (i := 7) sc_l_spots.nd rfl (.inl rfl))
      (pss_cons (ps_set (i := 6) sc_l_spots.nd rfl (.inl rfl) (pe_op op_add (pv 6) (pv 7)))
      (pss_one (ps_expr (pe_bm PySem.F.plainAttrs_list PySem.F.slot_list_append PySem.F.type_list_append mt_append (pv 4) (pa_cons (pe_fn F_l_amt (hr.mono (by decide)) (pa_cons (pe_op op_mul (pv 2) (pv 6)) (pa_cons (pv 5) pa_nil))) pa_nil))))))
      (pss_one (ps_ret (pe_slice sl_list (pv 4) po_none (po_some (pv 1)))))))))), ?_⟩
    refine ⟨_, rfl, by show 1 ≤ sizeLine; decide, fun l2 n2 => ?_⟩
    refine ⟨_, _, _, rfl, rfl, upd_same, by decide, by decide, by show 1 * 8 ≤ sizeLine; decide, fun l3 n3 => ?_⟩
    have u2 := same_upd (T := T) (o := HO.lst [V.int 12]) n2
    have u3 := same_upd (T := T) (o := HO.lst (List.replicate 8 [V.int 12]).flatten) n3
    refine ⟨c, l3, [12, 12, 12, 12, 12, 12, 12, 12], rfl, SqL.of upd_same, by decide, by decide, fun p3 H3 ds s3 np3 e3 hd => ?_⟩
    have s03 : Sm T H H3 := u2.trans (u3.trans s3)
    clear s3 u2 u3
    have dl : ds.length = 8 := hd.length
    have dr : ∀ z ∈ ds, 0 ≤ z ∧ z < 12 := fun z hz => by
      obtain ⟨i, hi, e⟩ := List.getElem_of_mem hz
      obtain ⟨x, gx, x0, x1⟩ : ∃ x, ds[i]? = some x ∧ 0 ≤ x ∧ x < 12 := hd.get (q := 12) (by rcases (by omega : i = 0 ∨ i = 1 ∨ i = 2 ∨ i = 3 ∨ i = 4 ∨ i = 5 ∨ i = 6 ∨ i = 7) with rfl | rfl | rfl | rfl | rfl | rfl | rfl | rfl <;> rfl)
      rw [List.getElem?_eq_getElem hi, e] at gx
      cases gx
      exact ⟨x0, x1⟩
    refine ⟨by show 2 ≤ sizeLine; decide, fun t0 nt0 => ⟨by show 1 ≤ sizeLine; decide, fun fo nfo => ?_⟩⟩
    have u4 := same_upd (T := T) (o := HO.tup [V.int 0, V.int 1]) nt0
    have u5 := same_upd (T := T) (o := HO.lst [V.ref t0]) nfo
    have s35 := u4.trans u5
    refine ⟨_, rfl, _, rfl, _, rfl, p3, _, rfl, SqL.of (s35.k e3), fun l6 n6 => ?_⟩
    rw [cutI_take ds m rfl]
    have u6 := same_upd (T := T) (o := HO.lst ((ds.take m).map V.int)) n6
    refine ⟨l6, ds.take m, rfl, SqL.of upd_same, _, _, rfl, rfl, ?_⟩
    have sb := sum_bd (c := 11) (by decide) (ds.take m) (fun z hz => by have := dr z (List.mem_of_mem_take hz); omega)
    have lt : (ds.take m).length ≤ 8 := by rw [List.length_take]; omega
    generalize hS : (ds.take m).sum = S at *
    have hT1 : 1 ≤ 1 + S ∧ 1 + S ≤ 100 := by omega
    refine ⟨_, rfl, _, rfl, _, _, rfl, rfl, _, rfl, p3, _, rfl, SqL.of ((s35.trans u6).k e3), fun l7 n7 => ?_⟩
    rw [cutI_take ds (m - 1) (by omega)]
    have u7 := same_upd (T := T) (o := HO.lst ((ds.take (m - 1)).map V.int)) n7
    have sB := u6.trans u7
    have hcp := cp (show 0 < 1 + S by omega)
    have hW0 : (0 : Rat) < (W : Rat) := cp (by omega)
    refine ⟨l7, rfl, ⟨_, SqL.of upd_same⟩, for_list (K := K) (a := l7) (xs := (ds.take (m - 1)).map V.int) (fun i σ H' => Sm T H3 H' ∧ ∃ us xs x7, σ = [some (.int c), some (.int m), some (.int W), some (.ref p3), some (.ref fo), some (.int (1 + S)), some (.int ((ds.take (m - 1)).take i).sum), x7] ∧ H' l7 = some (.lst ((ds.take (m - 1)).map V.int)) ∧ H' fo = some (.lst us) ∧ AmL K H' us xs ∧ xs.length = i + 1 ∧ (∀ x ∈ xs, Fr (1 + S) x ∧ 0 ≤ x ∧ x ≤ ((W * ((ds.take (m - 1)).take i).sum : Int) : Rat) / ((1 + S : Int) : Rat)) ∧ xs.Pairwise (· ≤ ·) ∧ xs.getD 0 0 = 0) ?_ (fun i σ H' _ ⟨_, _, _, _, _, e7, _⟩ => SqL.of e7) ?_ ?_⟩
    · refine ⟨s35.trans sB, [.ref t0], [0], _, rfl, upd_same, sB.k upd_same, .cons (amD_dp (by rw [am_zero]; exact SqT.of ((u5.trans sB).k upd_same))) .nil, rfl, fun x hx => ?_, List.pairwise_singleton _ _, rfl⟩
      rw [List.mem_singleton.mp hx, List.take_zero]
      refine ⟨Fr.zero (by omega), by decide, ?_⟩
      rw [List.sum_nil, Int.mul_zero]
      exact div_nn (k := 1 + S) (by omega) (by decide)
    · rintro i v σ H' hi ⟨s', us, xs, x7, rfl, e7, efo, hu, hl, hx, hpw, h0⟩
      rw [List.getElem?_map] at hi
      obtain ⟨z, hz, rfl⟩ : ∃ z, (ds.take (m - 1))[i]? = some z ∧ V.int z = v := Option.map_eq_some_iff.mp hi
      have hz0 := dr z (List.mem_of_mem_take (List.mem_of_getElem? hz))
      have hil := (List.getElem?_eq_some_iff.mp hz).1
      rw [List.length_take] at hil
      have es : ((ds.take (m - 1)).take (i + 1)).sum = ((ds.take (m - 1)).take i).sum + z := by rw [List.take_add_one, hz, List.sum_append]; simp
      have sb2 := sum_bd (c := 11) (by decide) ((ds.take (m - 1)).take i) (fun z hz => by have := dr z (List.mem_of_mem_take (List.mem_of_mem_take hz)); omega)
      have l2 : ((ds.take (m - 1)).take i).length ≤ 8 := by rw [List.length_take, List.length_take]; omega
      generalize hA : ((ds.take (m - 1)).take i).sum = A at *
      refine ⟨_, rfl, _, rfl, _, _, rfl, rfl, ?_⟩
      refine ⟨_, rfl, .inl ⟨rfl, _, SqL.of efo⟩, _, rfl, _, rfl, _, _, rfl, rfl, .inl ⟨by omega, by omega⟩, _, rfl, ?_⟩
      refine ⟨W * (A + z), 1 + S, rfl, by omega, Nat.lt_of_le_of_lt (show (1 + S).natAbs ≤ 100 by omega) (Nat.lt_of_lt_of_le (by decide : 100 < 2 ^ 7) (Nat.pow_le_pow_right (by decide) (by decide))), fun p8 H8 s8 n8 e8 => ?_⟩
      rw [amt_am (by omega)] at e8
      have efo8 := s8.k efo
      have lu := hu.len
      refine ⟨fo, _, _, rfl, rfl, efo8, szl (by omega), ?_⟩
      have ne7 : l7 ≠ fo := fun y => by
        rw [y] at n7
        rw [(u6).k upd_same] at n7
        cases n7
      have mono : ((W * A : Int) : Rat) / ((1 + S : Int) : Rat) ≤ ((W * (A + z) : Int) : Rat) / ((1 + S : Int) : Rat) := by
        rw [Rat.div_def, Rat.div_def]
        exact Rat.mul_le_mul_of_nonneg_right (Rat.intCast_le_intCast.mpr (Int.mul_le_mul_of_nonneg_left (by omega) (by omega))) (Rat.le_of_lt (Rat.inv_pos.mpr hcp))
      have nn : 0 ≤ ((W * (A + z) : Int) : Rat) / ((1 + S : Int) : Rat) := div_nn (k := 1 + S) (by omega) (Rat.intCast_nonneg.mpr (Int.mul_nonneg (by omega) (by omega)))
      have hnf : H3 fo = none := u4.free _ nfo
      refine ⟨same_mut (s'.trans s8) hnf efo8, us ++ [.ref p8], xs ++ [((W * (A + z) : Int) : Rat) / ((1 + S : Int) : Rat)], _, by rw [es]; rfl, by rw [upd_ne ne7]; exact s8.k e7, upd_same, (hu.keep s8).push efo8 (SqT.of e8), by rw [List.length_append, hl]; rfl, fun x hx' => ?_, ?_, ?_⟩
      · rw [es]
        rcases List.mem_append.mp hx' with h | h
        · exact ⟨(hx x h).1, (hx x h).2.1, Rat.le_trans (hx x h).2.2 mono⟩
        · rw [List.mem_singleton.mp h]
          exact ⟨⟨_, rfl⟩, nn, Rat.le_refl⟩
      · rw [List.pairwise_append]
        refine ⟨hpw, List.pairwise_singleton _ _, fun x hx' y hy => ?_⟩
        rw [List.mem_singleton.mp hy]
        exact Rat.le_trans (hx x hx').2.2 mono
      · have e : (xs ++ [((W * (A + z) : Int) : Rat) / ((1 + S : Int) : Rat)]).getD 0 0 = xs.getD 0 0 := by rw [List.getD_eq_getElem?_getD, List.getD_eq_getElem?_getD, List.getElem?_append_left (by omega)]
        exact e.trans h0
    · rintro σ H' ⟨s', us, xs, x7, rfl, e7, efo, hu, hl, hx, hpw, h0⟩
      rw [List.length_map, List.length_take, dl] at hl
      refine ⟨_, rfl, _, rfl, _, rfl, fo, us, rfl, SqL.of efo, fun p np => ?_⟩
      rw [cut_take us m rfl]
      have up := same_upd (T := T) (o := HO.lst (us.take m)) np
      have ht := hu.take m
      refine q p _ (us.take m) (xs.take m) (1 + S) (s03.trans (s'.trans up)) ((s03.trans s').free _ np) upd_same (ht.keep up) (by rw [List.length_take]; omega) hT1 (fun x hx' => ?_) (hpw.sublist (List.take_sublist _ _)) ?_
      · have h1 := hx x (List.mem_of_mem_take hx')
        refine ⟨h1.1, h1.2.1, rlt h1.2.2 ?_⟩
        rw [List.length_map, List.take_of_length_le (Nat.le_refl _)]
        have h2 := sumI_le ds (m - 1) m (fun z hz => (dr z hz).1) (by omega)
        rw [hS] at h2
        have e1 : ((W * (ds.take (m - 1)).sum : Int) : Rat) < ((W : Int) : Rat) * ((1 + S : Int) : Rat) := by
          rw [← Rat.intCast_mul]
          exact Rat.intCast_lt_intCast.mpr (Int.mul_lt_mul_of_pos_left (by omega) (by omega))
        have e2 := Rat.mul_lt_mul_of_pos_right e1 (Rat.inv_pos.mpr hcp)
        rw [Rat.mul_assoc, Rat.mul_inv_cancel _ (Rat.ne_of_gt hcp), Rat.mul_one, ← Rat.div_def] at e2
        exact e2
      · have e : (xs.take m).getD 0 0 = xs.getD 0 0 := by rw [List.getD_eq_getElem?_getD, List.getD_eq_getElem?_getD, List.getElem?_take_of_lt (by omega)]
        exact e.trans h0

theorem sub_ge {a b : Rat} (h : 0 ≤ a) (g : b ≤ 50000) : -50000 ≤ a - b := by grind
theorem ne_t {p : Prop} [Decidable p] (e : (!decide p) = true) : ¬ p := fun h => by rw [decide_eq_true h] at e; cases e
theorem ne_f {p : Prop} [Decidable p] (e : ¬ (!decide p) = true) : p := Classical.byContradiction fun h => e (by rw [decide_eq_false h]; rfl)
theorem seq_dr {te : TE} {u : TS} {D : Ends} {σ : L2.St} {H : Hp} (P : L2.St → Hp → Prop) (hu : ∀ σ' H', P σ' H' → u D σ' H') (h : (∀ σ' H', P σ' H' → u D σ' H') → tSeq (tDrop te) u D σ H) : tSeq (tDrop te) u D σ H := h hu
theorem cut_neg1 {us : List V} (h : 0 < us.length) : cutV us none (some (-1)) = us.take (us.length - 1) := by
  unfold cutV
  have e : HT.sIx us.length us.length (some (-1)) = us.length - 1 := by
    show (if (-1 : Int) < 0 then ((-1 : Int) + (us.length : Int)).toNat else min (-1 : Int).toNat us.length) = _
    rw [if_pos (by decide)]
    omega
  rw [e, HT.sIx_none, List.drop_zero, Nat.sub_zero]
def Wd (o : Option Str) : Prop := o = none ∨ o = some "bad count" ∨ o = some "bad pace" ∨ o = some "not rising" ∨ o = some "bad way" ∨ o = some "bad place"
theorem pW_wd (zs : List Int) : Wd (pW zs) := by
  unfold pW pcW
  split
  · rename_i wd h
    split at h
    · cases h; exact .inr (.inl rfl)
    · split at h
      · cases h
      · cases h; exact .inr (.inr (.inl rfl))
  · split
    · exact .inl rfl
    · exact .inr (.inr (.inr (.inl rfl)))
theorem Wd.none {o : Option Str} (h : Wd o) : o.getD "" = "" ↔ o = none := by
  rcases h with rfl | rfl | rfl | rfl | rfl | rfl <;> constructor <;> intro h <;> first | rfl | exact absurd h (by decide) | cases h
/-- the refusal without the places -/
def sh1 (qs : List Am) (ns : List Int) : Option Str := if wayB qs = true then pW ns else some "bad way"
def sh2 (qs : List Am) (ns : List Int) (k : Nat) : Option Str := if wayB qs = true ∧ k ≠ ns.length then some "bad count" else sh1 qs ns
theorem sh1_wd (qs : List Am) (ns : List Int) : Wd (sh1 qs ns) := by
  unfold sh1
  split
  · exact pW_wd ns
  · exact .inr (.inr (.inr (.inr (.inl rfl))))
theorem sh2_wd (qs : List Am) (ns : List Int) (k : Nat) : Wd (sh2 qs ns k) := by
  unfold sh2
  split
  · exact .inr (.inl rfl)
  · exact sh1_wd qs ns
theorem sh2_none {qs : List Am} {ns : List Int} {k : Nat} (h : sh2 qs ns k = none) : wayB qs = true ∧ k = ns.length ∧ pW ns = none := by
  unfold sh2 sh1 at h
  by_cases hw : wayB qs = true
  · by_cases hk : k = ns.length
    · rw [if_neg (fun c => c.2 hk), if_pos hw] at h
      exact ⟨hw, hk, h⟩
    · rw [if_pos ⟨hw, hk⟩] at h
      cases h
  · rw [if_neg (fun c => hw c.1), if_neg hw] at h
    cases h
theorem shW_eq (qs : List Am) (ns : List Int) (xs : List Rat) : shW qs ns xs = (if sh2 qs ns xs.length = none ∧ xs.getD 0 0 ≠ 0 then (some ("bad place" : Str) : Option Str) else sh2 qs ns xs.length) := by
  by_cases hw : wayB qs = true
  · by_cases hk : xs.length = ns.length
    · have e2 : sh2 qs ns xs.length = pW ns := by
        unfold sh2 sh1
        rw [if_neg (fun c => c.2 hk), if_pos hw]
      rw [e2]
      unfold shW
      rw [if_pos hw, if_pos hk]
      cases hp : pW ns with
      | some wd => simp
      | none => by_cases h0 : xs.getD 0 0 = 0 <;> simp [h0]
    · have e2 : sh2 qs ns xs.length = some ("bad count" : Str) := by
        unfold sh2
        rw [if_pos ⟨hw, hk⟩]
      rw [e2, if_neg (fun c => by cases c.1)]
      unfold shW
      rw [if_pos hw, if_neg hk]
  · have e2 : sh2 qs ns xs.length = some ("bad way" : Str) := by
      unfold sh2 sh1
      rw [if_neg (fun c => hw c.1), if_neg hw]
    rw [e2, if_neg (fun c => by cases c.1)]
    unfold shW
    rw [if_neg hw]
theorem shW_wd (qs : List Am) (ns : List Int) (xs : List Rat) : Wd (shW qs ns xs) := by
  rw [shW_eq]
  split
  · exact .inr (.inr (.inr (.inr (.inr rfl))))
  · exact sh2_wd _ _ _
/-- the places are fit for whatever comes -/
def PlOk (D L : Int) (ns : List Int) (xs : List Rat) : Prop := xs.length ≤ 20 ∧ (∀ x ∈ xs, Fr D x ∧ 0 ≤ x ∧ x ≤ 50000) ∧ (xs.length = ns.length → pW ns = none → xs.getD 0 0 = 0 → (∀ x ∈ xs, x < (L : Rat)) ∧ xs.Pairwise (· ≤ ·))
theorem wayB_app {qs : List Am} {q : Am} (h : wOk q = false) : wayB (qs ++ [q]) = false := by
  unfold wayB
  rw [List.all_append, List.all_cons, h]
  simp
def sp_LAW (K : PySem.W.Frag) (T : Tb) : Sp := fun vs H Q _ => ∃ (a : Addr) (ns : List Int), vs = [.ref a] ∧ SqL K H a (ns.map V.int) ∧ ns.length ≤ 63 ∧ (∀ z ∈ ns, Builtin.Int.intBits z ≤ 1048576) ∧ Ok T H ∧ ∀ H', Q (.bl true) H'
theorem ok_LAW {f : Addr} {fd : FuncData} {c PT : Addr} (F : FunC K "law" "law" s_LAW f fd c) (hnT : (T.map (·.1)).Nodup) (hPT : (PT, some (("law" : Str) ++ ".<locals>." ++ "<lambda>")) ∈ T) (TB : LamX.TabB base mg c PT) (B : Bn mg) {CP : Addr} (W : Word K mg CP) (F_l_cell : Fn P w K mg base 1 "_law_cell" ["_law_script", "_law_k"] (sp_l_cell K T)) (F_l_draws : Fn P w K mg base 1 "_law_draws" ["_law_cell_here", "_law_parts"] (sp_l_draws K T)) (F_l_split : Fn P w K mg base 1 "_law_split" ["_law_cell_here", "_law_many_here"] (sp_l_split K T)) (F_l_many : Fn P w K mg base 1 "_law_many" ["_law_script", "_law_few"] (sp_l_many K T)) (F_l_same : Fn P w K mg base 6 "_law_same" ["_law_found", "_law_due"] (sp_l_same K T)) (F_l_amt : Fn P w K mg base 2 "_law_amt" ["_law_num", "_law_den"] (sp_l_amt K T)) (F_l_sub : Fn P w K mg base 3 "_law_sub" ["_law_one", "_law_other"] (sp_l_sub K T)) (F_l_by : Fn P w K mg base 3 "_law_by" ["_law_one", "_law_number"] (sp_l_by K T)) (F_l_less : Fn P w K mg base 1 "_law_less" ["_law_one", "_law_other"] (sp_l_less K T)) (F_l_rising_of : Fn P w K mg base 2 "_law_rising_of" ["_law_cell_here"] (sp_l_rising_of K T)) (F_l_way : Fn P w K mg base 2 "_law_way" ["_law_cell_here"] (sp_l_way K T)) (F_l_labour : Fn P w K mg base 1 "_law_labour" ["_law_way_here"] (sp_l_labour K T)) (F_l_way_ok : Fn P w K mg base 1 "_law_way_ok" ["_law_way_here"] (sp_l_way_ok K T)) (F_l_spoilt_paces : Fn P w K mg base 2 "_law_spoilt_paces" ["_law_cell_here", "_law_paces"] (sp_l_spoilt_paces K T)) (F_l_paces_word : Fn P w K mg base 1 "_law_paces_word" ["_law_paces"] (sp_l_paces_word K T)) (F_p_shares : Fx P w K mg base 7 "shares" ["way", "paces", "places"] (sp_p_shares K T CP)) (F_l_spots : Fn P w K mg base 3 "_law_spots" ["_law_cell_here", "_law_many_here", "_law_whole"] (sp_l_spots K T)) : FnOk P w K mg base CX0 12 f fd ["_law_script"] (sp_LAW K T) := by
  refine F.ok sc_LAW (fun vs H Q E h => ?_) (fun A outer s H vs Q E hr h => ?_)
  · obtain ⟨a, ns, rfl, _⟩ := h
    rfl
  · obtain ⟨a, script, rfl, hS, hlen, hbits, hok, q⟩ := h
    refine ⟨_, (pss_cons (ps_for PassesOwn.never rfl (pi_range1 (by rfl) B.range_ (pa_cons (pe_fn F_l_many (hr.mono (by decide)) (pa_cons (pv 0) (pa_cons pe_int pa_nil))) pa_nil)) (pg_name (i := 1) sc_LAW.nd rfl (.inl rfl))
      (pss_cons (ps_asg (pe_fn F_l_split (hr.mono (by decide)) (pa_cons (pe_fn F_l_cell (hr.mono (by decide)) (pa_cons (pv 0) (pa_cons (pv 1) pa_nil))) (pa_cons pe_int pa_nil))) (pg_unl rfl (pgs_cons (pg_name (i := 2) sc_LAW.nd rfl (.inl rfl)) (pgs_cons (pg_name (i := 3) sc_LAW.nd rfl (.inl rfl)) (pgs_cons (pg_name (i := 4) sc_LAW.nd rfl (.inl rfl)) (pgs_cons (pg_name (i := 5) sc_LAW.nd rfl (.inl rfl)) (pgs_cons (pg_name (i := 6) sc_LAW.nd rfl (.inl rfl)) pgs_nil)))))))
      (pss_cons (ps_set (i := 7) sc_LAW.nd rfl (.inl rfl) (pe_fn F_l_way (hr.mono (by decide)) (pa_cons (pv 2) pa_nil)))
      (pss_cons (ps_set (i := 8) sc_LAW.nd rfl (.inr rfl) (pe_fn F_l_spoilt_paces (hr.mono (by decide)) (pa_cons (pv 4) (pa_cons (pe_fn F_l_rising_of (hr.mono (by decide)) (pa_cons (pv 3) pa_nil)) pa_nil))))
      (pss_cons (ps_set (i := 9) sc_LAW.nd rfl (.inr rfl) (pe_slice sl_list (pe_fn F_l_spots (hr.mono (by decide)) (pa_cons (pv 5) (pa_cons (pe_callB (call_max2 rfl) (by rfl) B.max_ (by decide +kernel) (pa_cons pe_int (pa_cons (pe_callB call_len_seq (by rfl) B.len_ (by decide +kernel) (pa_cons (pv 8) pa_nil)) pa_nil))) (pa_cons (pe_fn F_l_labour (hr.mono (by decide)) (pa_cons (pv 7) pa_nil)) pa_nil)))) po_none (po_some pe_int)))
      (pss_cons (ps_asg (pe_fn F_l_draws (hr.mono (by decide)) (pa_cons (pv 6) (pa_cons (pe_lst (pa_cons pe_int (pa_cons pe_int pa_nil))) pa_nil))) (pg_unl rfl (pgs_cons (pg_name (i := 10) sc_LAW.nd rfl (.inl rfl)) (pgs_cons (pg_name (i := 11) sc_LAW.nd rfl (.inl rfl)) pgs_nil))))
      (pss_cons (ps_if (pt_cmpR op_eq (pv 10) pe_int (nomark _)) (pss_one (ps_set (i := 9) sc_LAW.nd rfl (.inr rfl) (pe_ix ix_list (pe_lst (pa_cons (pe_op op_cat (pv 9) (pe_lst (pa_cons (pe_ix ix_list (pv 9) (pe_un un_neg pe_int) (fun _ _ => rfl)) pa_nil))) (pa_cons (pe_slice sl_list (pv 9) po_none (po_some (pe_un un_neg pe_int))) (pa_cons (pe_lst pa_nil) (pa_cons (pe_slice sl_list (pv 9) (po_some pe_int) po_none) (pa_cons (pe_op op_rep (pv 9) pe_int) (pa_cons (pv 9) (pa_cons (pe_lst (pa_cons (pe_tup (pa_cons pe_int (pa_cons pe_int pa_nil))) pa_nil)) pa_nil)))))))) (pv 11) (fun _ _ => rfl)))) pss_nil)
      (pss_cons (ps_if (pt_cmpR op_eq (pv 10) pe_int (nomark _)) (pss_cons (ps_set (i := 12) sc_LAW.nd rfl (.inr rfl) (pe_fn F_l_amt (hr.mono (by decide)) (pa_cons (pe_op op_add pe_int (pv 11)) (pa_cons pe_int pa_nil))))
      (pss_one (ps_set (i := 9) sc_LAW.nd rfl (.inr rfl) (pe_op op_cat (pe_lst (pa_cons (pv 12) pa_nil)) (pe_lc (own := [("_law_one", 2)]) (g := (gName 2)) (tt := tYes) (by rfl) sc_LAW.nd (pi_list (pe_slice sl_list (pv 9) (po_some pe_int) po_none)) (blkOk_by (own := [("_law_one", 2)]) (N := ["_law_script", "_law_k", "_law_one", "_law_two", "_law_three", "_law_four", "_law_five", "_law_way_here", "_law_paces", "_law_places", "_law_kind", "_law_bent", "_law_small", "_law_word_here", "_law_turn", "_law_found", "_law_goals", "_law_due", "_law_handed", "_law_at"]) (sc := (defScope s_LAW)) (by decide +kernel)) (fun _ _ _ _ _ => (pg_name (i := 2) sc_LAW.nd rfl (.inl rfl))) (fun _ _ _ _ _ => pts_nil) (fun _ _ _ _ _ => (pe_ifExp (pt_val (pe_fn F_l_less (hr.mono (by decide)) (pa_cons (pv 2) (pa_cons (pv 12) pa_nil)))) (pv 12) (pv 2)))))))) pss_nil)
      (pss_cons (ps_if (pt_cmpR op_eq (pv 10) pe_int (nomark _)) (pss_one (ps_set (i := 7) sc_LAW.nd rfl (.inl rfl) (pe_ix ix_list (pe_lst (pa_cons (pe_op op_cat (pv 7) (pe_lst (pa_cons (pe_tup (pa_cons pe_int (pa_cons pe_int pa_nil))) pa_nil))) (pa_cons (pe_lst pa_nil) (pa_cons (pe_op op_rep (pv 7) pe_int) (pa_cons (pe_op op_cat (pe_slice sl_list (pv 7) po_none (po_some pe_int)) (pe_lst (pa_cons (pe_tup (pa_cons pe_int (pa_cons pe_int pa_nil))) pa_nil))) (pa_cons (pe_op op_cat (pv 7) (pe_lst (pa_cons (pe_tup (pa_cons pe_int (pa_cons (pe_un un_neg pe_int) pa_nil))) pa_nil))) (pa_cons (pe_lst (pa_cons (pe_tup (pa_cons pe_int (pa_cons pe_int pa_nil))) pa_nil)) (pa_cons (pe_lst (pa_cons (pe_tup (pa_cons pe_int (pa_cons pe_int pa_nil))) pa_nil)) pa_nil)))))))) (pv 11) (fun _ _ => rfl)))) pss_nil)
      (pss_cons (ps_set (i := 13) sc_LAW.nd rfl (.inl rfl) (pe_ifExp (pt_not (pt_val (pe_fn F_l_way_ok (hr.mono (by decide)) (pa_cons (pv 7) pa_nil)))) pe_str (pe_fn F_l_paces_word (hr.mono (by decide)) (pa_cons (pv 8) pa_nil))))
      (pss_cons (ps_if (PW.pt (pw_and (pt_val (pe_fn F_l_way_ok (hr.mono (by decide)) (pa_cons (pv 7) pa_nil))) (pw_and1 (pt_cmpR op_ne (pe_callB call_len_seq (by rfl) B.len_ (by decide +kernel) (pa_cons (pv 8) pa_nil)) (pe_callB call_len_seq (by rfl) B.len_ (by decide +kernel) (pa_cons (pv 9) pa_nil)) (nomark _))))) (pss_one (ps_set (i := 13) sc_LAW.nd rfl (.inl rfl) pe_str)) pss_nil)
      (pss_cons (ps_if (PW.pt (pw_and (pt_cmpR op_eq (pv 13) pe_str (nomark _)) (pw_and1 (pt_cmpR (op_neD hr.units) (pe_ix ix_list (pv 9) pe_int (fun _ _ => rfl)) (pe_tup (pa_cons pe_int (pa_cons pe_int pa_nil))) (nomark _))))) (pss_one (ps_set (i := 13) sc_LAW.nd rfl (.inl rfl) pe_str)) pss_nil)
      (pss_cons (ps_set (i := 18) sc_LAW.nd rfl (.inr rfl) (pe_lst (pa_cons (pe_callTy call_list_of (by rfl) B.list_ (by decide +kernel) (pa_cons (pv 7) pa_nil)) (pa_cons (pe_callTy call_list_of (by rfl) B.list_ (by decide +kernel) (pa_cons (pv 8) pa_nil)) (pa_cons (pe_callTy call_list_of (by rfl) B.list_ (by decide +kernel) (pa_cons (pv 9) pa_nil)) pa_nil)))))
      (pss_cons (ps_for PassesOwn.never rfl (pi_range1 (by rfl) B.range_ (pa_cons pe_int pa_nil)) (pg_name (i := 14) sc_LAW.nd rfl (.inl rfl))
      (pss_cons (ps_set (i := 15) sc_LAW.nd rfl (.inl rfl) (pe_word (k := 9) W hnT (by rfl) TB rfl hPT (hr.mono (by decide)) (LamX.lamS_by (sc := defScope s_LAW) (by decide +kernel)) rfl (fun _ _ _ _ _ => rfl) (fun A outer s H E f c' hr => (pe_fx (E := E) F_p_shares (hr.mono (by decide)) (takes_of rfl rfl rfl rfl) (pa_cons (pe_ix (r := rIxL K) ix_list (pv 18) pe_int (fun _ _ => rfl)) (pa_cons (pe_ix (r := rIxL K) ix_list (pv 18) pe_int (fun _ _ => rfl)) (pa_cons (pe_ix (r := rIxL K) ix_list (pv 18) pe_int (fun _ _ => rfl)) pa_nil)))))))
      (pss_one (ps_if (pt_cmpR op_ne (pv 13) pe_str (nomark _)) (pss_one (ps_if (pt_not (pt_val (pe_fn F_l_same (hr.mono (by decide)) (pa_cons (pv 15) (pa_cons (pe_tup (pa_cons (pv 13) pa_nil)) pa_nil))))) (pss_one (ps_ret pe_bl)) pss_nil)) (pss_cons (ps_set (i := 16) sc_LAW.nd rfl (.inr rfl) (pe_op op_cat (pe_slice sl_list (pv 9) (po_some pe_int) po_none) (pe_lst (pa_cons (pe_tup (pa_cons (pe_fn F_l_labour (hr.mono (by decide)) (pa_cons (pv 7) pa_nil)) (pa_cons pe_int pa_nil))) pa_nil))))
      (pss_cons (ps_setLc (i := 17) (own := [("_law_at", 19)]) (g := (gName 19)) (tt := tYes) (by rfl) sc_LAW.nd rfl rfl (sw_true rfl rfl rfl (by decide +kernel)) (pi_range1 (by rfl) B.range_ (pa_cons (pe_callB call_len_seq (by rfl) B.len_ (by decide +kernel) (pa_cons (pv 8) pa_nil)) pa_nil)) (blkOk_by (own := [("_law_at", 19)]) (N := ["_law_script", "_law_k", "_law_one", "_law_two", "_law_three", "_law_four", "_law_five", "_law_way_here", "_law_paces", "_law_places", "_law_kind", "_law_bent", "_law_small", "_law_word_here", "_law_turn", "_law_found", "_law_goals", "_law_due", "_law_handed", "_law_at"]) (sc := (defScope s_LAW)) (by decide +kernel)) (fun _ _ _ _ _ => (pg_name (i := 19) sc_LAW.nd rfl (.inl rfl))) (fun _ _ _ _ _ => pts_nil) (fun _ _ _ _ _ => (pe_fn F_l_by (hr.mono (by decide)) (pa_cons (pe_fn F_l_sub (hr.mono (by decide)) (pa_cons (pe_ix (r := rIxL K) ix_list (pv 16) (pv 19) (fun _ _ => rfl)) (pa_cons (pe_ix (r := rIxL K) ix_list (pv 9) (pv 19) (fun _ _ => rfl)) pa_nil))) (pa_cons (pe_ix (r := rIxL K) ix_list (pv 8) (pv 19) (fun _ _ => rfl)) pa_nil)))))
      (pss_cons (ps_if (pt_not (pt_val (pe_fn F_l_same (hr.mono (by decide)) (pa_cons (pv 15) (pa_cons (pe_tup (pa_cons pe_str (pa_cons (pv 17) pa_nil))) pa_nil))))) (pss_one (ps_ret pe_bl)) pss_nil)
      (pss_one (ps_expr (pe_bm PySem.F.plainAttrs_list PySem.F.slot_list_append PySem.F.type_list_append mt_append (pe_ix ix_tup (pv 15) pe_int (fun _ _ => rfl)) (pa_cons (pe_tup (pa_cons pe_int (pa_cons pe_int pa_nil))) pa_nil)))))))))))
      (pss_one (ps_if (pt_not (pt_val (pe_fn F_l_same (hr.mono (by decide)) (pa_cons (pv 18) (pa_cons (pe_lst (pa_cons (pv 7) (pa_cons (pv 8) (pa_cons (pv 9) pa_nil)))) pa_nil))))) (pss_one (ps_ret pe_bl)) pss_nil))))))))))))))))
      (pss_one (ps_ret pe_bl))), ?_⟩
    refine ⟨_, rfl, a, script, 3, rfl, hS, by decide, by decide, fun m hm => ?_⟩
    refine ⟨m, rfl, by omega, by omega, for_range (lo := 0) (n := m) (fun i σ H3 => Sm T H H3 ∧ ∃ x1 x2 x3 x4 x5 x6 x7 x8 x9 x10 x11 x12 x13 x14 x15 x16 x17 x18 x19, σ = [some (.ref a), x1, x2, x3, x4, x5, x6, x7, x8, x9, x10, x11, x12, x13, x14, x15, x16, x17, x18, x19]) ⟨Sm.refl, _, _, _, _, _, _, _, _, _, _, _, _, _, _, _, _, _, _, _, rfl⟩ ?_ ?_⟩
    · rintro i σ H1 hi ⟨s1, x1, x2, x3, x4, x5, x6, x7, x8, x9, x10, x11, x12, x13, x14, x15, x16, x17, x18, x19, rfl⟩
      refine ⟨_, rfl, _, rfl, a, script, _, rfl, s1.seq hS, by omega, fun c0 => ⟨c0, 5, rfl, by decide, fun o H2 zs s2 no eo hl => ?_⟩⟩
      obtain ⟨z1, z2, z3, z4, z5, rfl⟩ : ∃ z1 z2 z3 z4 z5, zs = [z1, z2, z3, z4, z5] := match zs, hl with | [z1, z2, z3, z4, z5], _ => ⟨z1, z2, z3, z4, z5, rfl⟩
      refine ⟨o, _, rfl, SqL.of eo, rfl, _, _, rfl, _, _, rfl, _, _, rfl, _, _, rfl, _, _, rfl, rfl, ?_⟩
      refine ⟨_, rfl, z1, rfl, fun pw H3 uw qs0 s3 npw epw dw hw0 => ?_⟩
      refine ⟨_, rfl, _, rfl, z2, rfl, fun pr H4 nr s4 npr epr w => ?_⟩
      refine ⟨z3, pr, nr, rfl, epr, ⟨w.n1, w.n8⟩, fun pa H5 ns s5 npa epa lns => ?_⟩
      have epw5 := (s4.trans s5).k epw
      have dw5 := dpa_same (s4.trans s5) _ _ dw
      have hall : ∀ q ∈ qs0, wOk q = true := fun q hq => by
        have h5 := hw0
        unfold wayB at h5
        rw [Bool.and_eq_true] at h5
        exact List.all_eq_true.mp h5.2 q hq
      have hwb := wayB_b hw0
      have lr0 := labour_rng hwb
      have lr1 : 1 ≤ labourM qs0 := by
        obtain ⟨q1, r1, e⟩ : ∃ q1 r1, qs0 = q1 :: r1 := by
          cases e : qs0 with
          | nil => rw [e] at hwb; simp at hwb
          | cons q1 r1 => exact ⟨q1, r1, rfl⟩
        have hb1 := hwb.2.2 q1 (by rw [e]; exact List.mem_cons_self)
        have hr : 0 ≤ labourM r1 := (sum_bd (c := 81) (by decide) (r1.map fun (q : Int × Int) => q.1 * q.2) (fun z hz => by
          obtain ⟨q, hq, rfl⟩ := List.mem_map.mp hz
          have b := hwb.2.2 q (by rw [e]; exact List.mem_cons_of_mem _ hq)
          exact ⟨Int.mul_nonneg (by omega) (by omega), Int.le_trans (Int.mul_le_mul b.2.1 b.2.2.2 (by omega) (by omega)) (by decide)⟩)).1
        rw [e]
        show 1 ≤ ((q1 :: r1).map fun (q : Int × Int) => q.1 * q.2).sum
        rw [List.map_cons, List.sum_cons]
        have : 1 ≤ q1.1 * q1.2 := Int.le_trans (by decide : (1 : Int) ≤ 1 * 1) (Int.mul_le_mul hb1.1 hb1.2.2.1 (by decide) (by omega))
        unfold labourM at hr
        omega
      have luw : uw.length = qs0.length := by rw [dpa_len dw, List.length_map]
      obtain ⟨m1, hm1, em1⟩ : ∃ m1 : Nat, m1 = max 1 ns.length ∧ (if ((ns.length : Nat) : Int) > 1 then ((ns.length : Nat) : Int) else 1) = (m1 : Int) := ⟨max 1 ns.length, rfl, by split <;> omega⟩
      refine ⟨_, rfl, _, rfl, pa, _, rfl, .inl (SqL.of epa), 1, _, rfl, ?_⟩
      rw [List.length_map, em1]
      refine ⟨_, rfl, pw, uw, qs0, rfl, SqL.of epw5, dw5, hall, ?_⟩
      refine ⟨z4, m1, labourM qs0, rfl, ⟨by omega, by omega⟩, ⟨lr1, by omega⟩, fun p6 H6 us6 xs6 D s6 np6 e6 hu6 l6 hD hx6 hpw6 h06 => ?_⟩
      refine ⟨8, rfl, p6, us6, rfl, SqL.of e6, fun p7 np7 => ?_⟩
      have ec8 : cutV us6 none (some 8) = us6.take 8 := cut_take us6 8 rfl
      rw [ec8]
      have u7 := same_upd (T := T) (o := HO.lst (us6.take 8)) np7
      have hu7 := (hu6.take 8).keep u7
      have e7 : upd H6 p7 (.lst (us6.take 8)) p7 = some (.lst (us6.take 8)) := upd_same
      have s57 := s6.trans u7
      generalize upd H6 p7 (.lst (us6.take 8)) = H7 at *
      have l7 : (xs6.take 8).length = min m1 8 := by rw [List.length_take]; omega
      have h07 : (xs6.take 8).getD 0 0 = 0 := by
        have e : (xs6.take 8).getD 0 0 = xs6.getD 0 0 := by rw [List.getD_eq_getElem?_getD, List.getD_eq_getElem?_getD, List.getElem?_take_of_lt (by omega)]
        exact e.trans h06
      have L486 : ((labourM qs0 : Int) : Rat) ≤ 50000 := Rat.le_trans (Rat.intCast_le_intCast.mpr lr0.2) (by decide +kernel)
      have hx7 : ∀ x ∈ xs6.take 8, Fr (D * 100) x ∧ 0 ≤ x ∧ x < ((labourM qs0 : Int) : Rat) := fun x hx => by
        have h := hx6 x (List.mem_of_mem_take hx)
        exact ⟨h.1.scale (by omega) (by decide), h.2⟩
      have hpw7 : (xs6.take 8).Pairwise (· ≤ ·) := hpw6.sublist (List.take_sublist _ _)
      generalize xs6.take 8 = xs7 at *
      generalize us6.take 8 = us7 at *
      clear hu6 e6 hx6 hpw6 h06 l6 np6 np7 u7 s6
      have epa7 := s57.k epa
      have epw7 := s57.k epw5
      have dw7 := dpa_same s57 _ _ dw5
      have s07 := s1.trans (s2.trans (s3.trans (s4.trans (s5.trans s57))))
      have lu7 := hu7.len
      have hx7b : ∀ x ∈ xs7, Fr (D * 100) x ∧ 0 ≤ x ∧ x ≤ 50000 := fun x hx => ⟨(hx7 x hx).1, (hx7 x hx).2.1, Rat.le_trans (Rat.le_of_lt (hx7 x hx).2.2) L486⟩
      have ok7 : PlOk (D * 100) (labourM qs0) ns xs7 := ⟨by omega, hx7b, fun _ _ _ => ⟨fun x hx => (hx7 x hx).2.2, hpw7⟩⟩
      try dsimp only [gName]
      refine ⟨_, rfl, by show 2 ≤ sizeLine; decide, fun l1 nl1 => ?_⟩
      refine ⟨z5, l1, [9, 7], rfl, SqL.of upd_same, by decide, by decide, fun p8 H8 ds s8 np8 e8 hdr => ?_⟩
      obtain ⟨kind, r1, rfl, h10, h11, hdr⟩ := hdr.cons
      obtain ⟨bent, r2, rfl, h20, h21, hdr⟩ := hdr.cons
      obtain rfl := hdr.nil
      have s78 := (same_upd (T := T) (o := HO.lst [V.int 9, V.int 7]) nl1).trans s8
      have s08 := s07.trans s78
      replace epa7 := s78.k epa7
      replace epw7 := s78.k epw7
      replace dw7 := dpa_same s78 _ _ dw7
      replace e7 := s78.k e7
      replace hu7 := hu7.keep s78
      refine ⟨p8, _, rfl, SqL.of e8, rfl, _, _, rfl, _, _, rfl, rfl, ?_⟩
      clear s07 s78 s8 e8 np8 s57 s5 s4 s3 s2 s1 epw dw epa epw5 dw5
      try dsimp only [gName]
      have hDD : (0 : Int) < D * 100 ∧ (D * 100).natAbs < 2 ^ 3900 := ⟨by omega, Nat.lt_of_le_of_lt (show (D * 100).natAbs ≤ 10000 by omega) (Nat.lt_of_lt_of_le (by decide : 10000 < 2 ^ 14) (Nat.pow_le_pow_right (by decide) (by decide)))⟩
      refine seq_if (fun σ' H9 => Sm T H8 H9 ∧ ∃ (pl : Addr) (us : List V) (xs : List Rat) (x1 x2 x3 x4 x5 x6 x12 x13 x14 x15 x16 x17 x18 x19 : Option V), σ' = [some (.ref a), x1, x2, x3, x4, x5, x6, some (.ref pw), some (.ref pa), some (.ref pl), some (.int kind), some (.int bent), x12, x13, x14, x15, x16, x17, x18, x19] ∧ H9 pl = some (.lst us) ∧ AmL K H9 us xs ∧ PlOk (D * 100) (labourM qs0) ns xs ∧ 1 ≤ 1) (fun σ' H9 p => ?_) (fun k => ?_)
      rotate_left
      · refine ⟨_, rfl, rfl, _, rfl, ite2 (fun e => ?_) (fun e => k _ _ ⟨Sm.refl, p7, us7, xs7, _, _, _, _, _, _, _, _, _, _, _, _, _, _, rfl, e7, hu7, ok7, by decide⟩)⟩
        obtain ⟨bl, gl, ql⟩ := hu7.at (i := xs7.length - 1) (by omega)
        refine ⟨_, rfl, _, rfl, 1, rfl, p7, us7, _, .ref bl, rfl, rfl, SqL.of e7, at_neg1 (by omega) (by rw [lu7]; exact gl), by show 1 ≤ sizeLine; decide, fun l2 nl2 => ?_⟩
        have v1 := same_upd (T := T) (o := .lst [.ref bl]) nl2
        refine ⟨p7, l2, _, _, rfl, rfl, v1.k e7, upd_same, sz (by show _ + 1 ≤ _; omega), fun o0 no0 => ?_⟩
        have v2 := same_upd (T := T) (o := .lst (us7 ++ [.ref bl])) no0
        refine ⟨_, rfl, 1, rfl, _, rfl, p7, us7, rfl, SqL.of ((v1.trans v2).k e7), fun o1 no1 => ?_⟩
        have v3 := same_upd (T := T) (o := .lst (cutV us7 none (some (-1)))) no1
        refine ⟨by show 0 ≤ sizeLine; decide, fun o2 no2 => ?_⟩
        have v4 := same_upd (T := T) (o := .lst []) no2
        refine ⟨_, rfl, 1, rfl, p7, us7, rfl, SqL.of ((v1.trans (v2.trans (v3.trans v4))).k e7), fun o3 no3 => ?_⟩
        have v5 := same_upd (T := T) (o := .lst (cutV us7 (some 1) none)) no3
        refine ⟨_, rfl, p7, 2, us7, rfl, rfl, (v1.trans (v2.trans (v3.trans (v4.trans v5)))).k e7, by decide, by decide, sz (by show us7.length * 2 ≤ _; omega), fun o4 no4 => ?_⟩
        have v6 := same_upd (T := T) (o := .lst (List.replicate (2 : Int).toNat us7).flatten) no4
        refine ⟨_, rfl, by show 2 ≤ sizeLine; decide, fun t6 nt6 => ⟨by show 1 ≤ sizeLine; decide, fun o6 no6 => ?_⟩⟩
        have v7 := same_upd (T := T) (o := .tup [.int 0, .int 1]) nt6
        have v8 := same_upd (T := T) (o := .lst [.ref t6]) no6
        refine ⟨by show 7 ≤ sizeLine; decide, fun L nL => ?_⟩
        have v9 := same_upd (T := T) (o := .lst [.ref o0, .ref o1, .ref o2, .ref o3, .ref o4, .ref p7, .ref o6]) nL
        have w6 := v7.trans (v8.trans v9)
        have w5 := v6.trans w6
        have w3 := v4.trans (v5.trans w5)
        have wA := v1.trans (v2.trans (v3.trans w3))
        have huF := hu7.keep wA
        have qlF := same_tup wA ql
        have ml := getD_mem (d := (0 : Rat)) (show xs7.length - 1 < xs7.length by omega)
        rcases (by omega : bent = 0 ∨ bent = 1 ∨ bent = 2 ∨ bent = 3 ∨ bent = 4 ∨ bent = 5 ∨ bent = 6) with rfl | rfl | rfl | rfl | rfl | rfl | rfl
        · refine ⟨_, rfl, L, _, _, _, rfl, rfl, SqL.of upd_same, atI_nat (j := 0) rfl, k _ _ ⟨wA, o0, _, xs7 ++ [xs7.getD (xs7.length - 1) 0], _, _, _, _, _, _, _, _, _, _, _, _, _, _, rfl, (v3.trans w3).k upd_same, amL_snoc huF qlF, ⟨by rw [List.length_append]; show _ + 1 ≤ 20; omega, fun x hx => ?_, fun _ _ _ => ⟨fun x hx => ?_, ?_⟩⟩, by decide⟩⟩
          · rcases List.mem_append.mp hx with h | h
            · exact hx7b x h
            · rw [List.mem_singleton.mp h]; exact hx7b _ ml
          · rcases List.mem_append.mp hx with h | h
            · exact (hx7 x h).2.2
            · rw [List.mem_singleton.mp h]; exact (hx7 _ ml).2.2
          · rw [List.pairwise_append]
            refine ⟨hpw7, List.pairwise_singleton _ _, fun x hx y hy => ?_⟩
            rw [List.mem_singleton.mp hy]
            obtain ⟨j, hj, rfl⟩ := List.getElem_of_mem hx
            rw [getD_lt (show xs7.length - 1 < xs7.length by omega)]
            by_cases c : j = xs7.length - 1
            · subst c; exact Rat.le_refl
            · exact List.pairwise_iff_getElem.mp hpw7 j (xs7.length - 1) hj (by omega) (by omega)
        · refine ⟨_, rfl, L, _, _, _, rfl, rfl, SqL.of upd_same, atI_nat (j := 1) rfl, k _ _ ⟨wA, o1, us7.take (us7.length - 1), xs7.take (us7.length - 1), _, _, _, _, _, _, _, _, _, _, _, _, _, _, rfl, ?_, huF.take _, ⟨by rw [List.length_take]; omega, fun x hx => hx7b x (List.mem_of_mem_take hx), fun _ _ _ => ⟨fun x hx => (hx7 x (List.mem_of_mem_take hx)).2.2, hpw7.sublist (List.take_sublist _ _)⟩⟩, by decide⟩⟩
          rw [← cut_neg1 (by omega)]
          exact w3.k upd_same
        · exact ⟨_, rfl, L, _, _, _, rfl, rfl, SqL.of upd_same, atI_nat (j := 2) rfl, k _ _ ⟨wA, o2, [], [], _, _, _, _, _, _, _, _, _, _, _, _, _, _, rfl, (v5.trans w5).k upd_same, .nil, ⟨by decide, (fun _ h => nomatch h), fun _ _ _ => ⟨(fun _ h => nomatch h), List.Pairwise.nil⟩⟩, by decide⟩⟩
        · refine ⟨_, rfl, L, _, _, _, rfl, rfl, SqL.of upd_same, atI_nat (j := 3) rfl, k _ _ ⟨wA, o3, us7.drop 1, xs7.drop 1, _, _, _, _, _, _, _, _, _, _, _, _, _, _, rfl, ?_, huF.drop _, ⟨by rw [List.length_drop]; omega, fun x hx => hx7b x (List.mem_of_mem_drop hx), fun _ _ _ => ⟨fun x hx => (hx7 x (List.mem_of_mem_drop hx)).2.2, hpw7.sublist (List.drop_sublist _ _)⟩⟩, by decide⟩⟩
          have ec : cutV us7 (some 1) none = us7.drop 1 := cut_drop _ 1 rfl
          rw [← ec]
          exact w5.k upd_same
        · refine ⟨_, rfl, L, _, _, _, rfl, rfl, SqL.of upd_same, atI_nat (j := 4) rfl, k _ _ ⟨wA, o4, _, (List.replicate 2 xs7).flatten, _, _, _, _, _, _, _, _, _, _, _, _, _, _, rfl, w6.k upd_same, ?_, ⟨by rw [len_rep]; omega, fun x hx => ?_, fun h1 h2 _ => ?_⟩, by decide⟩⟩
          · have := dpa_rep huF 2
            unfold AmL
            rw [List.map_flatten, List.map_replicate]
            exact this
          · obtain ⟨l, hl, hx⟩ := List.mem_flatten.mp hx
            rw [(List.mem_replicate.mp hl).2] at hx
            exact hx7b x hx
          · rw [len_rep] at h1
            have w := pW_ris.mp h2
            have := w.n1
            have := w.n8
            omega
        · exact ⟨_, rfl, L, _, _, _, rfl, rfl, SqL.of upd_same, atI_nat (j := 5) rfl, k _ _ ⟨wA, p7, us7, xs7, _, _, _, _, _, _, _, _, _, _, _, _, _, _, rfl, wA.k e7, huF, ok7, by decide⟩⟩
        · refine ⟨_, rfl, L, _, _, _, rfl, rfl, SqL.of upd_same, atI_nat (j := 6) rfl, k _ _ ⟨wA, o6, [.ref t6], [0], _, _, _, _, _, _, _, _, _, _, _, _, _, _, rfl, v9.k upd_same, .cons (amD_dp (by rw [am_zero]; exact SqT.of ((v8.trans v9).k upd_same))) .nil, ⟨by decide, fun x hx => ?_, fun _ _ _ => ⟨fun x hx => ?_, List.pairwise_singleton _ _⟩⟩, by decide⟩⟩
          · rw [List.mem_singleton.mp hx]
            exact ⟨Fr.zero (by omega), by decide, by decide⟩
          · rw [List.mem_singleton.mp hx]
            exact cp (by omega)
      clear hu7 e7 hx7 hx7b hpw7 h07 ok7 l7 lu7
      obtain ⟨s9, pl, us, xs, x1, x2, x3, x4, x5, x6, x12, x13, x14, x15, x16, x17, x18, x19, rfl, epl, hu, okx, -⟩ := p
      have s09 := s08.trans s9
      replace epa7 := s9.k epa7
      replace epw7 := s9.k epw7
      replace dw7 := dpa_same s9 _ _ dw7
      clear s08 s9
      have lu := hu.len
      have lx := okx.1
      refine seq_if (fun σ' H10 => Sm T H9 H10 ∧ ∃ (pl : Addr) (us : List V) (xs : List Rat) (x1 x2 x3 x4 x5 x6 x12 x13 x14 x15 x16 x17 x18 x19 : Option V), σ' = [some (.ref a), x1, x2, x3, x4, x5, x6, some (.ref pw), some (.ref pa), some (.ref pl), some (.int kind), some (.int bent), x12, x13, x14, x15, x16, x17, x18, x19] ∧ H10 pl = some (.lst us) ∧ AmL K H10 us xs ∧ PlOk (D * 100) (labourM qs0) ns xs ∧ 1 ≤ 1) (fun σ' H10 p => ?_) (fun k => ?_)
      rotate_left
      · refine ⟨_, rfl, rfl, _, rfl, ite2 (fun e => ?_) (fun e => k _ _ ⟨Sm.refl, pl, us, xs, _, _, _, _, _, _, _, _, _, _, _, _, _, _, rfl, epl, hu, okx, by decide⟩)⟩
        refine ⟨_, rfl, _, _, rfl, rfl, 1 + bent, 100, rfl, by decide, Nat.lt_of_lt_of_le (by decide : (100 : Int).natAbs < 2 ^ 7) (Nat.pow_le_pow_right (by decide) (by decide)), fun pS HS sS nS eS => ?_⟩
        rw [amt_am (by decide)] at eS
        generalize hsm : ((1 + bent : Int) : Rat) / ((100 : Int) : Rat) = sm at *
        have c0 : (0 : Rat) < ((1 + bent : Int) : Rat) := cp (by omega)
        have sm1 : sm * ((100 : Int) : Rat) = ((1 + bent : Int) : Rat) := by rw [← hsm, Rat.div_mul_cancel (cn (by decide))]
        have sm0 : 0 < sm := by
          have h100 : ((100 : Int) : Rat) = 100 := rfl
          rw [h100] at sm1
          grind
        have smF : Fr (D * 100) sm := by rw [← hsm]; exact Fr.of (k := D) (by decide) (by omega) (Int.mul_comm _ _)
        have smL : sm ≤ 50000 := by
          have h7 : ((1 + bent : Int) : Rat) ≤ ((7 : Int) : Rat) := Rat.intCast_le_intCast.mpr (by omega)
          have h100 : ((100 : Int) : Rat) = 100 := rfl
          have h7' : ((7 : Int) : Rat) = 7 := rfl
          rw [h100] at sm1
          rw [h7'] at h7
          grind
        have bS : Bd 4000 (am sm) := bdL hDD.1 hDD.2 smF (Rat.le_of_lt sm0) (Rat.le_trans smL (by decide))
        refine ⟨_, rfl, by show 1 ≤ sizeLine; decide, fun l1 nl1 => ?_⟩
        have v1 := same_upd (T := T) (o := .lst [.ref pS]) nl1
        refine ⟨_, rfl, 1, rfl, pl, us, rfl, SqL.of ((sS.trans v1).k epl), fun l2 nl2 => ?_⟩
        have ec : cutV us (some 1) none = us.drop 1 := cut_drop _ 1 rfl
        rw [ec]
        have v2 := same_upd (T := T) (o := .lst (us.drop 1)) nl2
        have sV := sS.trans (v1.trans v2)
        have huD := (hu.drop 1).keep sV
        have e2 : upd (upd HS l1 (.lst [.ref pS])) l2 (.lst (us.drop 1)) l2 = some (.lst (us.drop 1)) := upd_same
        have e1 : upd (upd HS l1 (.lst [.ref pS])) l2 (.lst (us.drop 1)) l1 = some (.lst [.ref pS]) := v2.k upd_same
        have qS : SqT K (upd (upd HS l1 (.lst [.ref pS])) l2 (.lst (us.drop 1))) pS (tv (am sm)) := SqT.of ((v1.trans v2).k eS)
        generalize upd (upd HS l1 (.lst [.ref pS])) l2 (.lst (us.drop 1)) = HV at *
        have ld : (us.drop 1).length = (xs.drop 1).length := huD.len
        have ld2 : (xs.drop 1).length ≤ 19 := by rw [List.length_drop]; omega
        have okd : ∀ x ∈ xs.drop 1, Fr (D * 100) x ∧ 0 ≤ x ∧ x ≤ 50000 := fun x hx => okx.2.1 x (List.mem_of_mem_drop hx)
        generalize xs.drop 1 = ys at *
        generalize us.drop 1 = vs0 at *
        refine ⟨l2, rfl, ⟨_, SqL.of e2⟩, fun D0 hD0 => lc_list (K := K) (a := l2) (xs := vs0) (Qd := _) (fun i H' => Sm T HV H' ∧ ∃ vs, H' D0 = some (.lst vs) ∧ AmL K H' vs ((List.range i).map fun j => if ys.getD j 0 < sm then sm else ys.getD j 0)) ⟨same_upd hD0, [], upd_same, .nil⟩ (fun i H' _ ⟨sm', _⟩ => SqL.of (sm'.k e2)) ?_ ?_⟩
        · rintro j v H' hi ⟨sm', vs, eD, hv⟩
          have hil : j < ys.length := by rw [← ld]; exact (List.getElem?_eq_some_iff.mp hi).1
          obtain ⟨b1, g1, q1⟩ := huD.at hil
          rw [hi] at g1
          cases g1
          have my := okd _ (getD_mem (d := (0 : Rat)) hil)
          have lv : vs.length = j := by rw [hv.len, List.length_map, List.length_range]
          refine ⟨rfl, tyes_i ?_⟩
          refine ⟨_, rfl, _, rfl, b1, pS, _, _, rfl, same_tup sm' q1, same_tup sm' qS, ⟨bdL hDD.1 hDD.2 my.1 my.2.1 (Rat.le_trans my.2.2 (by decide)), bS⟩, _, rfl, ?_⟩
          rw [below_am]
          by_cases hlt : ys.getD j 0 < sm
          · rw [decide_eq_true hlt]
            refine iteT ⟨_, rfl, _, eD, szl (by omega), same_mut sm' hD0 eD, _, upd_same, ?_⟩
            rw [take_range, if_pos hlt]
            exact hv.push eD (same_tup sm' qS)
          · rw [decide_eq_false hlt]
            refine iteF ⟨_, rfl, _, eD, szl (by omega), same_mut sm' hD0 eD, _, upd_same, ?_⟩
            rw [take_range, if_neg hlt]
            exact hv.push eD (same_tup sm' q1)
        · rintro H' ⟨sm', vs, eD, hv⟩
          have lv : vs.length = ys.length := by rw [hv.len, List.length_map, List.length_range, ld]
          refine ⟨l1, D0, _, _, rfl, rfl, sm'.k e1, eD, sz (by show 1 + _ ≤ _; omega), fun o no => ?_⟩
          have v3 := same_upd (T := T) (o := .lst ([.ref pS] ++ vs)) no
          refine k _ _ ⟨sV.trans (sm'.trans v3), o, _, sm :: _, _, _, _, _, _, _, _, _, _, _, _, _, _, _, rfl, upd_same, .cons (amD_dp (same_tup (sm'.trans v3) qS)) (hv.keep v3), ⟨?_, fun x hx => ?_, fun _ _ h => absurd h (Rat.ne_of_gt sm0)⟩, by decide⟩
          · rw [List.length_cons, List.length_map, List.length_range, ld]
            omega
          · rcases List.mem_cons.mp hx with h | h
            · rw [h]; exact ⟨smF, Rat.le_of_lt sm0, smL⟩
            · obtain ⟨j, hj, rfl⟩ := List.mem_map.mp h
              have hj := List.mem_range.mp hj
              rw [ld] at hj
              split
              · exact ⟨smF, Rat.le_of_lt sm0, smL⟩
              · exact okd _ (getD_mem hj)
      clear hu epl okx lx lu
      obtain ⟨s10, pl, us, xs, x1, x2, x3, x4, x5, x6, x12, x13, x14, x15, x16, x17, x18, x19, rfl, epl, hu, okx, -⟩ := p
      have s010 := s09.trans s10
      replace epa7 := s10.k epa7
      replace epw7 := s10.k epw7
      replace dw7 := dpa_same s10 _ _ dw7
      clear s09 s10
      have lu := hu.len
      have lx := okx.1
      refine seq_if (fun σ' H11 => Sm T H10 H11 ∧ ∃ (pv : Addr) (uv : List V) (qs : List Am) (x1 x2 x3 x4 x5 x6 x12 x13 x14 x15 x16 x17 x18 x19 : Option V), σ' = [some (.ref a), x1, x2, x3, x4, x5, x6, some (.ref pv), some (.ref pa), some (.ref pl), some (.int kind), some (.int bent), x12, x13, x14, x15, x16, x17, x18, x19] ∧ H11 pv = some (.lst uv) ∧ DpAll K H11 uv (qs.map amD) ∧ qs.length ≤ 60 ∧ (wayB qs = true → qs = qs0)) (fun σ' H11 p => ?_) (fun k => ?_)
      rotate_left
      · refine ⟨_, rfl, rfl, _, rfl, ite2 (fun e => ?_) (fun e => k _ _ ⟨Sm.refl, pw, uw, qs0, _, _, _, _, _, _, _, _, _, _, _, _, _, _, rfl, epw7, dw7, by omega, fun _ => rfl⟩)⟩
        refine ⟨_, rfl, by show 2 ≤ sizeLine; decide, fun t0 nt0 => ⟨by show 1 ≤ sizeLine; decide, fun l0 nl0 => ?_⟩⟩
        have v1 := same_upd (T := T) (o := .tup [.int 0, .int 1]) nt0
        have v2 := same_upd (T := T) (o := .lst [.ref t0]) nl0
        have y2 := v1.trans v2
        refine ⟨pw, l0, _, _, rfl, rfl, y2.k epw7, upd_same, sz (by show _ + 1 ≤ _; omega), fun o0 no0 => ?_⟩
        have v3 := same_upd (T := T) (o := .lst (uw ++ [.ref t0])) no0
        refine ⟨by show 0 ≤ sizeLine; decide, fun o1 no1 => ?_⟩
        have v4 := same_upd (T := T) (o := .lst []) no1
        have y4 := y2.trans (v3.trans v4)
        refine ⟨_, rfl, pw, 7, uw, rfl, rfl, y4.k epw7, by decide, by decide, sz (by show uw.length * 7 ≤ _; omega), fun o2 no2 => ?_⟩
        have v5 := same_upd (T := T) (o := .lst (List.replicate (7 : Int).toNat uw).flatten) no2
        have y5 := y4.trans v5
        refine ⟨_, rfl, 1, rfl, pw, uw, rfl, SqL.of (y5.k epw7), fun c3 nc3 => ?_⟩
        have ec : cutV uw none (some 1) = uw.take 1 := cut_take _ 1 rfl
        rw [ec]
        have v6 := same_upd (T := T) (o := .lst (uw.take 1)) nc3
        refine ⟨by show 2 ≤ sizeLine; decide, fun t3 nt3 => ⟨by show 1 ≤ sizeLine; decide, fun l3 nl3 => ?_⟩⟩
        have v7 := same_upd (T := T) (o := .tup [.int 10, .int 1]) nt3
        have v8 := same_upd (T := T) (o := .lst [.ref t3]) nl3
        refine ⟨c3, l3, _, _, rfl, rfl, (v7.trans v8).k upd_same, upd_same, sz (by rw [List.length_take]; show _ + 1 ≤ _; omega), fun o3 no3 => ?_⟩
        have v9 := same_upd (T := T) (o := .lst (uw.take 1 ++ [.ref t3])) no3
        have y9 := y5.trans (v6.trans (v7.trans (v8.trans v9)))
        refine ⟨_, rfl, 1, rfl, by show 2 ≤ sizeLine; decide, fun t4 nt4 => ⟨by show 1 ≤ sizeLine; decide, fun l4 nl4 => ?_⟩⟩
        have v10 := same_upd (T := T) (o := .tup [.int 1, .int (-1)]) nt4
        have v11 := same_upd (T := T) (o := .lst [.ref t4]) nl4
        have y11 := y9.trans (v10.trans v11)
        refine ⟨pw, l4, _, _, rfl, rfl, y11.k epw7, upd_same, sz (by show _ + 1 ≤ _; omega), fun o4 no4 => ?_⟩
        have v12 := same_upd (T := T) (o := .lst (uw ++ [.ref t4])) no4
        refine ⟨by show 2 ≤ sizeLine; decide, fun t5 nt5 => ⟨by show 1 ≤ sizeLine; decide, fun o5 no5 => ?_⟩⟩
        have v13 := same_upd (T := T) (o := .tup [.int 1, .int 10]) nt5
        have v14 := same_upd (T := T) (o := .lst [.ref t5]) no5
        refine ⟨by show 2 ≤ sizeLine; decide, fun t6 nt6 => ⟨by show 1 ≤ sizeLine; decide, fun o6 no6 => ?_⟩⟩
        have v15 := same_upd (T := T) (o := .tup [.int 0, .int 0]) nt6
        have v16 := same_upd (T := T) (o := .lst [.ref t6]) no6
        refine ⟨by show 7 ≤ sizeLine; decide, fun L nL => ?_⟩
        have v17 := same_upd (T := T) (o := .lst [.ref o0, .ref o1, .ref o2, .ref o3, .ref o4, .ref o5, .ref o6]) nL
        have w15 := v16.trans v17
        have w14 := v15.trans w15
        have w12 := v13.trans (v14.trans w14)
        have w11 := v12.trans w12
        have w9 := v10.trans (v11.trans w11)
        have w8 := v9.trans w9
        have w5 := v6.trans (v7.trans (v8.trans w8))
        have w3 := v4.trans (v5.trans w5)
        have wA := v1.trans (v2.trans (v3.trans w3))
        have dF := dpa_same wA _ _ dw7
        have bad : ∀ q : Am, wOk q = false → ∀ q2 : List Am, wayB (q2 ++ [q]) = true → q2 ++ [q] = qs0 := fun q h q2 h2 => by rw [wayB_app h] at h2; cases h2
        have one : ∀ (q : Am) (t : Addr) (Hz : Hp), Hz t = some (.tup [.int q.1, .int q.2]) → DpAll K Hz [.ref t] ([q].map amD) := fun q t Hz h => .cons (tup_dp h) .nil
        rcases (by omega : bent = 0 ∨ bent = 1 ∨ bent = 2 ∨ bent = 3 ∨ bent = 4 ∨ bent = 5 ∨ bent = 6) with rfl | rfl | rfl | rfl | rfl | rfl | rfl
        · refine ⟨_, rfl, L, _, _, _, rfl, rfl, SqL.of upd_same, atI_nat (j := 0) rfl, k _ _ ⟨wA, o0, _, qs0 ++ [(0, 1)], _, _, _, _, _, _, _, _, _, _, _, _, _, _, rfl, w3.k upd_same, ?_, by rw [List.length_append]; show _ + 1 ≤ 60; omega, bad _ rfl _⟩⟩
          rw [List.map_append]
          exact dpa_app dF (one (0, 1) t0 _ ((v2.trans (v3.trans w3)).k upd_same))
        · exact ⟨_, rfl, L, _, _, _, rfl, rfl, SqL.of upd_same, atI_nat (j := 1) rfl, k _ _ ⟨wA, o1, [], [], _, _, _, _, _, _, _, _, _, _, _, _, _, _, rfl, (v5.trans w5).k upd_same, .nil, by decide, fun h => by cases h⟩⟩
        · refine ⟨_, rfl, L, _, _, _, rfl, rfl, SqL.of upd_same, atI_nat (j := 2) rfl, k _ _ ⟨wA, o2, _, (List.replicate 7 qs0).flatten, _, _, _, _, _, _, _, _, _, _, _, _, _, _, rfl, w5.k upd_same, dpa_rep dF 7, by rw [len_rep]; omega, fun h => ?_⟩⟩
          have := wayB_b h
          rw [len_rep] at this
          omega
        · refine ⟨_, rfl, L, _, _, _, rfl, rfl, SqL.of upd_same, atI_nat (j := 3) rfl, k _ _ ⟨wA, o3, _, qs0.take 1 ++ [(10, 1)], _, _, _, _, _, _, _, _, _, _, _, _, _, _, rfl, w9.k upd_same, ?_, by rw [List.length_append, List.length_take]; show _ + 1 ≤ 60; omega, bad _ rfl _⟩⟩
          rw [List.map_append]
          refine dpa_app ?_ (one (10, 1) t3 _ ((v8.trans w8).k upd_same))
          have hh := dpa_take 1 dF
          rw [← List.map_take] at hh
          exact hh
        · refine ⟨_, rfl, L, _, _, _, rfl, rfl, SqL.of upd_same, atI_nat (j := 4) rfl, k _ _ ⟨wA, o4, _, qs0 ++ [(1, -1)], _, _, _, _, _, _, _, _, _, _, _, _, _, _, rfl, w12.k upd_same, ?_, by rw [List.length_append]; show _ + 1 ≤ 60; omega, bad _ rfl _⟩⟩
          rw [List.map_append]
          exact dpa_app dF (one (1, -1) t4 _ ((v11.trans w11).k upd_same))
        · exact ⟨_, rfl, L, _, _, _, rfl, rfl, SqL.of upd_same, atI_nat (j := 5) rfl, k _ _ ⟨wA, o5, _, [(1, 10)], _, _, _, _, _, _, _, _, _, _, _, _, _, _, rfl, w14.k upd_same, one (1, 10) t5 _ ((v14.trans w14).k upd_same), by decide, bad (1, 10) rfl []⟩⟩
        · exact ⟨_, rfl, L, _, _, _, rfl, rfl, SqL.of upd_same, atI_nat (j := 6) rfl, k _ _ ⟨wA, o6, _, [(0, 0)], _, _, _, _, _, _, _, _, _, _, _, _, _, _, rfl, v17.k upd_same, one (0, 0) t6 _ (w15.k upd_same), by decide, bad (0, 0) rfl []⟩⟩
      obtain ⟨s11, pv, uv, qs, x1, x2, x3, x4, x5, x6, x12, x13, x14, x15, x16, x17, x18, x19, rfl, epv, dv, lq, hq0⟩ := p
      have s011 := s010.trans s11
      replace epa7 := s11.k epa7
      replace epl := s11.k epl
      replace hu := hu.keep s11
      clear s010 s11 epw7 dw7
      have luv : uv.length = qs.length := by rw [dpa_len dv, List.length_map]
      try dsimp only [gName]
      refine seq_as (fun σ' H12 => Sm T H11 H12 ∧ ∃ (x1 x2 x3 x4 x5 x6 x12 x14 x15 x16 x17 x18 x19 : Option V), σ' = [some (.ref a), x1, x2, x3, x4, x5, x6, some (.ref pv), some (.ref pa), some (.ref pl), some (.int kind), some (.int bent), x12, some (.str ((sh1 qs ns).getD "")), x14, x15, x16, x17, x18, x19]) (fun σ' H12 p => ?_) (fun k => ?_)
      rotate_left
      · refine ⟨_, rfl, pv, uv, qs, rfl, SqL.of epv, dv, by omega, fun Hy sy => ⟨_, rfl, ?_⟩⟩
        unfold sh1 at k
        cases hw : wayB qs with
        | false =>
          rw [hw, if_neg (by decide)] at k
          exact iteT (k _ _ ⟨sy, _, _, _, _, _, _, _, _, _, _, _, _, _, rfl⟩)
        | true =>
          rw [hw, if_pos rfl] at k
          refine iteF ⟨_, rfl, pa, ns, rfl, SqL.of (sy.k epa7), lns, fun Hz sz' => ?_⟩
          exact k _ _ ⟨sy.trans sz', _, _, _, _, _, _, _, _, _, _, _, _, _, rfl⟩
      obtain ⟨s12, x1, x2, x3, x4, x5, x6, x12, x14, x15, x16, x17, x18, x19, rfl⟩ := p
      have s012 := s011.trans s12
      replace epa7 := s12.k epa7
      replace epl := s12.k epl
      replace hu := hu.keep s12
      replace epv := s12.k epv
      replace dv := dpa_same s12 _ _ dv
      clear s011 s12
      refine seq_if (fun σ' H13 => Sm T H12 H13 ∧ ∃ (x1 x2 x3 x4 x5 x6 x12 x14 x15 x16 x17 x18 x19 : Option V), σ' = [some (.ref a), x1, x2, x3, x4, x5, x6, some (.ref pv), some (.ref pa), some (.ref pl), some (.int kind), some (.int bent), x12, some (.str ((sh2 qs ns xs.length).getD "")), x14, x15, x16, x17, x18, x19]) (fun σ' H13 p => ?_) (fun k => ?_)
      rotate_left
      · refine ⟨_, rfl, pv, uv, qs, rfl, SqL.of epv, dv, by omega, fun Hy sy => ⟨_, rfl, ?_⟩⟩
        unfold sh2 at k
        cases hw : wayB qs with
        | false =>
          rw [if_neg (fun c => by rw [hw] at c; cases c.1)] at k
          exact iteF (k _ _ ⟨sy, _, _, _, _, _, _, _, _, _, _, _, _, _, rfl⟩)
        | true =>
          refine iteT ⟨_, rfl, pa, _, rfl, .inl (SqL.of (sy.k epa7)), _, rfl, pl, _, rfl, .inl (SqL.of (sy.k epl)), rfl, _, rfl, ?_⟩
          rw [lu, List.length_map]
          by_cases hk : xs.length = ns.length
          · rw [decide_eq_true (by rw [hk])]
            rw [if_neg (fun c => c.2 hk)] at k
            exact iteF (k _ _ ⟨sy, _, _, _, _, _, _, _, _, _, _, _, _, _, rfl⟩)
          · rw [decide_eq_false (fun z => hk (by have := V.int.inj z; omega))]
            rw [if_pos ⟨hw, hk⟩] at k
            exact iteT (k _ _ ⟨sy, _, _, _, _, _, _, _, _, _, _, _, _, _, rfl⟩)
      obtain ⟨s13, x1, x2, x3, x4, x5, x6, x12, x14, x15, x16, x17, x18, x19, rfl⟩ := p
      have s013 := s012.trans s13
      replace epa7 := s13.k epa7
      replace epl := s13.k epl
      replace hu := hu.keep s13
      replace epv := s13.k epv
      replace dv := dpa_same s13 _ _ dv
      clear s012 s13
      refine seq_if (fun σ' H14 => Sm T H13 H14 ∧ ∃ (x1 x2 x3 x4 x5 x6 x12 x14 x15 x16 x17 x18 x19 : Option V), σ' = [some (.ref a), x1, x2, x3, x4, x5, x6, some (.ref pv), some (.ref pa), some (.ref pl), some (.int kind), some (.int bent), x12, some (.str ((shW qs ns xs).getD "")), x14, x15, x16, x17, x18, x19]) (fun σ' H14 p => ?_) (fun k => ?_)
      rotate_left
      · rw [shW_eq] at k
        refine ⟨_, rfl, rfl, _, rfl, ite2 (fun e => ?_) (fun e => ?_)⟩
        · have ew : sh2 qs ns xs.length = none := (sh2_wd _ _ _).none.mp (V.str.inj (of_decide_eq_true e))
          obtain ⟨a1, a2, a3⟩ := sh2_none ew
          have w := pW_ris.mp a3
          have n1 := w.n1
          obtain ⟨b0, g0, q0⟩ := hu.at (i := 0) (by omega)
          refine ⟨_, rfl, pl, us, 0, .ref b0, rfl, rfl, SqL.of epl, atI_nat (j := 0) g0, by show 2 ≤ sizeLine; decide, fun t nt => ?_⟩
          have ut := same_upd (T := T) (o := .tup [.int 0, .int 1]) nt
          refine ⟨amD (am (xs.getD 0 0)), amD (0, 1), amD_dp (same_tup ut q0), amD_dp (x := (0, 1)) (SqT.of upd_same), shaped_am _, shaped_am (0, 1), _, rfl, ?_⟩
          rw [eqv_am]
          by_cases h0 : xs.getD 0 0 = 0
          · rw [decide_eq_true (by rw [h0, am_zero])]
            rw [if_neg (fun c => c.2 h0)] at k
            exact iteF (k _ _ ⟨ut, _, _, _, _, _, _, _, _, _, _, _, _, _, rfl⟩)
          · rw [decide_eq_false (fun z => h0 (am_inj (z.trans am_zero.symm)))]
            rw [if_pos ⟨ew, h0⟩] at k
            exact iteT (k _ _ ⟨ut, _, _, _, _, _, _, _, _, _, _, _, _, _, rfl⟩)
        · have ew : sh2 qs ns xs.length ≠ none := fun z => e (decide_eq_true (by rw [z]; rfl))
          rw [if_neg (fun c => ew c.1)] at k
          exact iteF (k _ _ ⟨Sm.refl, _, _, _, _, _, _, _, _, _, _, _, _, _, rfl⟩)
      obtain ⟨s14, x1, x2, x3, x4, x5, x6, x12, x14, x15, x16, x17, x18, x19, rfl⟩ := p
      have s014 := s013.trans s14
      replace epa7 := s14.k epa7
      replace epl := s14.k epl
      replace hu := hu.keep s14
      replace epv := s14.k epv
      replace dv := dpa_same s14 _ _ dv
      clear s013 s14
      have hX := shW_wd qs ns xs
      refine ⟨_, rfl, pv, uv, rfl, .inl (SqL.of epv), fun h1 n1' => ?_⟩
      have u1 := same_upd (T := T) (o := HO.lst uv) n1'
      refine ⟨_, rfl, pa, _, rfl, .inl (SqL.of (u1.k epa7)), fun h2 n2' => ?_⟩
      have u2 := same_upd (T := T) (o := HO.lst (ns.map V.int)) n2'
      refine ⟨_, rfl, pl, us, rfl, .inl (SqL.of ((u1.trans u2).k epl)), fun h3 n3' => ⟨by show 3 ≤ sizeLine; decide, fun hh nh => ?_⟩⟩
      have u3 := same_upd (T := T) (o := HO.lst us) n3'
      have u4 := same_upd (T := T) (o := HO.lst [V.ref h1, V.ref h2, V.ref h3]) nh
      have uA := u1.trans (u2.trans (u3.trans u4))
      have eh1 := (u2.trans (u3.trans u4)).k (b := h1) (o := .lst uv) upd_same
      have eh2 := (u3.trans u4).k (b := h2) (o := .lst (ns.map V.int)) upd_same
      have eh3 := u4.k (b := h3) (o := .lst us) upd_same
      have ehh : upd (upd (upd (upd H14 h1 (.lst uv)) h2 (.lst (ns.map V.int))) h3 (.lst us)) hh (.lst [.ref h1, .ref h2, .ref h3]) hh = some (.lst [.ref h1, .ref h2, .ref h3]) := upd_same
      replace epa7 := uA.k epa7
      replace epl := uA.k epl
      replace hu := hu.keep uA
      replace epv := uA.k epv
      replace dv := dpa_same uA _ _ dv
      have s015 := s014.trans uA
      generalize upd (upd (upd (upd H14 h1 (.lst uv)) h2 (.lst (ns.map V.int))) h3 (.lst us)) hh (.lst [.ref h1, .ref h2, .ref h3]) = H15 at *
      clear uA u1 u2 u3 u4 n1' n2' n3' nh s014
      refine ⟨2, rfl, by decide, by decide, for_range (lo := 0) (n := 2) (fun j σ H' => Sm T H15 H' ∧ ∃ (x1 x2 x3 x4 x5 x6 x12 x14 x15 x16 x17 x19 : Option V), σ = [some (.ref a), x1, x2, x3, x4, x5, x6, some (.ref pv), some (.ref pa), some (.ref pl), some (.int kind), some (.int bent), x12, some (.str ((shW qs ns xs).getD "")), x14, x15, x16, x17, some (.ref hh), x19]) ⟨Sm.refl, _, _, _, _, _, _, _, _, _, _, _, _, rfl⟩ ?_ ?_⟩
      · rintro j σ H16 hj ⟨s16, x1, x2, x3, x4, x5, x6, x12, x14, x15, x16, x17, x19, rfl⟩
        try dsimp only [gName]
        have s016 := s015.trans s16
        refine seq_as (fun σ' H17 => Sm T H16 H17 ∧ ∃ (t : Addr) (x1 x2 x3 x4 x5 x6 x12 x14 x16 x17 x19 : Option V), σ' = [some (.ref a), x1, x2, x3, x4, x5, x6, some (.ref pv), some (.ref pa), some (.ref pl), some (.int kind), some (.int bent), x12, some (.str ((shW qs ns xs).getD "")), x14, some (.ref t), x16, x17, some (.ref hh), x19] ∧ ((shW qs ns xs = none ∧ ∃ (p : Addr) (us' : List V), H17 t = some (.tup [.str "told", .ref p]) ∧ H16 p = none ∧ H17 p = some (.lst us') ∧ AmL K H17 us' ((List.range ns.length).map (shr (labourM qs) ns xs))) ∨ ∃ wd, shW qs ns xs = some wd ∧ H17 t = some (.tup [.str wd]))) (fun σ' H17 p => ?_) (fun k => ?_)
        rotate_left
        · refine ⟨(s016.ok hok) _ hPT, fun Ha sa => ?_⟩
          have sx := s16.trans sa
          refine ⟨_, rfl, hh, _, 0, .ref h1, rfl, rfl, SqL.of (sx.k ehh), atI_nat (j := 0) rfl, _, rfl, hh, _, 1, .ref h2, rfl, rfl, SqL.of (sx.k ehh), atI_nat (j := 1) rfl, _, rfl, hh, _, 2, .ref h3, rfl, rfl, SqL.of (sx.k ehh), atI_nat (j := 2) rfl, ?_⟩
          refine ⟨D * 100, h1, h2, h3, uv, us, qs, ns, xs, rfl, ⟨SqL.of (sx.k eh1), dpa_same sx _ _ dv, by omega⟩, ⟨SqL.of (sx.k eh2), by omega⟩, ⟨SqL.of (sx.k eh3), hu.keep sx, by omega⟩, (s015.trans sx).ok hok, hDD, okx.2.1, fun hn => ?_, fun hn p Hb us' sb np ep hu' => ⟨by show 2 ≤ sizeLine; decide, fun t nt => ?_⟩, fun wd hw cls dd Hc sc rf => ⟨wd, rf, fun t nt => ?_⟩⟩
          · rw [shW_eq] at hn
            by_cases hn2 : sh2 qs ns xs.length = none
            · obtain ⟨a1, a2, a3⟩ := sh2_none hn2
              by_cases h0 : xs.getD 0 0 = 0
              · have := okx.2.2 a2 a3 h0
                rw [hq0 a1]
                exact this
              · rw [if_pos ⟨hn2, h0⟩] at hn
                cases hn
            · rw [if_neg (fun c => hn2 c.1)] at hn
              exact absurd hn hn2
          · have u5 := same_upd (T := T) (o := .tup [.str "told", .ref p]) nt
            exact k _ _ ⟨sa.trans (sb.trans u5), t, _, _, _, _, _, _, _, _, _, _, _, rfl, .inl ⟨hn, p, us', upd_same, sa.free _ np, u5.k ep, hu'.keep u5⟩⟩
          · have u5 := same_upd (T := T) (o := .tup [.str wd]) nt
            exact k _ _ ⟨sa.trans (sc.trans u5), t, _, _, _, _, _, _, _, _, _, _, _, rfl, .inr ⟨wd, hw, upd_same⟩⟩
        obtain ⟨s17, t, x1, x2, x3, x4, x5, x6, x12, x14, x16, x17, x19, rfl, hcase⟩ := p
        have sx := s16.trans s17
        rcases hcase with ⟨hn, p, us', et, np, ep, hu'⟩ | ⟨wd, hw, et⟩
        · refine ⟨_, rfl, rfl, _, rfl, ?_⟩
          have e0 : (shW qs ns xs).getD "" = "" := by rw [hn]; rfl
          rw [e0, decide_eq_true rfl]
          refine iteF ?_
          have hn2 : sh2 qs ns xs.length = none := by
            rw [shW_eq] at hn
            by_cases hn2 : sh2 qs ns xs.length = none
            · exact hn2
            · rw [if_neg (fun c => hn2 c.1)] at hn
              exact absurd hn hn2
          obtain ⟨a1, a2, a3⟩ := sh2_none hn2
          have w := pW_ris.mp a3
          have n8 := w.n8
          have n1 := w.n1
          have hallq : ∀ q ∈ qs, wOk q = true := by rw [hq0 a1]; exact hall
          have hlab : labourM qs = labourM qs0 := by rw [hq0 a1]
          refine ⟨_, rfl, 1, rfl, pl, us, rfl, SqL.of (sx.k epl), fun l1 nl1 => ?_⟩
          have ec : cutV us (some 1) none = us.drop 1 := cut_drop _ 1 rfl
          rw [ec]
          have v1 := same_upd (T := T) (o := .lst (us.drop 1)) nl1
          refine ⟨_, rfl, pv, uv, qs, rfl, SqL.of ((sx.trans v1).k epv), dpa_same (sx.trans v1) _ _ dv, hallq, by show 2 ≤ sizeLine; decide, fun tf ntf => ⟨by show 1 ≤ sizeLine; decide, fun l2 nl2 => ?_⟩⟩
          have v2 := same_upd (T := T) (o := .tup [.int (labourM qs), .int 1]) ntf
          have v3 := same_upd (T := T) (o := .lst [.ref tf]) nl2
          refine ⟨l1, l2, _, _, rfl, rfl, (v2.trans v3).k upd_same, upd_same, sz (by rw [List.length_drop]; show _ + 1 ≤ _; omega), fun pg npg => ?_⟩
          have v4 := same_upd (T := T) (o := .lst (us.drop 1 ++ [.ref tf])) npg
          have sv := v1.trans (v2.trans (v3.trans v4))
          have htf := (v3.trans v4).k (b := tf) (o := .tup [.int (labourM qs), .int 1]) upd_same
          have hE := amL_snoc (r := ((labourM qs : Int) : Rat)) ((hu.drop 1).keep (sx.trans sv)) (by rw [am_int]; exact SqT.of htf)
          have eg : upd (upd (upd (upd H17 l1 (.lst (us.drop 1))) tf (.tup [.int (labourM qs), .int 1])) l2 (.lst [.ref tf])) pg (.lst (us.drop 1 ++ [.ref tf])) pg = some (.lst (us.drop 1 ++ [.ref tf])) := upd_same
          have s018 := sx.trans sv
          generalize upd (upd (upd (upd H17 l1 (.lst (us.drop 1))) tf (.tup [.int (labourM qs), .int 1])) l2 (.lst [.ref tf])) pg (.lst (us.drop 1 ++ [.ref tf])) = H18 at *
          clear htf v1 v2 v3 v4
          have hu18 := hu.keep s018
          have lE : (xs.drop 1 ++ [((labourM qs : Int) : Rat)]).length = ns.length := by rw [List.length_append, List.length_drop]; show _ + 1 = _; omega
          have okE : ∀ x ∈ xs.drop 1 ++ [((labourM qs : Int) : Rat)], Fr (D * 100) x ∧ 0 ≤ x ∧ x ≤ 50000 := fun x hx => by
            rcases List.mem_append.mp hx with h | h
            · exact okx.2.1 x (List.mem_of_mem_drop h)
            · rw [List.mem_singleton.mp h, hlab]
              exact ⟨Fr.int (by omega) _, Rat.intCast_nonneg.mpr (by omega), L486⟩
          refine ⟨_, rfl, pa, _, rfl, .inl (SqL.of (s018.k epa7)), _, rfl, by rw [List.length_map]; omega, by rw [List.length_map]; omega, fun D0 hD0 => lc_range (lo := 0) (n := (ns.map V.int).length) (Qd := _) (fun i H' => Sm T H18 H' ∧ ∃ vs, H' D0 = some (.lst vs) ∧ AmL K H' vs ((List.range i).map (shr (labourM qs) ns xs))) ⟨same_upd hD0, [], upd_same, .nil⟩ ?_ ?_⟩
          · rintro i H' hi ⟨sm', vs, eD, hv⟩
            rw [List.length_map] at hi
            have ez : (0 : Int) + (i : Int) = (i : Int) := by omega
            rw [ez]
            obtain ⟨b1, g1, q1⟩ := hE.at (i := i) (by omega)
            obtain ⟨b2, g2, q2⟩ := hu18.at (i := i) (by omega)
            have g3 := getI (l := ns) (j := i) hi
            have pc := w.pace _ (getD_mem (d := (0 : Int)) hi)
            have m1 := okE _ (getD_mem (d := (0 : Rat)) (show i < (xs.drop 1 ++ [((labourM qs : Int) : Rat)]).length by omega))
            have m2 := okx.2.1 _ (getD_mem (d := (0 : Rat)) (show i < xs.length by omega))
            refine ⟨rfl, tyes_i ?_⟩
            refine ⟨_, rfl, _, rfl, pg, _, _, .ref b1, rfl, rfl, SqL.of (sm'.k eg), at_of (j := i) rfl g1, _, rfl, _, rfl, pl, _, _, .ref b2, rfl, rfl, SqL.of ((s018.trans sm').k epl), at_of (j := i) rfl g2, ?_⟩
            refine ⟨b1, b2, _, _, rfl, same_tup sm' q1, same_tup sm' q2, ⟨bdL hDD.1 hDD.2 m1.1 m1.2.1 (Rat.le_trans m1.2.2 (by decide)), bdL hDD.1 hDD.2 m2.1 m2.2.1 (Rat.le_trans m2.2.2 (by decide))⟩, ⟨am_pos _, am_pos _⟩, fun p4 H7 s7 n4 e4 => ?_⟩
            rw [minus_am] at e4
            refine ⟨_, rfl, _, rfl, pa, _, _, .int (ns.getD i 0), rfl, rfl, SqL.of ((s018.trans (sm'.trans s7)).k epa7), at_map (i := i) rfl g3, ?_⟩
            have fb : Fr (D * 100) ((xs.drop 1 ++ [((labourM qs : Int) : Rat)]).getD i 0 - xs.getD i 0) := m1.1.sub m2.1
            have bdd := fr_bd (D := D * 100) (B := 1000000) (k := 4000) hDD.1 fb (Rat.le_trans (by decide) (sub_ge m1.2.1 m2.2.2)) (Rat.le_trans (sub_le' m1.2.2 m2.2.1) (by decide)) (Nat.lt_of_le_of_lt (show (1000000 * (D * 100)).natAbs ≤ 10000000000 by omega) (Nat.lt_of_lt_of_le (by decide : 10000000000 < 2 ^ 40) (Nat.pow_le_pow_right (by decide) (by decide)))) (Nat.lt_trans hDD.2 (Nat.pow_lt_pow_right (by decide) (by decide)))
            refine ⟨p4, _, ns.getD i 0, rfl, SqT.of e4, bdd.2, ⟨by omega, by omega⟩, am_pos _, fun p5 H8' s8' n5 e5 => ?_⟩
            rw [by_am _ (by omega)] at e5
            have sA := s7.trans s8'
            have eD5 := sA.k eD
            have lv : vs.length = i := by rw [hv.len, List.length_map, List.length_range]
            refine ⟨_, eD5, szl (by omega), same_mut (sm'.trans sA) hD0 eD5, _, upd_same, ?_⟩
            rw [take_range]
            exact (hv.keep sA).push eD5 (SqT.of e5)
          · rintro H19 ⟨sm', vs, eD, hv⟩
            rw [List.length_map] at hv
            have sy := sv.trans sm'
            try dsimp only [gName]
            refine seq_if (fun σ' H20 => Sm T H19 H20 ∧ ∃ (x1 x2 x3 x4 x5 x6 x12 x14 x16 x17 x19 : Option V), σ' = [some (.ref a), x1, x2, x3, x4, x5, x6, some (.ref pv), some (.ref pa), some (.ref pl), some (.int kind), some (.int bent), x12, some (.str ""), x14, some (.ref t), x16, x17, some (.ref hh), x19]) (fun σ' H20 pp => ?_) (fun k => ?_)
            rotate_left
            · refine ⟨_, rfl, _, rfl, by show 2 ≤ sizeLine; decide, fun t2 nt2 => ?_⟩
              have v5 := same_upd (T := T) (o := .tup [.str "told", .ref D0]) nt2
              have sz2 := sy.trans v5
              refine ⟨.ref t, .ref t2, .tuple [.str "told", .list ((((List.range ns.length).map (shr (labourM qs) ns xs)).map am).map amD)], rfl, .tup (SqT.of (sz2.k et)) (.cons (.str _) (.cons ((hu'.keep sz2).dp (SqL.of (sz2.k ep))) .nil)), .tup (SqT.of upd_same) (.cons (.str _) (.cons ((hv.keep v5).dp (SqL.of (v5.k eD))) .nil)), ?_, fun H20 s20 => ⟨_, rfl, iteF (k _ _ ⟨v5.trans s20, _, _, _, _, _, _, _, _, _, _, _, rfl⟩)⟩⟩
              show (true && (true && (depOk 4 (.list ((((List.range ns.length).map (shr (labourM qs) ns xs)).map am).map amD)) && true))) = true
              rw [depOk_amsN (n := 2) (by rw [List.length_map, List.length_map, List.length_range]; omega)]
              rfl
            obtain ⟨s20, x1, x2, x3, x4, x5, x6, x12, x14, x16, x17, x19, rfl⟩ := pp
            have s1720 := sy.trans s20
            have lu' : us'.length ≤ 8 := by rw [hu'.len, List.length_map, List.length_range]; omega
            refine ⟨_, rfl, t, _, 1, .ref p, rfl, rfl, SqT.of (s1720.k et), atI_nat (j := 1) rfl, .inl ⟨rfl, _, SqL.of (s1720.k ep)⟩, by show 2 ≤ sizeLine; decide, fun tz ntz => ?_⟩
            have uz := same_upd (T := T) (o := HO.tup [V.int 0, V.int 1]) ntz
            have ep2 := (s1720.trans uz).k ep
            refine ⟨p, _, _, rfl, rfl, ep2, szl (by omega), ?_⟩
            exact ⟨same_mut (sx.trans (s1720.trans uz)) (s16.free _ np) ep2, _, _, _, _, _, _, _, _, _, _, _, _, rfl⟩
        · refine ⟨_, rfl, rfl, _, rfl, ?_⟩
          have hne : wd ≠ "" := by
            rw [hw] at hX
            rcases hX with h | h | h | h | h | h <;> cases h <;> decide
          have e0 : (shW qs ns xs).getD "" = wd := by rw [hw]; rfl
          rw [e0, decide_eq_false (fun c => hne (V.str.inj c))]
          refine iteT ?_
          refine ⟨_, rfl, _, rfl, by show 1 ≤ sizeLine; decide, fun t2 nt2 => ?_⟩
          have u5 := same_upd (T := T) (o := .tup [.str wd]) nt2
          refine ⟨.ref t, .ref t2, .tuple [.str wd], rfl, .tup (SqT.of (u5.k et)) (.cons (.str _) .nil), .tup (SqT.of upd_same) (.cons (.str _) .nil), rfl, fun H18 s18 => ⟨_, rfl, iteF ?_⟩⟩
          exact ⟨sx.trans (u5.trans s18), _, _, _, _, _, _, _, _, _, _, _, _, rfl⟩
      · rintro σ H16 ⟨s16, x1, x2, x3, x4, x5, x6, x12, x14, x15, x16, x17, x19, rfl⟩
        have s016 := s015.trans s16
        refine ⟨_, rfl, _, rfl, _, rfl, _, rfl, by show 3 ≤ sizeLine; decide, fun l nl => ?_⟩
        have ul2 := same_upd (T := T) (o := HO.lst [V.ref pv, V.ref pa, V.ref pl]) nl
        have sC := s16.trans ul2
        have dA : Dp K _ (.ref hh) (.list [.list (qs.map amD), .list (ns.map PyData.int), .list ((xs.map am).map amD)]) := .lst (SqL.of (sC.k ehh)) (.cons (.lst (SqL.of (sC.k eh1)) (dpa_same sC _ _ dv)) (.cons (dp_ints (SqL.of (sC.k eh2))) (.cons ((hu.keep sC).dp (SqL.of (sC.k eh3))) .nil)))
        have dB : Dp K _ (.ref l) (.list [.list (qs.map amD), .list (ns.map PyData.int), .list ((xs.map am).map amD)]) := .lst (SqL.of upd_same) (.cons (.lst (SqL.of (sC.k epv)) (dpa_same sC _ _ dv)) (.cons (dp_ints (SqL.of (sC.k epa7))) (.cons ((hu.keep sC).dp (SqL.of (sC.k epl))) .nil)))
        refine ⟨_, _, _, rfl, dA, dB, ?_, fun H17 s17 => ⟨_, rfl, iteF ?_⟩⟩
        · show (true && (depOk 4 (.list (qs.map amD)) && (depOk 4 (.list (ns.map PyData.int)) && (depOk 4 (.list ((xs.map am).map amD)) && true)))) = true
          rw [depOk_amsN (n := 2) (by omega), depOk_ints (n := 3) (by omega), depOk_amsN (n := 2) (by rw [List.length_map]; omega)]
          rfl
        · exact ⟨s015.trans (sC.trans s17), _, _, _, _, _, _, _, _, _, _, _, _, _, _, _, _, _, _, _, rfl⟩
    · rintro σ H3 ⟨s3, x1, x2, x3, x4, x5, x6, x7, x8, x9, x10, x11, x12, x13, x14, x15, x16, x17, x18, x19, rfl⟩
      exact q H3

end
theorem all_mk {l : PySem.W.OpenLaw} {w : World} {K : PySem.W.Frag} {h : Heap} {mg : Str → Option Value} {fa : Addr} {q : Program} (X : K.In h) (G : h.Ns mainGlobals mg) (hfa : mg "law" = some (.ref fa))
    (tabs : ∀ (y : Str) (c P : Addr), ((recsOf q).any fun e => e.name == y) = true → PySem.W.tabIn K y = some (c, P) → PySem.W.CodeHd h c P ∧ h.get? P = some { cls := .none, data := .fields #[] })
    {f1 : Addr} {od1 an1 : Option Addr} {sl1 : Array (Option Value)} {oc1 kV1 dc1 pm1 ct1 : Value} {cd1 : Value} (a1 : PySem.W.nsIn K mainGlobals "_law_word" = some (some (.ref f1))) (l1 : K.lookup f1 = some ⟨oc1, od1, .func (PySem.W.fnOf "_law_word" "_law_word" (defArgs s_l_word) (defBody s_l_word) (defScope s_l_word) .none kV1 dc1 pm1 an1 cd1 ct1), sl1⟩) (c1_ : PySem.W.codeIn K cd1 "_law_word" = true) (k1 : PySem.W.keepIn K (.ref f1) = true)
    {f2 : Addr} {od2 an2 : Option Addr} {sl2 : Array (Option Value)} {oc2 kV2 dc2 pm2 ct2 : Value} {cd2 : Value} (a2 : PySem.W.nsIn K mainGlobals "is_number" = some (some (.ref f2))) (l2 : K.lookup f2 = some ⟨oc2, od2, .func (PySem.W.fnOf "is_number" "is_number" (defArgs s_p_is_number) (defBody s_p_is_number) (defScope s_p_is_number) .none kV2 dc2 pm2 an2 cd2 ct2), sl2⟩) (c2_ : PySem.W.codeIn K cd2 "is_number" = true) (k2 : PySem.W.keepIn K (.ref f2) = true)
    {f3 : Addr} {od3 an3 : Option Addr} {sl3 : Array (Option Value)} {oc3 kV3 dc3 pm3 ct3 : Value} {cd3 : Value} (a3 : PySem.W.nsIn K mainGlobals "is_within" = some (some (.ref f3))) (l3 : K.lookup f3 = some ⟨oc3, od3, .func (PySem.W.fnOf "is_within" "is_within" (defArgs s_p_is_within) (defBody s_p_is_within) (defScope s_p_is_within) .none kV3 dc3 pm3 an3 cd3 ct3), sl3⟩) (c3_ : PySem.W.codeIn K cd3 "is_within" = true) (k3 : PySem.W.keepIn K (.ref f3) = true)
    {f4 : Addr} {od4 an4 : Option Addr} {sl4 : Array (Option Value)} {oc4 kV4 dc4 pm4 ct4 : Value} {cd4 : Value} (a4 : PySem.W.nsIn K mainGlobals "common_divisor" = some (some (.ref f4))) (l4 : K.lookup f4 = some ⟨oc4, od4, .func (PySem.W.fnOf "common_divisor" "common_divisor" (defArgs s_p_common_divisor) (defBody s_p_common_divisor) (defScope s_p_common_divisor) .none kV4 dc4 pm4 an4 cd4 ct4), sl4⟩) (c4_ : PySem.W.codeIn K cd4 "common_divisor" = true) (k4 : PySem.W.keepIn K (.ref f4) = true)
    {f5 : Addr} {od5 an5 : Option Addr} {sl5 : Array (Option Value)} {oc5 kV5 dc5 pm5 ct5 : Value} {cd5 : Value} (a5 : PySem.W.nsIn K mainGlobals "amount" = some (some (.ref f5))) (l5 : K.lookup f5 = some ⟨oc5, od5, .func (PySem.W.fnOf "amount" "amount" (defArgs s_p_amount) (defBody s_p_amount) (defScope s_p_amount) .none kV5 dc5 pm5 an5 cd5 ct5), sl5⟩) (c5_ : PySem.W.codeIn K cd5 "amount" = true) (k5 : PySem.W.keepIn K (.ref f5) = true)
    {f6 : Addr} {od6 an6 : Option Addr} {sl6 : Array (Option Value)} {oc6 kV6 dc6 pm6 ct6 : Value} {cd6 : Value} (a6 : PySem.W.nsIn K mainGlobals "minus" = some (some (.ref f6))) (l6 : K.lookup f6 = some ⟨oc6, od6, .func (PySem.W.fnOf "minus" "minus" (defArgs s_p_minus) (defBody s_p_minus) (defScope s_p_minus) .none kV6 dc6 pm6 an6 cd6 ct6), sl6⟩) (c6_ : PySem.W.codeIn K cd6 "minus" = true) (k6 : PySem.W.keepIn K (.ref f6) = true)
    {f7 : Addr} {od7 an7 : Option Addr} {sl7 : Array (Option Value)} {oc7 kV7 dc7 pm7 ct7 : Value} {cd7 : Value} (a7 : PySem.W.nsIn K mainGlobals "over" = some (some (.ref f7))) (l7 : K.lookup f7 = some ⟨oc7, od7, .func (PySem.W.fnOf "over" "over" (defArgs s_p_over) (defBody s_p_over) (defScope s_p_over) .none kV7 dc7 pm7 an7 cd7 ct7), sl7⟩) (c7_ : PySem.W.codeIn K cd7 "over" = true) (k7 : PySem.W.keepIn K (.ref f7) = true)
    {f8 : Addr} {od8 an8 : Option Addr} {sl8 : Array (Option Value)} {oc8 kV8 dc8 pm8 ct8 : Value} {cd8 : Value} (a8 : PySem.W.nsIn K mainGlobals "below" = some (some (.ref f8))) (l8 : K.lookup f8 = some ⟨oc8, od8, .func (PySem.W.fnOf "below" "below" (defArgs s_p_below) (defBody s_p_below) (defScope s_p_below) .none kV8 dc8 pm8 an8 cd8 ct8), sl8⟩) (c8_ : PySem.W.codeIn K cd8 "below" = true) (k8 : PySem.W.keepIn K (.ref f8) = true)
    {f9 : Addr} {od9 an9 : Option Addr} {sl9 : Array (Option Value)} {oc9 kV9 dc9 pm9 ct9 : Value} {cd9 : Value} (a9 : PySem.W.nsIn K mainGlobals "_law_cell" = some (some (.ref f9))) (l9 : K.lookup f9 = some ⟨oc9, od9, .func (PySem.W.fnOf "_law_cell" "_law_cell" (defArgs s_l_cell) (defBody s_l_cell) (defScope s_l_cell) .none kV9 dc9 pm9 an9 cd9 ct9), sl9⟩) (c9_ : PySem.W.codeIn K cd9 "_law_cell" = true) (k9 : PySem.W.keepIn K (.ref f9) = true)
    {f10 : Addr} {od10 an10 : Option Addr} {sl10 : Array (Option Value)} {oc10 kV10 dc10 pm10 ct10 : Value} {cd10 : Value} (a10 : PySem.W.nsIn K mainGlobals "_law_draws" = some (some (.ref f10))) (l10 : K.lookup f10 = some ⟨oc10, od10, .func (PySem.W.fnOf "_law_draws" "_law_draws" (defArgs s_l_draws) (defBody s_l_draws) (defScope s_l_draws) .none kV10 dc10 pm10 an10 cd10 ct10), sl10⟩) (c10_ : PySem.W.codeIn K cd10 "_law_draws" = true) (k10 : PySem.W.keepIn K (.ref f10) = true)
    {f11 : Addr} {od11 an11 : Option Addr} {sl11 : Array (Option Value)} {oc11 kV11 dc11 pm11 ct11 : Value} {cd11 : Value} (a11 : PySem.W.nsIn K mainGlobals "_law_split" = some (some (.ref f11))) (l11 : K.lookup f11 = some ⟨oc11, od11, .func (PySem.W.fnOf "_law_split" "_law_split" (defArgs s_l_split) (defBody s_l_split) (defScope s_l_split) .none kV11 dc11 pm11 an11 cd11 ct11), sl11⟩) (c11_ : PySem.W.codeIn K cd11 "_law_split" = true) (k11 : PySem.W.keepIn K (.ref f11) = true)
    {f12 : Addr} {od12 an12 : Option Addr} {sl12 : Array (Option Value)} {oc12 kV12 dc12 pm12 ct12 : Value} {cd12 : Value} (a12 : PySem.W.nsIn K mainGlobals "_law_many" = some (some (.ref f12))) (l12 : K.lookup f12 = some ⟨oc12, od12, .func (PySem.W.fnOf "_law_many" "_law_many" (defArgs s_l_many) (defBody s_l_many) (defScope s_l_many) .none kV12 dc12 pm12 an12 cd12 ct12), sl12⟩) (c12_ : PySem.W.codeIn K cd12 "_law_many" = true) (k12 : PySem.W.keepIn K (.ref f12) = true)
    {f13 : Addr} {od13 an13 : Option Addr} {sl13 : Array (Option Value)} {oc13 kV13 dc13 pm13 ct13 : Value} {cd13 : Value} (a13 : PySem.W.nsIn K mainGlobals "_law_same" = some (some (.ref f13))) (l13 : K.lookup f13 = some ⟨oc13, od13, .func (PySem.W.fnOf "_law_same" "_law_same" (defArgs s_l_same) (defBody s_l_same) (defScope s_l_same) .none kV13 dc13 pm13 an13 cd13 ct13), sl13⟩) (c13_ : PySem.W.codeIn K cd13 "_law_same" = true) (k13 : PySem.W.keepIn K (.ref f13) = true)
    {f14 : Addr} {od14 an14 : Option Addr} {sl14 : Array (Option Value)} {oc14 kV14 dc14 pm14 ct14 : Value} {cd14 : Value} (a14 : PySem.W.nsIn K mainGlobals "_law_gcd" = some (some (.ref f14))) (l14 : K.lookup f14 = some ⟨oc14, od14, .func (PySem.W.fnOf "_law_gcd" "_law_gcd" (defArgs s_l_gcd) (defBody s_l_gcd) (defScope s_l_gcd) .none kV14 dc14 pm14 an14 cd14 ct14), sl14⟩) (c14_ : PySem.W.codeIn K cd14 "_law_gcd" = true) (k14 : PySem.W.keepIn K (.ref f14) = true)
    {f15 : Addr} {od15 an15 : Option Addr} {sl15 : Array (Option Value)} {oc15 kV15 dc15 pm15 ct15 : Value} {cd15 : Value} (a15 : PySem.W.nsIn K mainGlobals "_law_amt" = some (some (.ref f15))) (l15 : K.lookup f15 = some ⟨oc15, od15, .func (PySem.W.fnOf "_law_amt" "_law_amt" (defArgs s_l_amt) (defBody s_l_amt) (defScope s_l_amt) .none kV15 dc15 pm15 an15 cd15 ct15), sl15⟩) (c15_ : PySem.W.codeIn K cd15 "_law_amt" = true) (k15 : PySem.W.keepIn K (.ref f15) = true)
    {f16 : Addr} {od16 an16 : Option Addr} {sl16 : Array (Option Value)} {oc16 kV16 dc16 pm16 ct16 : Value} {cd16 : Value} (a16 : PySem.W.nsIn K mainGlobals "_law_sub" = some (some (.ref f16))) (l16 : K.lookup f16 = some ⟨oc16, od16, .func (PySem.W.fnOf "_law_sub" "_law_sub" (defArgs s_l_sub) (defBody s_l_sub) (defScope s_l_sub) .none kV16 dc16 pm16 an16 cd16 ct16), sl16⟩) (c16_ : PySem.W.codeIn K cd16 "_law_sub" = true) (k16 : PySem.W.keepIn K (.ref f16) = true)
    {f17 : Addr} {od17 an17 : Option Addr} {sl17 : Array (Option Value)} {oc17 kV17 dc17 pm17 ct17 : Value} {cd17 : Value} (a17 : PySem.W.nsIn K mainGlobals "_law_by" = some (some (.ref f17))) (l17 : K.lookup f17 = some ⟨oc17, od17, .func (PySem.W.fnOf "_law_by" "_law_by" (defArgs s_l_by) (defBody s_l_by) (defScope s_l_by) .none kV17 dc17 pm17 an17 cd17 ct17), sl17⟩) (c17_ : PySem.W.codeIn K cd17 "_law_by" = true) (k17 : PySem.W.keepIn K (.ref f17) = true)
    {f18 : Addr} {od18 an18 : Option Addr} {sl18 : Array (Option Value)} {oc18 kV18 dc18 pm18 ct18 : Value} {cd18 : Value} (a18 : PySem.W.nsIn K mainGlobals "_law_less" = some (some (.ref f18))) (l18 : K.lookup f18 = some ⟨oc18, od18, .func (PySem.W.fnOf "_law_less" "_law_less" (defArgs s_l_less) (defBody s_l_less) (defScope s_l_less) .none kV18 dc18 pm18 an18 cd18 ct18), sl18⟩) (c18_ : PySem.W.codeIn K cd18 "_law_less" = true) (k18 : PySem.W.keepIn K (.ref f18) = true)
    {f19 : Addr} {od19 an19 : Option Addr} {sl19 : Array (Option Value)} {oc19 kV19 dc19 pm19 ct19 : Value} {cd19 : Value} (a19 : PySem.W.nsIn K mainGlobals "check_pace" = some (some (.ref f19))) (l19 : K.lookup f19 = some ⟨oc19, od19, .func (PySem.W.fnOf "check_pace" "check_pace" (defArgs s_p_check_pace) (defBody s_p_check_pace) (defScope s_p_check_pace) .none kV19 dc19 pm19 an19 cd19 ct19), sl19⟩) (c19_ : PySem.W.codeIn K cd19 "check_pace" = true) (k19 : PySem.W.keepIn K (.ref f19) = true)
    {f20 : Addr} {od20 an20 : Option Addr} {sl20 : Array (Option Value)} {oc20 kV20 dc20 pm20 ct20 : Value} {cd20 : Value} (a20 : PySem.W.nsIn K mainGlobals "check_paces" = some (some (.ref f20))) (l20 : K.lookup f20 = some ⟨oc20, od20, .func (PySem.W.fnOf "check_paces" "check_paces" (defArgs s_p_check_paces) (defBody s_p_check_paces) (defScope s_p_check_paces) .none kV20 dc20 pm20 an20 cd20 ct20), sl20⟩) (c20_ : PySem.W.codeIn K cd20 "check_paces" = true) (k20 : PySem.W.keepIn K (.ref f20) = true)
    {f21 : Addr} {od21 an21 : Option Addr} {sl21 : Array (Option Value)} {oc21 kV21 dc21 pm21 ct21 : Value} {cd21 : Value} (a21 : PySem.W.nsIn K mainGlobals "check_rising" = some (some (.ref f21))) (l21 : K.lookup f21 = some ⟨oc21, od21, .func (PySem.W.fnOf "check_rising" "check_rising" (defArgs s_p_check_rising) (defBody s_p_check_rising) (defScope s_p_check_rising) .none kV21 dc21 pm21 an21 cd21 ct21), sl21⟩) (c21_ : PySem.W.codeIn K cd21 "check_rising" = true) (k21 : PySem.W.keepIn K (.ref f21) = true)
    {f22 : Addr} {od22 an22 : Option Addr} {sl22 : Array (Option Value)} {oc22 kV22 dc22 pm22 ct22 : Value} {cd22 : Value} (a22 : PySem.W.nsIn K mainGlobals "_law_rising_of" = some (some (.ref f22))) (l22 : K.lookup f22 = some ⟨oc22, od22, .func (PySem.W.fnOf "_law_rising_of" "_law_rising_of" (defArgs s_l_rising_of) (defBody s_l_rising_of) (defScope s_l_rising_of) .none kV22 dc22 pm22 an22 cd22 ct22), sl22⟩) (c22_ : PySem.W.codeIn K cd22 "_law_rising_of" = true) (k22 : PySem.W.keepIn K (.ref f22) = true)
    {f23 : Addr} {od23 an23 : Option Addr} {sl23 : Array (Option Value)} {oc23 kV23 dc23 pm23 ct23 : Value} {c23 P23 : Addr} (a23 : PySem.W.nsIn K mainGlobals "is_stretch" = some (some (.ref f23))) (l23 : K.lookup f23 = some ⟨oc23, od23, .func (PySem.W.fnOf "is_stretch" "is_stretch" (defArgs s_p_is_stretch) (defBody s_p_is_stretch) (defScope s_p_is_stretch) .none kV23 dc23 pm23 an23 (.ref c23) ct23), sl23⟩) (c23_ : PySem.W.codeIn K (.ref c23) "is_stretch" = true) (k23 : PySem.W.keepIn K (.ref f23) = true)
    (r23 : ((recsOf q).any fun e => e.name == ("is_stretch" : Str)) = true) {ev23 : Value} {dv23 : Option Addr} {vv23 : Array Value} {sv23 : Array (Option Value)} (v23 : K.lookup c23 = some ⟨ev23, dv23, .fields vv23, sv23⟩) (p23 : vv23[11]? = some (.ref P23)) (n23 : K.lookup P23 = none)
    {f24 : Addr} {od24 an24 : Option Addr} {sl24 : Array (Option Value)} {oc24 kV24 dc24 pm24 ct24 : Value} {cd24 : Value} (a24 : PySem.W.nsIn K mainGlobals "check_way" = some (some (.ref f24))) (l24 : K.lookup f24 = some ⟨oc24, od24, .func (PySem.W.fnOf "check_way" "check_way" (defArgs s_p_check_way) (defBody s_p_check_way) (defScope s_p_check_way) .none kV24 dc24 pm24 an24 cd24 ct24), sl24⟩) (c24_ : PySem.W.codeIn K cd24 "check_way" = true) (k24 : PySem.W.keepIn K (.ref f24) = true)
    {f25 : Addr} {od25 an25 : Option Addr} {sl25 : Array (Option Value)} {oc25 kV25 dc25 pm25 ct25 : Value} {c25 P25 : Addr} (a25 : PySem.W.nsIn K mainGlobals "labour" = some (some (.ref f25))) (l25 : K.lookup f25 = some ⟨oc25, od25, .func (PySem.W.fnOf "labour" "labour" (defArgs s_p_labour) (defBody s_p_labour) (defScope s_p_labour) .none kV25 dc25 pm25 an25 (.ref c25) ct25), sl25⟩) (c25_ : PySem.W.codeIn K (.ref c25) "labour" = true) (k25 : PySem.W.keepIn K (.ref f25) = true)
    (r25 : ((recsOf q).any fun e => e.name == ("labour" : Str)) = true) {ev25 : Value} {dv25 : Option Addr} {vv25 : Array Value} {sv25 : Array (Option Value)} (v25 : K.lookup c25 = some ⟨ev25, dv25, .fields vv25, sv25⟩) (p25 : vv25[11]? = some (.ref P25)) (n25 : K.lookup P25 = none)
    {f26 : Addr} {od26 an26 : Option Addr} {sl26 : Array (Option Value)} {oc26 kV26 dc26 pm26 ct26 : Value} {cd26 : Value} (a26 : PySem.W.nsIn K mainGlobals "_law_way" = some (some (.ref f26))) (l26 : K.lookup f26 = some ⟨oc26, od26, .func (PySem.W.fnOf "_law_way" "_law_way" (defArgs s_l_way) (defBody s_l_way) (defScope s_l_way) .none kV26 dc26 pm26 an26 cd26 ct26), sl26⟩) (c26_ : PySem.W.codeIn K cd26 "_law_way" = true) (k26 : PySem.W.keepIn K (.ref f26) = true)
    {f27 : Addr} {od27 an27 : Option Addr} {sl27 : Array (Option Value)} {oc27 kV27 dc27 pm27 ct27 : Value} {cd27 : Value} (a27 : PySem.W.nsIn K mainGlobals "_law_labour" = some (some (.ref f27))) (l27 : K.lookup f27 = some ⟨oc27, od27, .func (PySem.W.fnOf "_law_labour" "_law_labour" (defArgs s_l_labour) (defBody s_l_labour) (defScope s_l_labour) .none kV27 dc27 pm27 an27 cd27 ct27), sl27⟩) (c27_ : PySem.W.codeIn K cd27 "_law_labour" = true) (k27 : PySem.W.keepIn K (.ref f27) = true)
    {f28 : Addr} {od28 an28 : Option Addr} {sl28 : Array (Option Value)} {oc28 kV28 dc28 pm28 ct28 : Value} {cd28 : Value} (a28 : PySem.W.nsIn K mainGlobals "_law_way_ok" = some (some (.ref f28))) (l28 : K.lookup f28 = some ⟨oc28, od28, .func (PySem.W.fnOf "_law_way_ok" "_law_way_ok" (defArgs s_l_way_ok) (defBody s_l_way_ok) (defScope s_l_way_ok) .none kV28 dc28 pm28 an28 cd28 ct28), sl28⟩) (c28_ : PySem.W.codeIn K cd28 "_law_way_ok" = true) (k28 : PySem.W.keepIn K (.ref f28) = true)
    {f29 : Addr} {od29 an29 : Option Addr} {sl29 : Array (Option Value)} {oc29 kV29 dc29 pm29 ct29 : Value} {cd29 : Value} (a29 : PySem.W.nsIn K mainGlobals "_law_spoilt_paces" = some (some (.ref f29))) (l29 : K.lookup f29 = some ⟨oc29, od29, .func (PySem.W.fnOf "_law_spoilt_paces" "_law_spoilt_paces" (defArgs s_l_spoilt_paces) (defBody s_l_spoilt_paces) (defScope s_l_spoilt_paces) .none kV29 dc29 pm29 an29 cd29 ct29), sl29⟩) (c29_ : PySem.W.codeIn K cd29 "_law_spoilt_paces" = true) (k29 : PySem.W.keepIn K (.ref f29) = true)
    {f30 : Addr} {od30 an30 : Option Addr} {sl30 : Array (Option Value)} {oc30 kV30 dc30 pm30 ct30 : Value} {cd30 : Value} (a30 : PySem.W.nsIn K mainGlobals "_law_paces_word" = some (some (.ref f30))) (l30 : K.lookup f30 = some ⟨oc30, od30, .func (PySem.W.fnOf "_law_paces_word" "_law_paces_word" (defArgs s_l_paces_word) (defBody s_l_paces_word) (defScope s_l_paces_word) .none kV30 dc30 pm30 an30 cd30 ct30), sl30⟩) (c30_ : PySem.W.codeIn K cd30 "_law_paces_word" = true) (k30 : PySem.W.keepIn K (.ref f30) = true)
    {f31 : Addr} {od31 an31 : Option Addr} {sl31 : Array (Option Value)} {oc31 kV31 dc31 pm31 ct31 : Value} {cd31 : Value} (a31 : PySem.W.nsIn K mainGlobals "check_places" = some (some (.ref f31))) (l31 : K.lookup f31 = some ⟨oc31, od31, .func (PySem.W.fnOf "check_places" "check_places" (defArgs s_p_check_places) (defBody s_p_check_places) (defScope s_p_check_places) .none kV31 dc31 pm31 an31 cd31 ct31), sl31⟩) (c31_ : PySem.W.codeIn K cd31 "check_places" = true) (k31 : PySem.W.keepIn K (.ref f31) = true)
    {f32 : Addr} {od32 an32 : Option Addr} {sl32 : Array (Option Value)} {oc32 kV32 dc32 pm32 ct32 : Value} {cd32 : Value} (a32 : PySem.W.nsIn K mainGlobals "shares" = some (some (.ref f32))) (l32 : K.lookup f32 = some ⟨oc32, od32, .func (PySem.W.fnOf "shares" "shares" (defArgs s_p_shares) (defBody s_p_shares) (defScope s_p_shares) .none kV32 dc32 pm32 an32 cd32 ct32), sl32⟩) (c32_ : PySem.W.codeIn K cd32 "shares" = true) (k32 : PySem.W.keepIn K (.ref f32) = true)
    {f33 : Addr} {od33 an33 : Option Addr} {sl33 : Array (Option Value)} {oc33 kV33 dc33 pm33 ct33 : Value} {cd33 : Value} (a33 : PySem.W.nsIn K mainGlobals "_law_spots" = some (some (.ref f33))) (l33 : K.lookup f33 = some ⟨oc33, od33, .func (PySem.W.fnOf "_law_spots" "_law_spots" (defArgs s_l_spots) (defBody s_l_spots) (defScope s_l_spots) .none kV33 dc33 pm33 an33 cd33 ct33), sl33⟩) (c33_ : PySem.W.codeIn K cd33 "_law_spots" = true) (k33 : PySem.W.keepIn K (.ref f33) = true)
    {f34 : Addr} {od34 an34 : Option Addr} {sl34 : Array (Option Value)} {oc34 kV34 dc34 pm34 ct34 : Value} {c34 P34 : Addr} (a34 : PySem.W.nsIn K mainGlobals "law" = some (some (.ref f34))) (l34 : K.lookup f34 = some ⟨oc34, od34, .func (PySem.W.fnOf "law" "law" (defArgs s_LAW) (defBody s_LAW) (defScope s_LAW) .none kV34 dc34 pm34 an34 (.ref c34) ct34), sl34⟩) (c34_ : PySem.W.codeIn K (.ref c34) "law" = true) (k34 : PySem.W.keepIn K (.ref f34) = true)
    (r34 : ((recsOf q).any fun e => e.name == ("law" : Str)) = true) {ev34 : Value} {dv34 : Option Addr} {vv34 : Array Value} {sv34 : Array (Option Value)} (v34 : K.lookup c34 = some ⟨ev34, dv34, .fields vv34, sv34⟩) (p34 : vv34[11]? = some (.ref P34)) (n34 : K.lookup P34 = none)
    {CP : Addr} (aCP : PySem.W.nsIn K mainGlobals "PailError" = some (some (.ref CP))) (rdP : PySem.W.readsIn K CP (.type "type") = true) (gaP : PySem.W.specialIn K (.ref CP) "__getattribute__" = some (some (.builtin "type.__getattribute__")))
    {f100 : Addr} {od100 an100 : Option Addr} {sl100 : Array (Option Value)} {oc100 kV100 dc100 pm100 ct100 : Value} {cd100 : Value} (a100 : PySem.W.findCls K (.ref CP) (.type "type") "__init__" = some (.val (.ref f100))) (l100 : K.lookup f100 = some ⟨oc100, od100, .func (PySem.W.fnOf "__init__" "PailError.__init__" (defArgs s_p_PailError___init__) (defBody s_p_PailError___init__) (defScope s_p_PailError___init__) .none kV100 dc100 pm100 an100 cd100 ct100), sl100⟩) (c100_ : PySem.W.codeIn K cd100 "PailError.__init__" = true) (k100 : PySem.W.keepIn K (.ref f100) = true)
    (e1P : PySem.W.subIn K (.ref CP) (.type "BaseException") = some true) (e2P : PySem.W.isClsIn K CP = true) (e3P : PySem.W.typeIn K (.ref CP) = some (.type "type")) (vV : PySem.W.findCls K (.type "ValueError") (.type "type") "__init__" = some (.val (.builtin "ValueError.__init__")))
    {C101 N101 : Addr} {nm101 q101 : Str} {bs101 bm101 sub101 : List Value} {sn101 : List Str} {ab101 : Bool} {col101 : Option Bool} {dd101 : Option Addr} {m0101 m1101 m2101 m3101 m5101 : Option Value}
    (aC101 : PySem.W.nsIn K mainGlobals "BadWay" = some (some (.ref C101))) (xL101 : K.lookup C101 = some (excClassObj nm101 q101 C101 N101 bs101 bm101 true sn101 sub101 ab101 col101 dd101 m0101 m1101 m2101 m3101 m5101 "ValueError.__new__")) (rv101 : PySem.HandSPX.refsVE bm101 = true)
    (sa101 : PySem.W.findIn K (.ref C101) "__setattr__" = some (some (.builtin "object.__setattr__"))) (ga101 : PySem.W.findIn K (.ref C101) "__getattribute__" = some (some (.builtin "BaseException.__getattribute__"))) (gg101 : PySem.W.findIn K (.ref C101) "__getattr__" = some none) (nw101 : PySem.W.findIn K (.ref C101) "word" = some none)
    {f101 : Addr} {od101 an101 : Option Addr} {sl101 : Array (Option Value)} {oc101 kV101 dc101 pm101 ct101 : Value} {cd101 : Value} (a101 : PySem.W.findIn K (.ref C101) "__init__" = some (some (.ref f101))) (l101 : K.lookup f101 = some ⟨oc101, od101, .func (PySem.W.fnOf "__init__" "BadWay.__init__" (defArgs s_p_BadWay___init__) (defBody s_p_BadWay___init__) (defScope s_p_BadWay___init__) .none kV101 dc101 pm101 an101 cd101 ct101), sl101⟩) (c101_ : PySem.W.codeIn K cd101 "BadWay.__init__" = true) (k101 : PySem.W.keepIn K (.ref f101) = true)
    (tI101 : PySem.W.typeIn K (.ref f101) = some (.type "function")) (kC101 : PySem.W.keepIn K (.ref C101) = true) (eC101 : PySem.W.subIn K (.ref C101) (.type "BaseException") = some true) (tC101 : PySem.W.typeIn K (.ref C101) = some (.type "type")) (hC101 : PySem.W.hasDictIn K C101 = true) (sC101 : PySem.W.subIn K (.ref C101) (.ref CP) = some true)
    {C102 N102 : Addr} {nm102 q102 : Str} {bs102 bm102 sub102 : List Value} {sn102 : List Str} {ab102 : Bool} {col102 : Option Bool} {dd102 : Option Addr} {m0102 m1102 m2102 m3102 m5102 : Option Value}
    (aC102 : PySem.W.nsIn K mainGlobals "BadPace" = some (some (.ref C102))) (xL102 : K.lookup C102 = some (excClassObj nm102 q102 C102 N102 bs102 bm102 true sn102 sub102 ab102 col102 dd102 m0102 m1102 m2102 m3102 m5102 "ValueError.__new__")) (rv102 : PySem.HandSPX.refsVE bm102 = true)
    (sa102 : PySem.W.findIn K (.ref C102) "__setattr__" = some (some (.builtin "object.__setattr__"))) (ga102 : PySem.W.findIn K (.ref C102) "__getattribute__" = some (some (.builtin "BaseException.__getattribute__"))) (gg102 : PySem.W.findIn K (.ref C102) "__getattr__" = some none) (nw102 : PySem.W.findIn K (.ref C102) "word" = some none)
    {f102 : Addr} {od102 an102 : Option Addr} {sl102 : Array (Option Value)} {oc102 kV102 dc102 pm102 ct102 : Value} {cd102 : Value} (a102 : PySem.W.findIn K (.ref C102) "__init__" = some (some (.ref f102))) (l102 : K.lookup f102 = some ⟨oc102, od102, .func (PySem.W.fnOf "__init__" "BadPace.__init__" (defArgs s_p_BadPace___init__) (defBody s_p_BadPace___init__) (defScope s_p_BadPace___init__) .none kV102 dc102 pm102 an102 cd102 ct102), sl102⟩) (c102_ : PySem.W.codeIn K cd102 "BadPace.__init__" = true) (k102 : PySem.W.keepIn K (.ref f102) = true)
    (tI102 : PySem.W.typeIn K (.ref f102) = some (.type "function")) (kC102 : PySem.W.keepIn K (.ref C102) = true) (eC102 : PySem.W.subIn K (.ref C102) (.type "BaseException") = some true) (tC102 : PySem.W.typeIn K (.ref C102) = some (.type "type")) (hC102 : PySem.W.hasDictIn K C102 = true) (sC102 : PySem.W.subIn K (.ref C102) (.ref CP) = some true)
    {C103 N103 : Addr} {nm103 q103 : Str} {bs103 bm103 sub103 : List Value} {sn103 : List Str} {ab103 : Bool} {col103 : Option Bool} {dd103 : Option Addr} {m0103 m1103 m2103 m3103 m5103 : Option Value}
    (aC103 : PySem.W.nsIn K mainGlobals "BadCount" = some (some (.ref C103))) (xL103 : K.lookup C103 = some (excClassObj nm103 q103 C103 N103 bs103 bm103 true sn103 sub103 ab103 col103 dd103 m0103 m1103 m2103 m3103 m5103 "ValueError.__new__")) (rv103 : PySem.HandSPX.refsVE bm103 = true)
    (sa103 : PySem.W.findIn K (.ref C103) "__setattr__" = some (some (.builtin "object.__setattr__"))) (ga103 : PySem.W.findIn K (.ref C103) "__getattribute__" = some (some (.builtin "BaseException.__getattribute__"))) (gg103 : PySem.W.findIn K (.ref C103) "__getattr__" = some none) (nw103 : PySem.W.findIn K (.ref C103) "word" = some none)
    {f103 : Addr} {od103 an103 : Option Addr} {sl103 : Array (Option Value)} {oc103 kV103 dc103 pm103 ct103 : Value} {cd103 : Value} (a103 : PySem.W.findIn K (.ref C103) "__init__" = some (some (.ref f103))) (l103 : K.lookup f103 = some ⟨oc103, od103, .func (PySem.W.fnOf "__init__" "BadCount.__init__" (defArgs s_p_BadCount___init__) (defBody s_p_BadCount___init__) (defScope s_p_BadCount___init__) .none kV103 dc103 pm103 an103 cd103 ct103), sl103⟩) (c103_ : PySem.W.codeIn K cd103 "BadCount.__init__" = true) (k103 : PySem.W.keepIn K (.ref f103) = true)
    (tI103 : PySem.W.typeIn K (.ref f103) = some (.type "function")) (kC103 : PySem.W.keepIn K (.ref C103) = true) (eC103 : PySem.W.subIn K (.ref C103) (.type "BaseException") = some true) (tC103 : PySem.W.typeIn K (.ref C103) = some (.type "type")) (hC103 : PySem.W.hasDictIn K C103 = true) (sC103 : PySem.W.subIn K (.ref C103) (.ref CP) = some true)
    {C104 N104 : Addr} {nm104 q104 : Str} {bs104 bm104 sub104 : List Value} {sn104 : List Str} {ab104 : Bool} {col104 : Option Bool} {dd104 : Option Addr} {m0104 m1104 m2104 m3104 m5104 : Option Value}
    (aC104 : PySem.W.nsIn K mainGlobals "BadPlace" = some (some (.ref C104))) (xL104 : K.lookup C104 = some (excClassObj nm104 q104 C104 N104 bs104 bm104 true sn104 sub104 ab104 col104 dd104 m0104 m1104 m2104 m3104 m5104 "ValueError.__new__")) (rv104 : PySem.HandSPX.refsVE bm104 = true)
    (sa104 : PySem.W.findIn K (.ref C104) "__setattr__" = some (some (.builtin "object.__setattr__"))) (ga104 : PySem.W.findIn K (.ref C104) "__getattribute__" = some (some (.builtin "BaseException.__getattribute__"))) (gg104 : PySem.W.findIn K (.ref C104) "__getattr__" = some none) (nw104 : PySem.W.findIn K (.ref C104) "word" = some none)
    {f104 : Addr} {od104 an104 : Option Addr} {sl104 : Array (Option Value)} {oc104 kV104 dc104 pm104 ct104 : Value} {cd104 : Value} (a104 : PySem.W.findIn K (.ref C104) "__init__" = some (some (.ref f104))) (l104 : K.lookup f104 = some ⟨oc104, od104, .func (PySem.W.fnOf "__init__" "BadPlace.__init__" (defArgs s_p_BadPlace___init__) (defBody s_p_BadPlace___init__) (defScope s_p_BadPlace___init__) .none kV104 dc104 pm104 an104 cd104 ct104), sl104⟩) (c104_ : PySem.W.codeIn K cd104 "BadPlace.__init__" = true) (k104 : PySem.W.keepIn K (.ref f104) = true)
    (tI104 : PySem.W.typeIn K (.ref f104) = some (.type "function")) (kC104 : PySem.W.keepIn K (.ref C104) = true) (eC104 : PySem.W.subIn K (.ref C104) (.type "BaseException") = some true) (tC104 : PySem.W.typeIn K (.ref C104) = some (.type "type")) (hC104 : PySem.W.hasDictIn K C104 = true) (sC104 : PySem.W.subIn K (.ref C104) (.ref CP) = some true)
    {C105 N105 : Addr} {nm105 q105 : Str} {bs105 bm105 sub105 : List Value} {sn105 : List Str} {ab105 : Bool} {col105 : Option Bool} {dd105 : Option Addr} {m0105 m1105 m2105 m3105 m5105 : Option Value}
    (aC105 : PySem.W.nsIn K mainGlobals "NotRising" = some (some (.ref C105))) (xL105 : K.lookup C105 = some (excClassObj nm105 q105 C105 N105 bs105 bm105 true sn105 sub105 ab105 col105 dd105 m0105 m1105 m2105 m3105 m5105 "ValueError.__new__")) (rv105 : PySem.HandSPX.refsVE bm105 = true)
    (sa105 : PySem.W.findIn K (.ref C105) "__setattr__" = some (some (.builtin "object.__setattr__"))) (ga105 : PySem.W.findIn K (.ref C105) "__getattribute__" = some (some (.builtin "BaseException.__getattribute__"))) (gg105 : PySem.W.findIn K (.ref C105) "__getattr__" = some none) (nw105 : PySem.W.findIn K (.ref C105) "word" = some none)
    {f105 : Addr} {od105 an105 : Option Addr} {sl105 : Array (Option Value)} {oc105 kV105 dc105 pm105 ct105 : Value} {cd105 : Value} (a105 : PySem.W.findIn K (.ref C105) "__init__" = some (some (.ref f105))) (l105 : K.lookup f105 = some ⟨oc105, od105, .func (PySem.W.fnOf "__init__" "NotRising.__init__" (defArgs s_p_NotRising___init__) (defBody s_p_NotRising___init__) (defScope s_p_NotRising___init__) .none kV105 dc105 pm105 an105 cd105 ct105), sl105⟩) (c105_ : PySem.W.codeIn K cd105 "NotRising.__init__" = true) (k105 : PySem.W.keepIn K (.ref f105) = true)
    (tI105 : PySem.W.typeIn K (.ref f105) = some (.type "function")) (kC105 : PySem.W.keepIn K (.ref C105) = true) (eC105 : PySem.W.subIn K (.ref C105) (.type "BaseException") = some true) (tC105 : PySem.W.typeIn K (.ref C105) = some (.type "type")) (hC105 : PySem.W.hasDictIn K C105 = true) (sC105 : PySem.W.subIn K (.ref C105) (.ref CP) = some true)
    (z_ValueError : PySem.W.nsIn K mainGlobals "ValueError" = some none)
    (z_abs : PySem.W.nsIn K mainGlobals "abs" = some none)
    (z_all : PySem.W.nsIn K mainGlobals "all" = some none)
    (z_bool : PySem.W.nsIn K mainGlobals "bool" = some none)
    (z_int : PySem.W.nsIn K mainGlobals "int" = some none)
    (z_isinstance : PySem.W.nsIn K mainGlobals "isinstance" = some none)
    (z_len : PySem.W.nsIn K mainGlobals "len" = some none)
    (z_list : PySem.W.nsIn K mainGlobals "list" = some none)
    (z_max : PySem.W.nsIn K mainGlobals "max" = some none)
    (z_min : PySem.W.nsIn K mainGlobals "min" = some none)
    (z_range : PySem.W.nsIn K mainGlobals "range" = some none)
    (z_sorted : PySem.W.nsIn K mainGlobals "sorted" = some none)
    (z_str : PySem.W.nsIn K mainGlobals "str" = some none)
    (z_sum : PySem.W.nsIn K mainGlobals "sum" = some none)
    (z_tuple : PySem.W.nsIn K mainGlobals "tuple" = some none)
    (z_zip : PySem.W.nsIn K mainGlobals "zip" = some none)
    {t_MOST_HANDS : Tok} (y_MOST_HANDS : PySem.W.nsIn K mainGlobals "MOST_HANDS" = some (some (.int 8 t_MOST_HANDS)))
    {t_MOST_PACE : Tok} (y_MOST_PACE : PySem.W.nsIn K mainGlobals "MOST_PACE" = some (some (.int 12 t_MOST_PACE)))
    {t_MOST_STEPS_OR_TOIL : Tok} (y_MOST_STEPS_OR_TOIL : PySem.W.nsIn K mainGlobals "MOST_STEPS_OR_TOIL" = some (some (.int 9 t_MOST_STEPS_OR_TOIL)))
    {t_MOST_STRETCHES : Tok} (y_MOST_STRETCHES : PySem.W.nsIn K mainGlobals "MOST_STRETCHES" = some (some (.int 6 t_MOST_STRETCHES)))
    {a_NOUGHT : Addr} {od_NOUGHT : Option Addr} {its_NOUGHT : Array Value} {n_NOUGHT : Nat} {sl_NOUGHT : Array (Option Value)} (y_NOUGHT : PySem.W.nsIn K mainGlobals "NOUGHT" = some (some (.ref a_NOUGHT))) (x_NOUGHT : K.lookup a_NOUGHT = some ⟨.type "tuple", od_NOUGHT, .seq its_NOUGHT n_NOUGHT, sl_NOUGHT⟩) (w_NOUGHT : its_NOUGHT.size ≤ sizeLine ∧ Vals [.int 0, .int 1] its_NOUGHT.toList)
    (ndT : ([P23, P25, P34] : List Addr).Nodup)
    : LamX.LawAtS l w K CX0 12 63 "_law_script" mg fa h := by
  have e := hfa.symm.trans (PySem.W.mg_of X G a34)
  cases e
  have hnT : (([(P23, none), (P25, none), (P34, some (("law" : Str) ++ ".<locals>." ++ "<lambda>"))] : Tb).map (·.1)).Nodup := ndT
  have T1 := fun_mk (st := s_l_word) l1 c1_ k1
  have b1 := T1.binds (ps := ["_law_asked"]) fun _ _ _ _ _ _ us hl => match us, hl with | [_], _ => rfl
  have T2 := fun_mk (st := s_p_is_number) l2 c2_ k2
  have b2 := T2.binds (ps := ["thing"]) fun _ _ _ _ _ _ us hl => match us, hl with | [_], _ => rfl
  have T3 := fun_mk (st := s_p_is_within) l3 c3_ k3
  have b3 := T3.binds (ps := ["thing", "least", "most"]) fun _ _ _ _ _ _ us hl => match us, hl with | [_, _, _], _ => rfl
  have T4 := fun_mk (st := s_p_common_divisor) l4 c4_ k4
  have b4 := T4.binds (ps := ["one", "other"]) fun _ _ _ _ _ _ us hl => match us, hl with | [_, _], _ => rfl
  have T5 := fun_mk (st := s_p_amount) l5 c5_ k5
  have b5 := T5.binds (ps := ["num", "den"]) fun _ _ _ _ _ _ us hl => match us, hl with | [_, _], _ => rfl
  have T6 := fun_mk (st := s_p_minus) l6 c6_ k6
  have b6 := T6.binds (ps := ["one", "other"]) fun _ _ _ _ _ _ us hl => match us, hl with | [_, _], _ => rfl
  have T7 := fun_mk (st := s_p_over) l7 c7_ k7
  have b7 := T7.binds (ps := ["one", "other"]) fun _ _ _ _ _ _ us hl => match us, hl with | [_, _], _ => rfl
  have T8 := fun_mk (st := s_p_below) l8 c8_ k8
  have b8 := T8.binds (ps := ["one", "other"]) fun _ _ _ _ _ _ us hl => match us, hl with | [_, _], _ => rfl
  have T9 := fun_mk (st := s_l_cell) l9 c9_ k9
  have b9 := T9.binds (ps := ["_law_script", "_law_k"]) fun _ _ _ _ _ _ us hl => match us, hl with | [_, _], _ => rfl
  have T10 := fun_mk (st := s_l_draws) l10 c10_ k10
  have b10 := T10.binds (ps := ["_law_cell_here", "_law_parts"]) fun _ _ _ _ _ _ us hl => match us, hl with | [_, _], _ => rfl
  have T11 := fun_mk (st := s_l_split) l11 c11_ k11
  have b11 := T11.binds (ps := ["_law_cell_here", "_law_many_here"]) fun _ _ _ _ _ _ us hl => match us, hl with | [_, _], _ => rfl
  have T12 := fun_mk (st := s_l_many) l12 c12_ k12
  have b12 := T12.binds (ps := ["_law_script", "_law_few"]) fun _ _ _ _ _ _ us hl => match us, hl with | [_, _], _ => rfl
  have T13 := fun_mk (st := s_l_same) l13 c13_ k13
  have b13 := T13.binds (ps := ["_law_found", "_law_due"]) fun _ _ _ _ _ _ us hl => match us, hl with | [_, _], _ => rfl
  have T14 := fun_mk (st := s_l_gcd) l14 c14_ k14
  have b14 := T14.binds (ps := ["_law_one", "_law_other"]) fun _ _ _ _ _ _ us hl => match us, hl with | [_, _], _ => rfl
  have T15 := fun_mk (st := s_l_amt) l15 c15_ k15
  have b15 := T15.binds (ps := ["_law_num", "_law_den"]) fun _ _ _ _ _ _ us hl => match us, hl with | [_, _], _ => rfl
  have T16 := fun_mk (st := s_l_sub) l16 c16_ k16
  have b16 := T16.binds (ps := ["_law_one", "_law_other"]) fun _ _ _ _ _ _ us hl => match us, hl with | [_, _], _ => rfl
  have T17 := fun_mk (st := s_l_by) l17 c17_ k17
  have b17 := T17.binds (ps := ["_law_one", "_law_number"]) fun _ _ _ _ _ _ us hl => match us, hl with | [_, _], _ => rfl
  have T18 := fun_mk (st := s_l_less) l18 c18_ k18
  have b18 := T18.binds (ps := ["_law_one", "_law_other"]) fun _ _ _ _ _ _ us hl => match us, hl with | [_, _], _ => rfl
  have T19 := fun_mk (st := s_p_check_pace) l19 c19_ k19
  have b19 := T19.binds (ps := ["pace"]) fun _ _ _ _ _ _ us hl => match us, hl with | [_], _ => rfl
  have T20 := fun_mk (st := s_p_check_paces) l20 c20_ k20
  have b20 := T20.binds (ps := ["paces", "most"]) fun _ _ _ _ _ _ us hl => match us, hl with | [_, _], _ => rfl
  have T21 := fun_mk (st := s_p_check_rising) l21 c21_ k21
  have b21 := T21.binds (ps := ["paces"]) fun _ _ _ _ _ _ us hl => match us, hl with | [_], _ => rfl
  have T22 := fun_mk (st := s_l_rising_of) l22 c22_ k22
  have b22 := T22.binds (ps := ["_law_cell_here"]) fun _ _ _ _ _ _ us hl => match us, hl with | [_], _ => rfl
  have T23 : FunC K "is_stretch" "is_stretch" s_p_is_stretch f23 _ c23 := ⟨⟨oc23, od23, kV23, dc23, pm23, an23, ct23, sl23, rfl, l23, c23_⟩, k23⟩
  have b23 := T23.binds (ps := ["thing"]) fun _ _ _ _ _ us hl => match us, hl with | [_], _ => rfl
  have T24 := fun_mk (st := s_p_check_way) l24 c24_ k24
  have b24 := T24.binds (ps := ["way"]) fun _ _ _ _ _ _ us hl => match us, hl with | [_], _ => rfl
  have T25 : FunC K "labour" "labour" s_p_labour f25 _ c25 := ⟨⟨oc25, od25, kV25, dc25, pm25, an25, ct25, sl25, rfl, l25, c25_⟩, k25⟩
  have b25 := T25.binds (ps := ["way"]) fun _ _ _ _ _ us hl => match us, hl with | [_], _ => rfl
  have T26 := fun_mk (st := s_l_way) l26 c26_ k26
  have b26 := T26.binds (ps := ["_law_cell_here"]) fun _ _ _ _ _ _ us hl => match us, hl with | [_], _ => rfl
  have T27 := fun_mk (st := s_l_labour) l27 c27_ k27
  have b27 := T27.binds (ps := ["_law_way_here"]) fun _ _ _ _ _ _ us hl => match us, hl with | [_], _ => rfl
  have T28 := fun_mk (st := s_l_way_ok) l28 c28_ k28
  have b28 := T28.binds (ps := ["_law_way_here"]) fun _ _ _ _ _ _ us hl => match us, hl with | [_], _ => rfl
  have T29 := fun_mk (st := s_l_spoilt_paces) l29 c29_ k29
  have b29 := T29.binds (ps := ["_law_cell_here", "_law_paces"]) fun _ _ _ _ _ _ us hl => match us, hl with | [_, _], _ => rfl
  have T30 := fun_mk (st := s_l_paces_word) l30 c30_ k30
  have b30 := T30.binds (ps := ["_law_paces"]) fun _ _ _ _ _ _ us hl => match us, hl with | [_], _ => rfl
  have T31 := fun_mk (st := s_p_check_places) l31 c31_ k31
  have b31 := T31.binds (ps := ["places", "fire"]) fun _ _ _ _ _ _ us hl => match us, hl with | [_, _], _ => rfl
  have T32 := fun_mk (st := s_p_shares) l32 c32_ k32
  have b32 := T32.binds (ps := ["way", "paces", "places"]) fun _ _ _ _ _ _ us hl => match us, hl with | [_, _, _], _ => rfl
  have T33 := fun_mk (st := s_l_spots) l33 c33_ k33
  have b33 := T33.binds (ps := ["_law_cell_here", "_law_many_here", "_law_whole"]) fun _ _ _ _ _ _ us hl => match us, hl with | [_, _, _], _ => rfl
  have T34 : FunC K "law" "law" s_LAW fa _ c34 := ⟨⟨oc34, od34, kV34, dc34, pm34, an34, ct34, sl34, rfl, l34, c34_⟩, k34⟩
  have T100 := fun_mk (st := s_p_PailError___init__) l100 c100_ k100
  have b100 := T100.binds (ps := ["self", "word"]) fun _ _ _ _ _ _ us hl => match us, hl with | [_, _], _ => rfl
  have T101 := fun_mk (st := s_p_BadWay___init__) l101 c101_ k101
  have b101 := T101.binds (ps := ["self"]) fun _ _ _ _ _ _ us hl => match us, hl with | [_], _ => rfl
  have T102 := fun_mk (st := s_p_BadPace___init__) l102 c102_ k102
  have b102 := T102.binds (ps := ["self"]) fun _ _ _ _ _ _ us hl => match us, hl with | [_], _ => rfl
  have T103 := fun_mk (st := s_p_BadCount___init__) l103 c103_ k103
  have b103 := T103.binds (ps := ["self"]) fun _ _ _ _ _ _ us hl => match us, hl with | [_], _ => rfl
  have T104 := fun_mk (st := s_p_BadPlace___init__) l104 c104_ k104
  have b104 := T104.binds (ps := ["self"]) fun _ _ _ _ _ _ us hl => match us, hl with | [_], _ => rfl
  have T105 := fun_mk (st := s_p_NotRising___init__) l105 c105_ k105
  have b105 := T105.binds (ps := ["self"]) fun _ _ _ _ _ _ us hl => match us, hl with | [_], _ => rfl
  have B : Bn mg := ⟨PySem.W.mg_none_of X G z_ValueError, PySem.W.mg_none_of X G z_abs, PySem.W.mg_none_of X G z_all, PySem.W.mg_none_of X G z_bool, PySem.W.mg_none_of X G z_int, PySem.W.mg_none_of X G z_isinstance, PySem.W.mg_none_of X G z_len, PySem.W.mg_none_of X G z_list, PySem.W.mg_none_of X G z_max, PySem.W.mg_none_of X G z_min, PySem.W.mg_none_of X G z_range, PySem.W.mg_none_of X G z_sorted, PySem.W.mg_none_of X G z_str, PySem.W.mg_none_of X G z_sum, PySem.W.mg_none_of X G z_tuple, PySem.W.mg_none_of X G z_zip⟩
  have H23 := tabs _ _ _ r23 (tab_in a23 l23 rfl rfl v23 p23)
  have H25 := tabs _ _ _ r25 (tab_in a25 l25 rfl rfl v25 p25)
  have H34 := tabs _ _ _ r34 (tab_in a34 l34 rfl rfl v34 p34)
  refine ⟨PySem.W.fnOf "law" "law" (defArgs s_LAW) (defBody s_LAW) (defScope s_LAW) .none kV34 dc34 pm34 an34 (.ref c34) ct34, [(c23, P23), (c25, P25), (c34, P34)], sp_LAW K [(P23, none), (P25, none), (P34, some (("law" : Str) ++ ".<locals>." ++ "<lambda>"))], ?_, ?_, ?_, fun s v => .of_eq rfl, ?_, fun base _ _ TBs => ?_⟩
  · intro p hp
    simp only [List.mem_cons, List.not_mem_nil, or_false] at hp
    rcases hp with rfl | rfl | rfl
    · exact H23.2
    · exact H25.2
    · exact H34.2
  · intro p hp
    simp only [List.mem_cons, List.not_mem_nil, or_false] at hp
    rcases hp with rfl | rfl | rfl
    · exact n23
    · exact n25
    · exact n34
  · intro p hp
    simp only [List.mem_cons, List.not_mem_nil, or_false] at hp
    rcases hp with rfl | rfl | rfl
    · exact H23.1
    · exact H25.1
    · exact H34.1
  · intro H a ns hlen hbits hT hS
    refine ⟨a, ns, rfl, hS, hlen, hbits, ?_, fun _ => rfl⟩
    intro p hp
    simp only [List.mem_cons, List.not_mem_nil, or_false] at hp
    rcases hp with rfl | rfl | rfl
    · exact okG0 (hT (c23, P23) (by simp))
    · exact okG0 (hT (c25, P25) (by simp))
    · exact okS0 (hT (c34, P34) (by simp))
  have B23 : LamX.TabB base mg c23 P23 := TBs (c23, P23) (by simp)
  have B25 : LamX.TabB base mg c25 P25 := TBs (c25, P25) (by simp)
  have B34 : LamX.TabB base mg c34 P34 := TBs (c34, P34) (by simp)
  have okP := ok_PailError (P := l.prog) (w := w) (mg := mg) (base := base) T100 (PySem.W.mg_none_of X G z_ValueError) vV
  have R_BadWay : Err l.prog w K mg base CP "BadWay" "bad way" := ⟨⟨C101, f101, _, PySem.W.mg_of X G aC101, ⟨⟨nm101, q101, N101, bs101, bm101, sn101, sub101, ab101, col101, dd101, m0101, m1101, m2101, m3101, m5101, xL101, rv101⟩, sa101, eC101, tC101, kC101⟩, ⟨ga101, gg101, eC101, hC101⟩, nw101, exm_of e1P e2P e3P sC101, a101, tI101, ok_BadWay T101 ⟨rdP, gaP⟩ a100 okP (PySem.W.mg_of X G aCP) k100 b100, b101⟩⟩
  have R_BadPace : Err l.prog w K mg base CP "BadPace" "bad pace" := ⟨⟨C102, f102, _, PySem.W.mg_of X G aC102, ⟨⟨nm102, q102, N102, bs102, bm102, sn102, sub102, ab102, col102, dd102, m0102, m1102, m2102, m3102, m5102, xL102, rv102⟩, sa102, eC102, tC102, kC102⟩, ⟨ga102, gg102, eC102, hC102⟩, nw102, exm_of e1P e2P e3P sC102, a102, tI102, ok_BadPace T102 ⟨rdP, gaP⟩ a100 okP (PySem.W.mg_of X G aCP) k100 b100, b102⟩⟩
  have R_BadCount : Err l.prog w K mg base CP "BadCount" "bad count" := ⟨⟨C103, f103, _, PySem.W.mg_of X G aC103, ⟨⟨nm103, q103, N103, bs103, bm103, sn103, sub103, ab103, col103, dd103, m0103, m1103, m2103, m3103, m5103, xL103, rv103⟩, sa103, eC103, tC103, kC103⟩, ⟨ga103, gg103, eC103, hC103⟩, nw103, exm_of e1P e2P e3P sC103, a103, tI103, ok_BadCount T103 ⟨rdP, gaP⟩ a100 okP (PySem.W.mg_of X G aCP) k100 b100, b103⟩⟩
  have R_BadPlace : Err l.prog w K mg base CP "BadPlace" "bad place" := ⟨⟨C104, f104, _, PySem.W.mg_of X G aC104, ⟨⟨nm104, q104, N104, bs104, bm104, sn104, sub104, ab104, col104, dd104, m0104, m1104, m2104, m3104, m5104, xL104, rv104⟩, sa104, eC104, tC104, kC104⟩, ⟨ga104, gg104, eC104, hC104⟩, nw104, exm_of e1P e2P e3P sC104, a104, tI104, ok_BadPlace T104 ⟨rdP, gaP⟩ a100 okP (PySem.W.mg_of X G aCP) k100 b100, b104⟩⟩
  have R_NotRising : Err l.prog w K mg base CP "NotRising" "not rising" := ⟨⟨C105, f105, _, PySem.W.mg_of X G aC105, ⟨⟨nm105, q105, N105, bs105, bm105, sn105, sub105, ab105, col105, dd105, m0105, m1105, m2105, m3105, m5105, xL105, rv105⟩, sa105, eC105, tC105, kC105⟩, ⟨ga105, gg105, eC105, hC105⟩, nw105, exm_of e1P e2P e3P sC105, a105, tI105, ok_NotRising T105 ⟨rdP, gaP⟩ a100 okP (PySem.W.mg_of X G aCP) k100 b100, b105⟩⟩
  have W : Word K mg CP := ⟨⟨f1, _, T1, PySem.W.mg_of X G a1, b1, PySem.W.mg_of X G aCP⟩⟩
  have F_p_is_number : Fn l.prog w K mg base 1 "is_number" ["thing"] (sp_p_is_number K [(P23, none), (P25, none), (P34, some (("law" : Str) ++ ".<locals>." ++ "<lambda>"))]) := Fn.mk' (ok_p_is_number (T := [(P23, none), (P25, none), (P34, some (("law" : Str) ++ ".<locals>." ++ "<lambda>"))]) T2 B    ) (PySem.W.mg_of X G a2) k2 b2
  have F_p_is_within : Fn l.prog w K mg base 2 "is_within" ["thing", "least", "most"] (sp_p_is_within K [(P23, none), (P25, none), (P34, some (("law" : Str) ++ ".<locals>." ++ "<lambda>"))]) := Fn.mk' (ok_p_is_within (T := [(P23, none), (P25, none), (P34, some (("law" : Str) ++ ".<locals>." ++ "<lambda>"))]) T3   F_p_is_number ) (PySem.W.mg_of X G a3) k3 b3
  have F_p_common_divisor : Fn l.prog w K mg base 1 "common_divisor" ["one", "other"] (sp_p_common_divisor K [(P23, none), (P25, none), (P34, some (("law" : Str) ++ ".<locals>." ++ "<lambda>"))]) := Fn.mk' (ok_p_common_divisor (T := [(P23, none), (P25, none), (P34, some (("law" : Str) ++ ".<locals>." ++ "<lambda>"))]) T4    ) (PySem.W.mg_of X G a4) k4 b4
  have F_p_amount : Fn l.prog w K mg base 2 "amount" ["num", "den"] (sp_p_amount K [(P23, none), (P25, none), (P34, some (("law" : Str) ++ ".<locals>." ++ "<lambda>"))]) := Fn.mk' (ok_p_amount (T := [(P23, none), (P25, none), (P34, some (("law" : Str) ++ ".<locals>." ++ "<lambda>"))]) T5 B   F_p_common_divisor ) (PySem.W.mg_of X G a5) k5 b5
  have F_p_minus : Fn l.prog w K mg base 3 "minus" ["one", "other"] (sp_p_minus K [(P23, none), (P25, none), (P34, some (("law" : Str) ++ ".<locals>." ++ "<lambda>"))]) := Fn.mk' (ok_p_minus (T := [(P23, none), (P25, none), (P34, some (("law" : Str) ++ ".<locals>." ++ "<lambda>"))]) T6   F_p_amount ) (PySem.W.mg_of X G a6) k6 b6
  have F_p_over : Fn l.prog w K mg base 3 "over" ["one", "other"] (sp_p_over K [(P23, none), (P25, none), (P34, some (("law" : Str) ++ ".<locals>." ++ "<lambda>"))]) := Fn.mk' (ok_p_over (T := [(P23, none), (P25, none), (P34, some (("law" : Str) ++ ".<locals>." ++ "<lambda>"))]) T7   F_p_amount ) (PySem.W.mg_of X G a7) k7 b7
  have F_p_below : Fn l.prog w K mg base 1 "below" ["one", "other"] (sp_p_below K [(P23, none), (P25, none), (P34, some (("law" : Str) ++ ".<locals>." ++ "<lambda>"))]) := Fn.mk' (ok_p_below (T := [(P23, none), (P25, none), (P34, some (("law" : Str) ++ ".<locals>." ++ "<lambda>"))]) T8    ) (PySem.W.mg_of X G a8) k8 b8
  have F_l_cell : Fn l.prog w K mg base 1 "_law_cell" ["_law_script", "_law_k"] (sp_l_cell K [(P23, none), (P25, none), (P34, some (("law" : Str) ++ ".<locals>." ++ "<lambda>"))]) := Fn.mk' (ok_l_cell (T := [(P23, none), (P25, none), (P34, some (("law" : Str) ++ ".<locals>." ++ "<lambda>"))]) T9 B    ) (PySem.W.mg_of X G a9) k9 b9
  have F_l_draws : Fn l.prog w K mg base 1 "_law_draws" ["_law_cell_here", "_law_parts"] (sp_l_draws K [(P23, none), (P25, none), (P34, some (("law" : Str) ++ ".<locals>." ++ "<lambda>"))]) := Fn.mk' (ok_l_draws (T := [(P23, none), (P25, none), (P34, some (("law" : Str) ++ ".<locals>." ++ "<lambda>"))]) T10    ) (PySem.W.mg_of X G a10) k10 b10
  have F_l_split : Fn l.prog w K mg base 1 "_law_split" ["_law_cell_here", "_law_many_here"] (sp_l_split K [(P23, none), (P25, none), (P34, some (("law" : Str) ++ ".<locals>." ++ "<lambda>"))]) := Fn.mk' (ok_l_split (T := [(P23, none), (P25, none), (P34, some (("law" : Str) ++ ".<locals>." ++ "<lambda>"))]) T11 B    ) (PySem.W.mg_of X G a11) k11 b11
  have F_l_many : Fn l.prog w K mg base 1 "_law_many" ["_law_script", "_law_few"] (sp_l_many K [(P23, none), (P25, none), (P34, some (("law" : Str) ++ ".<locals>." ++ "<lambda>"))]) := Fn.mk' (ok_l_many (T := [(P23, none), (P25, none), (P34, some (("law" : Str) ++ ".<locals>." ++ "<lambda>"))]) T12 B    ) (PySem.W.mg_of X G a12) k12 b12
  have F_l_same : Fn l.prog w K mg base 6 "_law_same" ["_law_found", "_law_due"] (sp_l_same K [(P23, none), (P25, none), (P34, some (("law" : Str) ++ ".<locals>." ++ "<lambda>"))]) := Fn.mk' (ok_l_same (T := [(P23, none), (P25, none), (P34, some (("law" : Str) ++ ".<locals>." ++ "<lambda>"))]) T13 B (PySem.W.mg_of X G a13) b13    ) (PySem.W.mg_of X G a13) k13 b13
  have F_l_gcd : Fn l.prog w K mg base 1 "_law_gcd" ["_law_one", "_law_other"] (sp_l_gcd K [(P23, none), (P25, none), (P34, some (("law" : Str) ++ ".<locals>." ++ "<lambda>"))]) := Fn.mk' (ok_l_gcd (T := [(P23, none), (P25, none), (P34, some (("law" : Str) ++ ".<locals>." ++ "<lambda>"))]) T14    ) (PySem.W.mg_of X G a14) k14 b14
  have F_l_amt : Fn l.prog w K mg base 2 "_law_amt" ["_law_num", "_law_den"] (sp_l_amt K [(P23, none), (P25, none), (P34, some (("law" : Str) ++ ".<locals>." ++ "<lambda>"))]) := Fn.mk' (ok_l_amt (T := [(P23, none), (P25, none), (P34, some (("law" : Str) ++ ".<locals>." ++ "<lambda>"))]) T15 B   F_l_gcd ) (PySem.W.mg_of X G a15) k15 b15
  have F_l_sub : Fn l.prog w K mg base 3 "_law_sub" ["_law_one", "_law_other"] (sp_l_sub K [(P23, none), (P25, none), (P34, some (("law" : Str) ++ ".<locals>." ++ "<lambda>"))]) := Fn.mk' (ok_l_sub (T := [(P23, none), (P25, none), (P34, some (("law" : Str) ++ ".<locals>." ++ "<lambda>"))]) T16   F_l_amt ) (PySem.W.mg_of X G a16) k16 b16
  have F_l_by : Fn l.prog w K mg base 3 "_law_by" ["_law_one", "_law_number"] (sp_l_by K [(P23, none), (P25, none), (P34, some (("law" : Str) ++ ".<locals>." ++ "<lambda>"))]) := Fn.mk' (ok_l_by (T := [(P23, none), (P25, none), (P34, some (("law" : Str) ++ ".<locals>." ++ "<lambda>"))]) T17   F_l_amt ) (PySem.W.mg_of X G a17) k17 b17
  have F_l_less : Fn l.prog w K mg base 1 "_law_less" ["_law_one", "_law_other"] (sp_l_less K [(P23, none), (P25, none), (P34, some (("law" : Str) ++ ".<locals>." ++ "<lambda>"))]) := Fn.mk' (ok_l_less (T := [(P23, none), (P25, none), (P34, some (("law" : Str) ++ ".<locals>." ++ "<lambda>"))]) T18    ) (PySem.W.mg_of X G a18) k18 b18
  have F_p_check_pace : Fx l.prog w K mg base 4 "check_pace" ["pace"] (sp_p_check_pace K [(P23, none), (P25, none), (P34, some (("law" : Str) ++ ".<locals>." ++ "<lambda>"))] CP) := Fx.mk' (ok_p_check_pace (T := [(P23, none), (P25, none), (P34, some (("law" : Str) ++ ".<locals>." ++ "<lambda>"))]) T19 ⟨⟨_, rfl⟩, PySem.W.mg_of X G y_MOST_PACE⟩ R_BadPace F_p_is_within ) (PySem.W.mg_of X G a19) k19 b19
  have F_p_check_paces : Fx l.prog w K mg base 5 "check_paces" ["paces", "most"] (sp_p_check_paces K [(P23, none), (P25, none), (P34, some (("law" : Str) ++ ".<locals>." ++ "<lambda>"))] CP) := Fx.mk' (ok_p_check_paces (T := [(P23, none), (P25, none), (P34, some (("law" : Str) ++ ".<locals>." ++ "<lambda>"))]) T20 B  R_BadCount F_p_check_pace ) (PySem.W.mg_of X G a20) k20 b20
  have F_p_check_rising : Fx l.prog w K mg base 6 "check_rising" ["paces"] (sp_p_check_rising K [(P23, none), (P25, none), (P34, some (("law" : Str) ++ ".<locals>." ++ "<lambda>"))] CP) := Fx.mk' (ok_p_check_rising (T := [(P23, none), (P25, none), (P34, some (("law" : Str) ++ ".<locals>." ++ "<lambda>"))]) T21 B ⟨⟨_, rfl⟩, PySem.W.mg_of X G y_MOST_HANDS⟩ R_NotRising F_p_check_paces ) (PySem.W.mg_of X G a21) k21 b21
  have F_l_rising_of : Fn l.prog w K mg base 2 "_law_rising_of" ["_law_cell_here"] (sp_l_rising_of K [(P23, none), (P25, none), (P34, some (("law" : Str) ++ ".<locals>." ++ "<lambda>"))]) := Fn.mk' (ok_l_rising_of (T := [(P23, none), (P25, none), (P34, some (("law" : Str) ++ ".<locals>." ++ "<lambda>"))]) T22 B   F_l_draws ) (PySem.W.mg_of X G a22) k22 b22
  have F_p_is_stretch : Fn l.prog w K mg base 1 "is_stretch" ["thing"] (sp_p_is_stretch K [(P23, none), (P25, none), (P34, some (("law" : Str) ++ ".<locals>." ++ "<lambda>"))]) := Fn.mk' (ok_p_is_stretch (T := [(P23, none), (P25, none), (P34, some (("law" : Str) ++ ".<locals>." ++ "<lambda>"))]) T23 hnT (by simp) (gx_lam B23) B ⟨⟨_, rfl⟩, PySem.W.mg_of X G y_MOST_STEPS_OR_TOIL⟩   (with_of T3) k3 (PySem.W.mg_of X G a3) (num_of T2) k2 (PySem.W.mg_of X G a2)) (PySem.W.mg_of X G a23) k23 b23
  have F_p_check_way : Fx l.prog w K mg base 4 "check_way" ["way"] (sp_p_check_way K [(P23, none), (P25, none), (P34, some (("law" : Str) ++ ".<locals>." ++ "<lambda>"))] CP) := Fx.mk' (ok_p_check_way (T := [(P23, none), (P25, none), (P34, some (("law" : Str) ++ ".<locals>." ++ "<lambda>"))]) T24 B ⟨⟨_, rfl⟩, PySem.W.mg_of X G y_MOST_STRETCHES⟩ R_BadWay F_p_is_stretch ) (PySem.W.mg_of X G a24) k24 b24
  have F_p_labour : Fx l.prog w K mg base 5 "labour" ["way"] (sp_p_labour K [(P23, none), (P25, none), (P34, some (("law" : Str) ++ ".<locals>." ++ "<lambda>"))] CP) := Fx.mk' (ok_p_labour (T := [(P23, none), (P25, none), (P34, some (("law" : Str) ++ ".<locals>." ++ "<lambda>"))]) T25 hnT (by simp) (gx_lam B25) B   F_p_check_way ) (PySem.W.mg_of X G a25) k25 b25
  have F_l_way : Fn l.prog w K mg base 2 "_law_way" ["_law_cell_here"] (sp_l_way K [(P23, none), (P25, none), (P34, some (("law" : Str) ++ ".<locals>." ++ "<lambda>"))]) := Fn.mk' (ok_l_way (T := [(P23, none), (P25, none), (P34, some (("law" : Str) ++ ".<locals>." ++ "<lambda>"))]) T26 B   F_l_draws ) (PySem.W.mg_of X G a26) k26 b26
  have F_l_labour : Fn l.prog w K mg base 1 "_law_labour" ["_law_way_here"] (sp_l_labour K [(P23, none), (P25, none), (P34, some (("law" : Str) ++ ".<locals>." ++ "<lambda>"))]) := Fn.mk' (ok_l_labour (T := [(P23, none), (P25, none), (P34, some (("law" : Str) ++ ".<locals>." ++ "<lambda>"))]) T27 B    ) (PySem.W.mg_of X G a27) k27 b27
  have F_l_way_ok : Fn l.prog w K mg base 1 "_law_way_ok" ["_law_way_here"] (sp_l_way_ok K [(P23, none), (P25, none), (P34, some (("law" : Str) ++ ".<locals>." ++ "<lambda>"))]) := Fn.mk' (ok_l_way_ok (T := [(P23, none), (P25, none), (P34, some (("law" : Str) ++ ".<locals>." ++ "<lambda>"))]) T28 B    ) (PySem.W.mg_of X G a28) k28 b28
  have F_l_spoilt_paces : Fn l.prog w K mg base 2 "_law_spoilt_paces" ["_law_cell_here", "_law_paces"] (sp_l_spoilt_paces K [(P23, none), (P25, none), (P34, some (("law" : Str) ++ ".<locals>." ++ "<lambda>"))]) := Fn.mk' (ok_l_spoilt_paces (T := [(P23, none), (P25, none), (P34, some (("law" : Str) ++ ".<locals>." ++ "<lambda>"))]) T29 B   F_l_draws ) (PySem.W.mg_of X G a29) k29 b29
  have F_l_paces_word : Fn l.prog w K mg base 1 "_law_paces_word" ["_law_paces"] (sp_l_paces_word K [(P23, none), (P25, none), (P34, some (("law" : Str) ++ ".<locals>." ++ "<lambda>"))]) := Fn.mk' (ok_l_paces_word (T := [(P23, none), (P25, none), (P34, some (("law" : Str) ++ ".<locals>." ++ "<lambda>"))]) T30 B    ) (PySem.W.mg_of X G a30) k30 b30
  have F_p_check_places : Fx l.prog w K mg base 4 "check_places" ["places", "fire"] (sp_p_check_places K [(P23, none), (P25, none), (P34, some (("law" : Str) ++ ".<locals>." ++ "<lambda>"))] CP) := Fx.mk' (ok_p_check_places (T := [(P23, none), (P25, none), (P34, some (("law" : Str) ++ ".<locals>." ++ "<lambda>"))]) T31 B (PySem.W.mg_of X G y_NOUGHT) (tup_const x_NOUGHT w_NOUGHT.1 w_NOUGHT.2) R_BadPlace F_p_below ) (PySem.W.mg_of X G a31) k31 b31
  have F_p_shares : Fx l.prog w K mg base 7 "shares" ["way", "paces", "places"] (sp_p_shares K [(P23, none), (P25, none), (P34, some (("law" : Str) ++ ".<locals>." ++ "<lambda>"))] CP) := Fx.mk' (ok_p_shares (T := [(P23, none), (P25, none), (P34, some (("law" : Str) ++ ".<locals>." ++ "<lambda>"))]) T32 B  R_BadCount F_p_minus F_p_over F_p_check_rising F_p_labour F_p_check_places ) (PySem.W.mg_of X G a32) k32 b32
  have F_l_spots : Fn l.prog w K mg base 3 "_law_spots" ["_law_cell_here", "_law_many_here", "_law_whole"] (sp_l_spots K [(P23, none), (P25, none), (P34, some (("law" : Str) ++ ".<locals>." ++ "<lambda>"))]) := Fn.mk' (ok_l_spots (T := [(P23, none), (P25, none), (P34, some (("law" : Str) ++ ".<locals>." ++ "<lambda>"))]) T33 B   F_l_draws F_l_amt ) (PySem.W.mg_of X G a33) k33 b33
  exact ok_LAW (T := [(P23, none), (P25, none), (P34, some (("law" : Str) ++ ".<locals>." ++ "<lambda>"))]) T34 hnT (by simp) B34 B   W F_l_cell F_l_draws F_l_split F_l_many F_l_same F_l_amt F_l_sub F_l_by F_l_less F_l_rising_of F_l_way F_l_labour F_l_way_ok F_l_spoilt_paces F_l_paces_word F_p_shares F_l_spots 
end My
open PySem PySem.W PyProof.Rows
set_option maxRecDepth 100000 in
set_option maxHeartbeats 0 in
theorem PySem.Challenge.cw_pailchain_k27_shares_of_places_holds : PySem.Challenge.rw_pailchain_k27_shares_of_places.Holds := by
  w_on; o_law; k_head; (case hw => w_witness2)
  k_fill
  refine My.walk_tabs (l := PySem.Challenge.rw_pailchain_k27_shares_of_places) (n := 63) (k := 12) (x := "_law_script") (CX := fun _ => L2.CX0) rfl (by decide) rfl ⟨rfl, by decide, by decide⟩ (by first | exact fun w h Y => PySem.W.kIn_of Y | exact fun w h Y => PySem.W.km_in_of Y) ?F (fun _ _ _ _ _ h => h)
  case F =>
    intro w mg fa h Y KX G hmg tabs
    refine' My.all_mk KX G hmg tabs ?a1 ?l1 ?c1_ ?k1 ?a2 ?l2 ?c2_ ?k2 ?a3 ?l3 ?c3_ ?k3 ?a4 ?l4 ?c4_ ?k4 ?a5 ?l5 ?c5_ ?k5 ?a6 ?l6 ?c6_ ?k6 ?a7 ?l7 ?c7_ ?k7 ?a8 ?l8 ?c8_ ?k8 ?a9 ?l9 ?c9_ ?k9 ?a10 ?l10 ?c10_ ?k10 ?a11 ?l11 ?c11_ ?k11 ?a12 ?l12 ?c12_ ?k12 ?a13 ?l13 ?c13_ ?k13 ?a14 ?l14 ?c14_ ?k14 ?a15 ?l15 ?c15_ ?k15 ?a16 ?l16 ?c16_ ?k16 ?a17 ?l17 ?c17_ ?k17 ?a18 ?l18 ?c18_ ?k18 ?a19 ?l19 ?c19_ ?k19 ?a20 ?l20 ?c20_ ?k20 ?a21 ?l21 ?c21_ ?k21 ?a22 ?l22 ?c22_ ?k22 ?a23 ?l23 ?c23_ ?k23 ?r23 ?v23 ?p23 ?n23 ?a24 ?l24 ?c24_ ?k24 ?a25 ?l25 ?c25_ ?k25 ?r25 ?v25 ?p25 ?n25 ?a26 ?l26 ?c26_ ?k26 ?a27 ?l27 ?c27_ ?k27 ?a28 ?l28 ?c28_ ?k28 ?a29 ?l29 ?c29_ ?k29 ?a30 ?l30 ?c30_ ?k30 ?a31 ?l31 ?c31_ ?k31 ?a32 ?l32 ?c32_ ?k32 ?a33 ?l33 ?c33_ ?k33 ?a34 ?l34 ?c34_ ?k34 ?r34 ?v34 ?p34 ?n34 ?aCP ?rdP ?gaP ?a100 ?l100 ?c100_ ?k100 ?e1P ?e2P ?e3P ?vV ?aC101 ?xL101 ?rv101 ?sa101 ?ga101 ?gg101 ?nw101 ?a101 ?l101 ?c101_ ?k101 ?tI101 ?kC101 ?eC101 ?tC101 ?hC101 ?sC101 ?aC102 ?xL102 ?rv102 ?sa102 ?ga102 ?gg102 ?nw102 ?a102 ?l102 ?c102_ ?k102 ?tI102 ?kC102 ?eC102 ?tC102 ?hC102 ?sC102 ?aC103 ?xL103 ?rv103 ?sa103 ?ga103 ?gg103 ?nw103 ?a103 ?l103 ?c103_ ?k103 ?tI103 ?kC103 ?eC103 ?tC103 ?hC103 ?sC103 ?aC104 ?xL104 ?rv104 ?sa104 ?ga104 ?gg104 ?nw104 ?a104 ?l104 ?c104_ ?k104 ?tI104 ?kC104 ?eC104 ?tC104 ?hC104 ?sC104 ?aC105 ?xL105 ?rv105 ?sa105 ?ga105 ?gg105 ?nw105 ?a105 ?l105 ?c105_ ?k105 ?tI105 ?kC105 ?eC105 ?tC105 ?hC105 ?sC105 ?z_ValueError ?z_abs ?z_all ?z_bool ?z_int ?z_isinstance ?z_len ?z_list ?z_max ?z_min ?z_range ?z_sorted ?z_str ?z_sum ?z_tuple ?z_zip ?y_MOST_HANDS ?y_MOST_PACE ?y_MOST_STEPS_OR_TOIL ?y_MOST_STRETCHES ?y_NOUGHT ?x_NOUGHT ?w_NOUGHT ?ndT
    (case a1 => k_is)
    (case l1 => k_is)
    (case c1_ => k_is)
    (case k1 => k_is)
    (case a2 => k_is)
    (case l2 => k_is)
    (case c2_ => k_is)
    (case k2 => k_is)
    (case a3 => k_is)
    (case l3 => k_is)
    (case c3_ => k_is)
    (case k3 => k_is)
    (case a4 => k_is)
    (case l4 => k_is)
    (case c4_ => k_is)
    (case k4 => k_is)
    (case a5 => k_is)
    (case l5 => k_is)
    (case c5_ => k_is)
    (case k5 => k_is)
    (case a6 => k_is)
    (case l6 => k_is)
    (case c6_ => k_is)
    (case k6 => k_is)
    (case a7 => k_is)
    (case l7 => k_is)
    (case c7_ => k_is)
    (case k7 => k_is)
    (case a8 => k_is)
    (case l8 => k_is)
    (case c8_ => k_is)
    (case k8 => k_is)
    (case a9 => k_is)
    (case l9 => k_is)
    (case c9_ => k_is)
    (case k9 => k_is)
    (case a10 => k_is)
    (case l10 => k_is)
    (case c10_ => k_is)
    (case k10 => k_is)
    (case a11 => k_is)
    (case l11 => k_is)
    (case c11_ => k_is)
    (case k11 => k_is)
    (case a12 => k_is)
    (case l12 => k_is)
    (case c12_ => k_is)
    (case k12 => k_is)
    (case a13 => k_is)
    (case l13 => k_is)
    (case c13_ => k_is)
    (case k13 => k_is)
    (case a14 => k_is)
    (case l14 => k_is)
    (case c14_ => k_is)
    (case k14 => k_is)
    (case a15 => k_is)
    (case l15 => k_is)
    (case c15_ => k_is)
    (case k15 => k_is)
    (case a16 => k_is)
    (case l16 => k_is)
    (case c16_ => k_is)
    (case k16 => k_is)
    (case a17 => k_is)
    (case l17 => k_is)
    (case c17_ => k_is)
    (case k17 => k_is)
    (case a18 => k_is)
    (case l18 => k_is)
    (case c18_ => k_is)
    (case k18 => k_is)
    (case a19 => k_is)
    (case l19 => k_is)
    (case c19_ => k_is)
    (case k19 => k_is)
    (case a20 => k_is)
    (case l20 => k_is)
    (case c20_ => k_is)
    (case k20 => k_is)
    (case a21 => k_is)
    (case l21 => k_is)
    (case c21_ => k_is)
    (case k21 => k_is)
    (case a22 => k_is)
    (case l22 => k_is)
    (case c22_ => k_is)
    (case k22 => k_is)
    (case a23 => k_is)
    (case l23 => k_is)
    (case c23_ => k_is)
    (case k23 => k_is)
    (case r23 => decide +kernel)
    (case v23 => k_is)
    (case p23 => first | exact rfl | decide +kernel)
    (case n23 => first | kernel_rfl | exact rfl)
    (case a24 => k_is)
    (case l24 => k_is)
    (case c24_ => k_is)
    (case k24 => k_is)
    (case a25 => k_is)
    (case l25 => k_is)
    (case c25_ => k_is)
    (case k25 => k_is)
    (case r25 => decide +kernel)
    (case v25 => k_is)
    (case p25 => first | exact rfl | decide +kernel)
    (case n25 => first | kernel_rfl | exact rfl)
    (case a26 => k_is)
    (case l26 => k_is)
    (case c26_ => k_is)
    (case k26 => k_is)
    (case a27 => k_is)
    (case l27 => k_is)
    (case c27_ => k_is)
    (case k27 => k_is)
    (case a28 => k_is)
    (case l28 => k_is)
    (case c28_ => k_is)
    (case k28 => k_is)
    (case a29 => k_is)
    (case l29 => k_is)
    (case c29_ => k_is)
    (case k29 => k_is)
    (case a30 => k_is)
    (case l30 => k_is)
    (case c30_ => k_is)
    (case k30 => k_is)
    (case a31 => k_is)
    (case l31 => k_is)
    (case c31_ => k_is)
    (case k31 => k_is)
    (case a32 => k_is)
    (case l32 => k_is)
    (case c32_ => k_is)
    (case k32 => k_is)
    (case a33 => k_is)
    (case l33 => k_is)
    (case c33_ => k_is)
    (case k33 => k_is)
    (case a34 => k_is)
    (case l34 => k_is)
    (case c34_ => k_is)
    (case k34 => k_is)
    (case r34 => decide +kernel)
    (case v34 => k_is)
    (case p34 => first | exact rfl | decide +kernel)
    (case n34 => first | kernel_rfl | exact rfl)
    (case aCP => k_is)
    (case rdP => k_is)
    (case gaP => k_is)
    (case a100 => k_is)
    (case l100 => k_is)
    (case c100_ => k_is)
    (case k100 => k_is)
    (case e1P => k_is)
    (case e2P => k_is)
    (case e3P => k_is)
    (case vV => k_is)
    (case aC101 => k_is)
    (case xL101 => k_is)
    (case rv101 => first | rfl | decide +kernel | k_is)
    (case sa101 => k_is)
    (case ga101 => k_is)
    (case gg101 => k_is)
    (case nw101 => k_is)
    (case a101 => k_is)
    (case l101 => k_is)
    (case c101_ => k_is)
    (case k101 => k_is)
    (case tI101 => k_is)
    (case kC101 => k_is)
    (case eC101 => k_is)
    (case tC101 => k_is)
    (case hC101 => k_is)
    (case sC101 => first | rfl | k_is)
    (case aC102 => k_is)
    (case xL102 => k_is)
    (case rv102 => first | rfl | decide +kernel | k_is)
    (case sa102 => k_is)
    (case ga102 => k_is)
    (case gg102 => k_is)
    (case nw102 => k_is)
    (case a102 => k_is)
    (case l102 => k_is)
    (case c102_ => k_is)
    (case k102 => k_is)
    (case tI102 => k_is)
    (case kC102 => k_is)
    (case eC102 => k_is)
    (case tC102 => k_is)
    (case hC102 => k_is)
    (case sC102 => first | rfl | k_is)
    (case aC103 => k_is)
    (case xL103 => k_is)
    (case rv103 => first | rfl | decide +kernel | k_is)
    (case sa103 => k_is)
    (case ga103 => k_is)
    (case gg103 => k_is)
    (case nw103 => k_is)
    (case a103 => k_is)
    (case l103 => k_is)
    (case c103_ => k_is)
    (case k103 => k_is)
    (case tI103 => k_is)
    (case kC103 => k_is)
    (case eC103 => k_is)
    (case tC103 => k_is)
    (case hC103 => k_is)
    (case sC103 => first | rfl | k_is)
    (case aC104 => k_is)
    (case xL104 => k_is)
    (case rv104 => first | rfl | decide +kernel | k_is)
    (case sa104 => k_is)
    (case ga104 => k_is)
    (case gg104 => k_is)
    (case nw104 => k_is)
    (case a104 => k_is)
    (case l104 => k_is)
    (case c104_ => k_is)
    (case k104 => k_is)
    (case tI104 => k_is)
    (case kC104 => k_is)
    (case eC104 => k_is)
    (case tC104 => k_is)
    (case hC104 => k_is)
    (case sC104 => first | rfl | k_is)
    (case aC105 => k_is)
    (case xL105 => k_is)
    (case rv105 => first | rfl | decide +kernel | k_is)
    (case sa105 => k_is)
    (case ga105 => k_is)
    (case gg105 => k_is)
    (case nw105 => k_is)
    (case a105 => k_is)
    (case l105 => k_is)
    (case c105_ => k_is)
    (case k105 => k_is)
    (case tI105 => k_is)
    (case kC105 => k_is)
    (case eC105 => k_is)
    (case tC105 => k_is)
    (case hC105 => k_is)
    (case sC105 => first | rfl | k_is)
    (case z_ValueError => k_is)
    (case z_abs => k_is)
    (case z_all => k_is)
    (case z_bool => k_is)
    (case z_int => k_is)
    (case z_isinstance => k_is)
    (case z_len => k_is)
    (case z_list => k_is)
    (case z_max => k_is)
    (case z_min => k_is)
    (case z_range => k_is)
    (case z_sorted => k_is)
    (case z_str => k_is)
    (case z_sum => k_is)
    (case z_tuple => k_is)
    (case z_zip => k_is)
    (case y_MOST_HANDS => k_is)
    (case y_MOST_PACE => k_is)
    (case y_MOST_STEPS_OR_TOIL => k_is)
    (case y_MOST_STRETCHES => k_is)
    (case y_NOUGHT => k_is)
    (case x_NOUGHT => k_is)
    (case w_NOUGHT => exact ⟨by decide, .cons ⟨_, rfl⟩ (.cons ⟨_, rfl⟩ .nil)⟩)
    (case ndT => decide +kernel)
