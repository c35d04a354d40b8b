import PyProof.Rows.All
import Wide.All
import OpenK.AllK
import Wide.FinOn
import HandS.ForMost
import HandS.Wide
import HandS.IsInst
import HandS.NoneIn
import HandS.EndBits
import HandS.FStr
import HandS.ClsMeth
import HandS.ExcField
import HandS.ExcInit
import HandS.ForExc
import HandS.EndTab
import HandS.Lambda
import HandS.AnyAll
import HandS.RevRange
import HandS.SortInts
import HandS.More
import HandS.Walk
import HandS.Flow
import HandS.Zip
import HandS.TupAny
import KE.GoesEnum
import KE.KStateDown
import HandS.Head2
import HandS.HeadHook4
import HandS.HeadWalk
import PySem.Challenge.RW_pailchain_k12_called_away_and_told_to_st
set_option Elab.async false
set_option linter.all false
set_option maxRecDepth 100000
set_option maxHeartbeats 4000000
namespace My
open PySem PySem.Spec PyProof.Rows L2
/-! ### a def of the text with its promise, ready to be called -/
structure Fn (P : Program) (w : World) (K : PySem.W.Frag) (mg : Str → Option Value) (base : Heap) (k : Nat) (x : Str) (ps : List Str) (sp : Sp) : Prop where
  ex : ∃ f fd, FnOk P w K mg base CX0 k f fd ps sp ∧ mg x = some (.ref f) ∧ PySem.W.keepIn K (.ref f) = true ∧ Binds K fd ps []
theorem Fn.mk' {P : Program} {w : World} {K : PySem.W.Frag} {mg : Str → Option Value} {base : Heap} {k : Nat} {x : Str} {ps : List Str} {sp : Sp} {f : Addr} {fd : FuncData}
    (h : FnOk P w K mg base CX0 k f fd ps sp) (g : mg x = some (.ref f)) (kp : PySem.W.keepIn K (.ref f) = true) (b : Binds K fd ps []) : Fn P w K mg base k x ps sp := ⟨⟨f, fd, h, g, kp, b⟩⟩
section
variable {X : Cx} {k : Nat} {x : Str} {ps : List Str} {sp : Sp} {e : Expr} {es : List Expr} {t : TA} {p pos : Pos}
theorem pe_fn (F : Fn X.prog X.w X.K X.mg X.base k x ps sp) (hr : Room k X.A) (ha : PA X (e :: es) t) (hg : Gl X x := by rfl) (hdb : (x == ("__debug__" : Str)) = false := by decide)
    (he : starEach (e :: es) X.env = (false, eval e X.env) :: starEach es X.env := by rfl) (hpl : (backTo pos (starEach es X.env)).any (·.1) = false := by rfl) :
    PE X (.Call (.Name x p) (e :: es) [] pos) (tCall sp [] E0 t) := by
  obtain ⟨f, fd, h, g, kp, b⟩ := F.ex
  exact pe_call h hr hg g kp b .nil pass0 ha hdb he hpl
theorem pe_fn0 (F : Fn X.prog X.w X.K X.mg X.base k x ps sp) (hr : Room k X.A) (hg : Gl X x := by rfl) (hdb : (x == ("__debug__" : Str)) = false := by decide) :
    PE X (.Call (.Name x p) [] [] pos) (tCall sp [] E0 tNil) := by
  obtain ⟨f, fd, h, g, kp, b⟩ := F.ex
  exact pe_call0 h hr hg g kp b .nil pass0 hdb
end
/-! ### heaps: what a def leaves; the tables of code objects may grow -/
/-- the tables that grow: a table of generator expressions (none), of lambdas (their name) -/
abbrev Tb := List (Addr × Option Str)
def OkP (H : Hp) (p : Addr × Option Str) : Prop := match p.2 with
  | none => GxR.TabG H p.1
  | some q => LamX.TabS H p.1 q
def Ok (T : Tb) (H : Hp) : Prop := ∀ p ∈ T, OkP H p
def nTbl : HO → Prop
  | .tbl _ => False
  | _ => True
structure Sm (T : Tb) (H H' : Hp) : Prop where
  keep : ∀ b o, H b = some o → nTbl o → H' b = some o
  ok : Ok T H → Ok T H'
  free : ∀ l, H' l = none → H l = none
theorem nTbl_ne {o : HO} (h : nTbl o) (ps : Array Value) : o ≠ .tbl ps := fun e => by rw [e] at h; exact h
theorem Sm.k {T : Tb} {H H' : Hp} (s : Sm T H H') {b : Addr} {o : HO} (e : H b = some o) (n : nTbl o := by trivial) : H' b = some o := s.keep b o e n
theorem Sm.refl {T : Tb} {H : Hp} : Sm T H H := ⟨fun _ _ e _ => e, fun h => h, fun _ h => h⟩
theorem Sm.trans {T : Tb} {H H1 H2 : Hp} (a : Sm T H H1) (b : Sm T H1 H2) : Sm T H H2 := ⟨fun c o e n => b.keep c o (a.keep c o e n) n, fun h => b.ok (a.ok h), fun l h => a.free l (b.free l h)⟩
theorem Sm.seq {T : Tb} {K : PySem.W.Frag} {H H' : Hp} {a : Addr} {xs : List V} (e : Sm T H H') (h : SqL K H a xs) : SqL K H' a xs := by
  rcases h with (h | ⟨o, h⟩) | h
  · exact .inl (.inl (e.keep _ _ h trivial))
  · exact .inl (.inr ⟨o, e.keep _ _ h trivial⟩)
  · exact .inr h
theorem same_tup {T : Tb} {K : PySem.W.Frag} {H H' : Hp} {a : Addr} {xs : List V} (e : Sm T H H') (h : SqT K H a xs) : SqT K H' a xs := by
  rcases h with (h | ⟨o, h⟩) | h
  · exact .inl (.inl (e.keep _ _ h trivial))
  · exact .inl (.inr ⟨o, e.keep _ _ h trivial⟩)
  · exact .inr h
theorem Sm.lst {T : Tb} {H H' : Hp} {a : Addr} {xs : List V} (e : Sm T H H') (h : H a = some (.lst xs)) : H' a = some (.lst xs) := e.keep _ _ h trivial
theorem okP_ext {H H' : Hp} {p : Addr × Option Str} (h : OkP H p) (e : ∀ b o, H b = some o → H' b = some o) : OkP H' p := by
  obtain ⟨P, q⟩ := p
  cases q with
  | none =>
    obtain ⟨ps, h1, h2⟩ := (show GxR.TabG H P from h)
    exact ⟨ps, e _ _ h1, h2⟩
  | some q => exact LamX.TabS.ext (show LamX.TabS H P q from h) e
/-- the one list at p is changed -/
theorem okP_mut {H : Hp} {p : Addr × Option Str} {a : Addr} {o : HO} {xs : List V} (h : OkP H p) (ha : H a = some (.lst xs)) : OkP (upd H a o) p := by
  have k : ∀ b u, H b = some u → u ≠ .lst xs → upd H a o b = some u := fun b u e n => by
    rw [upd_ne (fun z => n (by rw [z, ha] at e; exact (Option.some.inj e).symm))]
    exact e
  obtain ⟨P, q⟩ := p
  cases q with
  | none =>
    obtain ⟨ps, h1, h2⟩ := (show GxR.TabG H P from h)
    exact ⟨ps, k _ _ h1 (fun z => by cases z), h2⟩
  | some q =>
    obtain ⟨ps, h1, h2, h3⟩ := (show LamX.TabS H P q from h)
    refine ⟨ps, k _ _ h1 (fun z => by cases z), h2, fun pos cv hc => ?_⟩
    obtain ⟨c, e1, e2⟩ := h3 pos cv hc
    exact ⟨c, e1, k _ _ e2 (fun z => by unfold LamX.CodeO at z; cases z)⟩
theorem same_upd {T : Tb} {H : Hp} {p : Addr} {o : HO} (h : H p = none) : Sm T H (upd H p o) := by
  have k : ∀ b x, H b = some x → upd H p o b = some x := fun b x e => by
    rw [upd_ne (ne_of_none e h)]
    exact e
  refine ⟨fun b x e _ => k b x e, fun h q hq => okP_ext (h q hq) k, fun l hl => ?_⟩
  cases q : H l with
  | none => rfl
  | some x => rw [k _ _ q] at hl; cases hl
theorem same_mut {T : Tb} {H H' : Hp} {p : Addr} {o : HO} {xs : List V} (e : Sm T H H') (h : H p = none) (hp : H' p = some (.lst xs)) : Sm T H (upd H' p o) := by
  refine ⟨fun b x q n => ?_, fun hk q hq => okP_mut (e.ok hk q hq) hp, fun l hl => ?_⟩
  · rw [upd_ne (ne_of_none q h)]
    exact e.keep b x q n
  · by_cases z : l = p
    · rw [z]; exact h
    · rw [upd_ne z] at hl
      exact e.free l hl
theorem seq_k {t u : TS} {D : Ends} {σ : L2.St} {H : Hp} (P : L2.St → Hp → Prop) (hu : ∀ σ' H', P σ' H' → u D σ' H') (h : (∀ σ' H', P σ' H' → u D σ' H') → tSeq t u D σ H) : tSeq t u D σ H := h hu
theorem seq_if {c : TT} {t1 t2 u : TS} {D : Ends} {σ : L2.St} {H : Hp} (P : L2.St → Hp → Prop) (hu : ∀ σ' H', P σ' H' → u D σ' H') (h : (∀ σ' H', P σ' H' → u D σ' H') → tSeq (tIfS c t1 t2) u D σ H) : tSeq (tIfS c t1 t2) u D σ H := h hu
theorem seq_as {te : TE} {g : TG} {u : TS} {D : Ends} {σ : L2.St} {H : Hp} (P : L2.St → Hp → Prop) (hu : ∀ σ' H', P σ' H' → u D σ' H') (h : (∀ σ' H', P σ' H' → u D σ' H') → tSeq (tAsg te g) u D σ H) : tSeq (tAsg te g) u D σ H := h hu
theorem sz {n : Nat} (h : n ≤ 10000) : n ≤ sizeLine := Nat.le_trans h (by decide)
theorem szl {n : Nat} (h : n < 10000) : n < sizeLine := Nat.lt_of_lt_of_le h (by decide)
/-! ### data -/
mutual
theorem dp_same {T : Tb} {K : PySem.W.Frag} {H H' : Hp} (e : Sm T H H') : ∀ (d : PyData) (v : V), Dp K H v d → Dp K H' v d
  | .none, _, h => by cases h; exact .non
  | .bool b, _, h => by cases h; exact .bl b
  | .int i, _, h => by cases h; exact .int i
  | .str x, _, h => by cases h; exact .str x
  | .list ds, _, h => by
    cases h with
    | lst hs ha => exact .lst (e.seq hs) (dpa_same e ds _ ha)
  | .tuple ds, _, h => by
    cases h with
    | tup hs ha => exact .tup (same_tup e hs) (dpa_same e ds _ ha)
  | .dict _, _, h => by cases h
theorem dpa_same {T : Tb} {K : PySem.W.Frag} {H H' : Hp} (e : Sm T H H') : ∀ (ds : List PyData) (vs : List V), DpAll K H vs ds → DpAll K H' vs ds
  | [], _, h => by cases h; exact .nil
  | d :: ds, _, h => by
    cases h with
    | cons h1 h2 => exact .cons (dp_same e d _ h1) (dpa_same e ds _ h2)
end
theorem dpa_len {K : PySem.W.Frag} {H : Hp} : ∀ {vs : List V} {ds : List PyData}, DpAll K H vs ds → vs.length = ds.length
  | _, [], h => by cases h; rfl
  | _, _ :: _, h => by
    cases h with
    | cons _ h2 => exact congrArg (· + 1) (dpa_len h2)
theorem dpa_get {K : PySem.W.Frag} {H : Hp} : ∀ {vs : List V} {ds : List PyData}, DpAll K H vs ds → ∀ {i : Nat} {d : PyData}, ds[i]? = some d → ∃ v, vs[i]? = some v ∧ Dp K H v d
  | _, [], h, i, d, e => by simp at e
  | _, d0 :: ds, h, 0, d, e => by
    cases h with
    | cons h1 h2 =>
      obtain rfl : d0 = d := Option.some.inj e
      exact ⟨_, rfl, h1⟩
  | _, d0 :: ds, h, i + 1, d, e => by
    cases h with
    | cons h1 h2 => exact dpa_get h2 (i := i) e
def depOk : Nat → PyData → Bool
  | _, .none => true
  | _, .bool _ => true
  | _, .int _ => true
  | _, .str _ => true
  | n + 1, .list ds => decide (ds.length ≤ 9000) && ds.all (depOk n)
  | n + 1, .tuple ds => decide (ds.length ≤ 9000) && ds.all (depOk n)
  | _, _ => false
def tyD : PyData → String
  | .none => "NoneType"
  | .bool _ => "bool"
  | .int _ => "int"
  | .str _ => "str"
  | .list _ => "list"
  | .tuple _ => "tuple"
  | .dict _ => "dict"
theorem tyx_of {K : PySem.W.Frag} {H : Hp} : ∀ {d : PyData} {v : V}, Dp K H v d → TyX K H v (.type (tyD d))
  | _, _, .non => .base .non
  | _, _, .bl b => .base (.bl b)
  | _, _, .int i => .base (.int i)
  | _, _, .str x => .base (.str x)
  | _, _, .lst (.inl (.inl h)) _ => .base (.lst h)
  | _, _, .lst (.inl (.inr ⟨_, h⟩)) _ => .base (.frz h)
  | _, _, .lst (.inr ⟨_, _, _, h, c, _⟩) _ => .kList h c
  | _, _, .tup (.inl (.inl h)) _ => .base (.tup h)
  | _, _, .tup (.inl (.inr ⟨_, h⟩)) _ => .fTuple h
  | _, _, .tup (.inr ⟨_, _, _, h, c, _⟩) _ => .kTuple h c
theorem rep_all (n : Nat) : (List.replicate n true).all id = true := by
  induction n with
  | zero => rfl
  | succ n ih => rw [List.replicate_succ, List.all_cons, ih]; rfl
def rLen (K : PySem.W.Frag) : List V → Hp → VK → Prop := fun xs H Q => ∃ p ys, xs = [.ref p] ∧ (SqL K H p ys ∨ SqT K H p ys) ∧ Q (.int ys.length) H
def rLst (K : PySem.W.Frag) : List V → Hp → VK → Prop := fun xs H Q => ∃ p ys, xs = [.ref p] ∧ (SqL K H p ys ∨ SqT K H p ys) ∧ ∀ (l : Addr), H l = none → Q (.ref l) (upd H l (.lst ys))
theorem call_list1 {X : Cx} : CallR X (.type "list") (rLst X.K) := call_list_of
theorem call_len1 {X : Cx} : CallR X (.builtin "len") (rLen X.K) := call_len_seq
theorem kb_bool_bool : kitB "bool" "bool" = some true := by decide +kernel
theorem kb_bool_int : kitB "bool" "int" = some true := by decide +kernel
theorem kb_bool_str : kitB "bool" "str" = some false := by decide +kernel
theorem kb_bool_list : kitB "bool" "list" = some false := by decide +kernel
theorem kb_bool_tuple : kitB "bool" "tuple" = some false := by decide +kernel
theorem kb_int_bool : kitB "int" "bool" = some false := by decide +kernel
theorem kb_int_int : kitB "int" "int" = some true := by decide +kernel
theorem kb_int_str : kitB "int" "str" = some false := by decide +kernel
theorem kb_int_list : kitB "int" "list" = some false := by decide +kernel
theorem kb_int_tuple : kitB "int" "tuple" = some false := by decide +kernel
theorem kb_str_bool : kitB "str" "bool" = some false := by decide +kernel
theorem kb_str_int : kitB "str" "int" = some false := by decide +kernel
theorem kb_str_str : kitB "str" "str" = some true := by decide +kernel
theorem kb_str_list : kitB "str" "list" = some false := by decide +kernel
theorem kb_str_tuple : kitB "str" "tuple" = some false := by decide +kernel
theorem kb_list_bool : kitB "list" "bool" = some false := by decide +kernel
theorem kb_list_int : kitB "list" "int" = some false := by decide +kernel
theorem kb_list_str : kitB "list" "str" = some false := by decide +kernel
theorem kb_list_list : kitB "list" "list" = some true := by decide +kernel
theorem kb_list_tuple : kitB "list" "tuple" = some false := by decide +kernel
theorem kb_tuple_bool : kitB "tuple" "bool" = some false := by decide +kernel
theorem kb_tuple_int : kitB "tuple" "int" = some false := by decide +kernel
theorem kb_tuple_str : kitB "tuple" "str" = some false := by decide +kernel
theorem kb_tuple_list : kitB "tuple" "list" = some false := by decide +kernel
theorem kb_tuple_tuple : kitB "tuple" "tuple" = some true := by decide +kernel
theorem kb_NoneType_bool : kitB "NoneType" "bool" = some false := by decide +kernel
theorem kb_NoneType_int : kitB "NoneType" "int" = some false := by decide +kernel
theorem kb_NoneType_str : kitB "NoneType" "str" = some false := by decide +kernel
theorem kb_NoneType_list : kitB "NoneType" "list" = some false := by decide +kernel
theorem kb_NoneType_tuple : kitB "NoneType" "tuple" = some false := by decide +kernel
theorem tyes_t {σ : L2.St} {H : Hp} {Q : Bool → Hp → Prop} (h : Q true H) : tYes σ H Q := h
theorem tyes_i {σ : L2.St} {H : Hp} {A B : Hp → Prop} (h : A H) : tYes σ H (fun b H3 => if b = true then A H3 else B H3) := iteT (A := A H) (B := B H) h
/-! ### draws -/
def Drawn : List Int → List Int → Prop
  | [], [] => True
  | d :: ds, q :: qs => (0 ≤ d ∧ d < q) ∧ Drawn ds qs
  | _, _ => False
theorem Drawn.cons {ds qs : List Int} {q : Int} (h : Drawn ds (q :: qs)) : ∃ d r, ds = d :: r ∧ 0 ≤ d ∧ d < q ∧ Drawn r qs := by
  cases ds with
  | nil => exact h.elim
  | cons d r => exact ⟨d, r, rfl, h.1.1, h.1.2, h.2⟩
theorem Drawn.nil {ds : List Int} (h : Drawn ds []) : ds = [] := by
  cases ds with
  | nil => rfl
  | cons d r => exact h.elim
theorem Drawn.snoc : ∀ {ds qs : List Int} {d q : Int}, Drawn ds qs → 0 ≤ d → d < q → Drawn (ds ++ [d]) (qs ++ [q])
  | [], [], _, _, _, h0, h1 => ⟨⟨h0, h1⟩, trivial⟩
  | [], _ :: _, _, _, h, _, _ => h.elim
  | _ :: _, [], _, _, h, _, _ => h.elim
  | _ :: _, _ :: _, _, _, h, h0, h1 => ⟨h.1, Drawn.snoc h.2 h0 h1⟩
theorem Drawn.length : ∀ {ds qs : List Int}, Drawn ds qs → ds.length = qs.length
  | [], [], _ => rfl
  | [], _ :: _, h => h.elim
  | _ :: _, [], h => h.elim
  | _ :: _, _ :: _, h => congrArg (· + 1) (Drawn.length h.2)
/-! ### amounts -/
abbrev Am := Int × Int
def tv (x : Am) : List V := [.int x.1, .int x.2]
def amt (n d : Int) : Am := ((if d < 0 then -n else n) / (Nat.gcd n.natAbs d.natAbs : Nat), (d.natAbs : Int) / (Nat.gcd n.natAbs d.natAbs : Nat))
theorem amD_dp {K : PySem.W.Frag} {H : Hp} {p : Addr} {x : Am} (h : SqT K H p (tv x)) : Dp K H (.ref p) (.tuple [.int x.1, .int x.2]) := .tup h (.cons (.int _) (.cons (.int _) .nil))
abbrev amD (x : Am) : PyData := .tuple [.int x.1, .int x.2]
theorem tup_dp {K : PySem.W.Frag} {H : Hp} {p : Addr} {x : Am} (h : H p = some (.tup (tv x))) : Dp K H (.ref p) (amD x) := amD_dp (SqT.of h)
theorem pd_at {K : PySem.W.Frag} {H : Hp} {v : V} {x : Am} (h : Dp K H v (amD x)) : ∃ b, v = .ref b ∧ SqT K H b (tv x) := by
  cases h with
  | tup hs ha =>
    cases ha with
    | cons h1 h2 =>
      cases h2 with
      | cons h3 h4 =>
        cases h4
        cases h1
        cases h3
        exact ⟨_, rfl, hs⟩
theorem dpa_app {K : PySem.W.Frag} {H : Hp} : ∀ {vs : List V} {ds : List PyData} {ws : List V} {es : List PyData}, DpAll K H vs ds → DpAll K H ws es → DpAll K H (vs ++ ws) (ds ++ es)
  | _, [], _, _, h, g => by cases h; exact g
  | _, _ :: _, _, _, h, g => by
    cases h with
    | cons h1 h2 => exact .cons h1 (dpa_app h2 g)
theorem dpa_take {K : PySem.W.Frag} {H : Hp} : ∀ {vs : List V} {ds : List PyData} (n : Nat), DpAll K H vs ds → DpAll K H (vs.take n) (ds.take n)
  | _, _, 0, _ => .nil
  | _, [], n + 1, h => by cases h; exact .nil
  | _, _ :: _, n + 1, h => by
    cases h with
    | cons h1 h2 => exact .cons h1 (dpa_take n h2)
theorem dpa_drop {K : PySem.W.Frag} {H : Hp} : ∀ {vs : List V} {ds : List PyData} (n : Nat), DpAll K H vs ds → DpAll K H (vs.drop n) (ds.drop n)
  | _, _, 0, h => h
  | _, [], n + 1, h => by cases h; exact .nil
  | _, _ :: _, n + 1, h => by
    cases h with
    | cons h1 h2 => exact dpa_drop n h2
/-- pairs stay where a list is changed -/
theorem pd_mut {K : PySem.W.Frag} {H : Hp} {v : V} {x : Am} {a : Addr} {o : HO} {xs : List V} (h : Dp K H v (amD x)) (ha : H a = some (.lst xs)) : Dp K (upd H a o) v (amD x) := by
  obtain ⟨b, rfl, hs⟩ := pd_at h
  refine amD_dp ?_
  rcases hs with (hs | ⟨u, hs⟩) | hs
  · exact .inl (.inl (by rw [upd_ne (ne_of hs ha (fun z => by cases z))]; exact hs))
  · exact .inl (.inr ⟨u, by rw [upd_ne (ne_of hs ha (fun z => by cases z))]; exact hs⟩)
  · exact .inr hs
theorem pds_mut {K : PySem.W.Frag} {H : Hp} {a : Addr} {o : HO} {xs : List V} (ha : H a = some (.lst xs)) : ∀ {vs : List V} {qs : List Am}, DpAll K H vs (qs.map amD) → DpAll K (upd H a o) vs (qs.map amD)
  | _, [], h => by cases h; exact .nil
  | _, _ :: _, h => by
    cases h with
    | cons h1 h2 => exact .cons (pd_mut h1 ha) (pds_mut ha h2)
theorem cut_take (xs : List V) (k : Nat) {z : Int} (hz : z = (k : Int)) : cutV xs none (some z) = xs.take k := by
  subst hz
  unfold cutV
  rw [HT.sIx_none, HT.sIx_nat, List.drop_zero, Nat.sub_zero]
  by_cases h : k ≤ xs.length
  · rw [Nat.min_eq_left h]
  · rw [Nat.min_eq_right (by omega), List.take_length, List.take_of_length_le (by omega)]
theorem cut_drop (xs : List V) (k : Nat) {z : Int} (hz : z = (k : Int)) : cutV xs (some z) none = xs.drop k := by
  subst hz
  unfold cutV
  rw [HT.sIx_none, HT.sIx_nat]
  by_cases h : k ≤ xs.length
  · rw [Nat.min_eq_left h, List.take_of_length_le (by rw [List.length_drop]; omega)]
  · rw [Nat.min_eq_right (by omega), List.drop_length, List.drop_of_length_le (by omega), List.take_nil]
theorem dpa_rep {K : PySem.W.Frag} {H : Hp} {vs : List V} {qs : List Am} (h : DpAll K H vs (qs.map amD)) : ∀ n, DpAll K H (List.replicate n vs).flatten (((List.replicate n qs).flatten).map amD)
  | 0 => .nil
  | n + 1 => by
    rw [List.replicate_succ, List.replicate_succ, List.flatten_cons, List.flatten_cons, List.map_append]
    exact dpa_app h (dpa_rep h n)
theorem len_rep {α : Type} (l : List α) : ∀ n, ((List.replicate n l).flatten).length = n * l.length
  | 0 => by simp
  | n + 1 => by rw [List.replicate_succ, List.flatten_cons, List.length_append, len_rep l n, Nat.succ_mul, Nat.add_comm]
/-! ### told tuples in a list that grows -/
def noL : Nat → PyData → Bool
  | _, .none => true
  | _, .bool _ => true
  | _, .int _ => true
  | _, .str _ => true
  | n + 1, .tuple ds => ds.all (noL n)
  | _, _ => false
theorem sqT_mut {K : PySem.W.Frag} {H : Hp} {t a : Addr} {o : HO} {xs ys : List V} (hs : SqT K H t ys) (ha : H a = some (.lst xs)) : SqT K (upd H a o) t ys := by
  rcases hs with (hs | ⟨u, hs⟩) | hs
  · exact .inl (.inl (by rw [upd_ne (ne_of hs ha (fun z => by cases z))]; exact hs))
  · exact .inl (.inr ⟨u, by rw [upd_ne (ne_of hs ha (fun z => by cases z))]; exact hs⟩)
  · exact .inr hs
mutual
theorem noL_mut {K : PySem.W.Frag} {H : Hp} {a : Addr} {o : HO} {xs : List V} (ha : H a = some (.lst xs)) : ∀ (n : Nat) (d : PyData) (v : V), noL n d = true → Dp K H v d → Dp K (upd H a o) v d
  | _, .none, _, _, h => by cases h; exact .non
  | _, .bool b, _, _, h => by cases h; exact .bl b
  | _, .int i, _, _, h => by cases h; exact .int i
  | _, .str x, _, _, h => by cases h; exact .str x
  | 0, .tuple _, _, e, _ => by cases e
  | n + 1, .tuple ds, _, e, h => by
    cases h with
    | tup hs hall => exact .tup (sqT_mut hs ha) (noLs_mut ha n ds _ e hall)
  | 0, .list _, _, e, _ => by cases e
  | _ + 1, .list _, _, e, _ => by cases e
  | 0, .dict _, _, e, _ => by cases e
  | _ + 1, .dict _, _, e, _ => by cases e
theorem noLs_mut {K : PySem.W.Frag} {H : Hp} {a : Addr} {o : HO} {xs : List V} (ha : H a = some (.lst xs)) : ∀ (n : Nat) (ds : List PyData) (vs : List V), ds.all (noL n) = true → DpAll K H vs ds → DpAll K (upd H a o) vs ds
  | _, [], _, _, h => by cases h; exact .nil
  | n, d :: ds, _, e, h => by
    cases h with
    | cons h1 h2 =>
      rw [List.all_cons, Bool.and_eq_true] at e
      exact .cons (noL_mut ha n d _ e.1 h1) (noLs_mut ha n ds _ e.2 h2)
end
/-- the list at fo holds ds -/
def Fd (K : PySem.W.Frag) (H : Hp) (fo : Addr) (ds : List PyData) : Prop := ∃ ts, H fo = some (.lst ts) ∧ DpAll K H ts ds
theorem Fd.keep {T : Tb} {K : PySem.W.Frag} {H H' : Hp} {fo : Addr} {ds : List PyData} (h : Fd K H fo ds) (s : Sm T H H') : Fd K H' fo ds := by
  obtain ⟨ts, h1, h2⟩ := h
  exact ⟨ts, s.k h1, dpa_same s _ _ h2⟩
theorem Fd.push {K : PySem.W.Frag} {H : Hp} {fo : Addr} {ds : List PyData} {ts : List V} {d : PyData} {v : V} (h1 : H fo = some (.lst ts)) (h2 : DpAll K H ts ds) (hv : Dp K H v d) (n1 : ds.all (noL 3) = true := by rfl) (n2 : noL 3 d = true := by rfl) :
    Fd K (upd H fo (.lst (ts ++ [v]))) fo (ds ++ [d]) :=
  ⟨ts ++ [v], upd_same, dpa_app (noLs_mut h1 3 ds _ n1 h2) (.cons (noL_mut h1 3 d v n2 hv) .nil)⟩
theorem Fd.dp {K : PySem.W.Frag} {H : Hp} {fo : Addr} {ds : List PyData} (h : Fd K H fo ds) : Dp K H (.ref fo) (.list ds) := by
  obtain ⟨ts, h1, h2⟩ := h
  exact .lst (SqL.of h1) h2
theorem depOk_ams {qs : List Am} (h : qs.length ≤ 9000) : depOk 5 (.list (qs.map amD)) = true := by
  show (decide ((qs.map amD).length ≤ 9000) && (qs.map amD).all (depOk 4)) = true
  rw [List.length_map, decide_eq_true h, Bool.true_and, List.all_map]
  exact List.all_eq_true.mpr fun q _ => rfl

def topS (i : Nat) : Stmt := PySem.Challenge.pw_pailchain_k12_called_away_and_told_to_st.main.body.getD i (.Pass ⟨0, 0, 0, 0⟩)
abbrev s_l_word : Stmt := topS 61
theorem sc_l_word : FnScope ["_law_asked", "e"] ["_law_asked"] (defScope s_l_word) := ⟨rfl, rfl, rfl, by decide +kernel, rfl, by decide +kernel, by decide +kernel⟩
abbrev s_p_is_number : Stmt := topS 33
theorem sc_p_is_number : FnScope ["thing"] ["thing"] (defScope s_p_is_number) := ⟨rfl, rfl, rfl, by decide +kernel, rfl, by decide +kernel, by decide +kernel⟩
abbrev s_p_is_within : Stmt := topS 34
theorem sc_p_is_within : FnScope ["thing", "least", "most"] ["thing", "least", "most"] (defScope s_p_is_within) := ⟨rfl, rfl, rfl, by decide +kernel, rfl, by decide +kernel, by decide +kernel⟩
abbrev s_p_PailError___init__ : Stmt := inClass (topS 12) 0
theorem sc_p_PailError___init__ : FnScope ["self", "word"] ["self", "word"] (defScope s_p_PailError___init__) := ⟨rfl, rfl, rfl, by decide +kernel, rfl, by decide +kernel, by decide +kernel⟩
abbrev s_p_BadWay___init__ : Stmt := inClass (topS 13) 0
theorem sc_p_BadWay___init__ : FnScope ["self"] ["self"] (defScope s_p_BadWay___init__) := ⟨rfl, rfl, rfl, by decide +kernel, rfl, by decide +kernel, by decide +kernel⟩
abbrev s_p_BadName___init__ : Stmt := inClass (topS 14) 0
theorem sc_p_BadName___init__ : FnScope ["self"] ["self"] (defScope s_p_BadName___init__) := ⟨rfl, rfl, rfl, by decide +kernel, rfl, by decide +kernel, by decide +kernel⟩
abbrev s_p_Taken___init__ : Stmt := inClass (topS 15) 0
theorem sc_p_Taken___init__ : FnScope ["self"] ["self"] (defScope s_p_Taken___init__) := ⟨rfl, rfl, rfl, by decide +kernel, rfl, by decide +kernel, by decide +kernel⟩
abbrev s_p_BadPace___init__ : Stmt := inClass (topS 16) 0
theorem sc_p_BadPace___init__ : FnScope ["self"] ["self"] (defScope s_p_BadPace___init__) := ⟨rfl, rfl, rfl, by decide +kernel, rfl, by decide +kernel, by decide +kernel⟩
abbrev s_p_Full___init__ : Stmt := inClass (topS 17) 0
theorem sc_p_Full___init__ : FnScope ["self"] ["self"] (defScope s_p_Full___init__) := ⟨rfl, rfl, rfl, by decide +kernel, rfl, by decide +kernel, by decide +kernel⟩
abbrev s_p_NoHand___init__ : Stmt := inClass (topS 18) 0
theorem sc_p_NoHand___init__ : FnScope ["self"] ["self"] (defScope s_p_NoHand___init__) := ⟨rfl, rfl, rfl, by decide +kernel, rfl, by decide +kernel, by decide +kernel⟩
abbrev s_p_Called___init__ : Stmt := inClass (topS 19) 0
theorem sc_p_Called___init__ : FnScope ["self"] ["self"] (defScope s_p_Called___init__) := ⟨rfl, rfl, rfl, by decide +kernel, rfl, by decide +kernel, by decide +kernel⟩
abbrev s_p_NotCalled___init__ : Stmt := inClass (topS 20) 0
theorem sc_p_NotCalled___init__ : FnScope ["self"] ["self"] (defScope s_p_NotCalled___init__) := ⟨rfl, rfl, rfl, by decide +kernel, rfl, by decide +kernel, by decide +kernel⟩
abbrev s_p_NoNext___init__ : Stmt := inClass (topS 21) 0
theorem sc_p_NoNext___init__ : FnScope ["self"] ["self"] (defScope s_p_NoNext___init__) := ⟨rfl, rfl, rfl, by decide +kernel, rfl, by decide +kernel, by decide +kernel⟩
abbrev s_p_NoPail___init__ : Stmt := inClass (topS 26) 0
theorem sc_p_NoPail___init__ : FnScope ["self"] ["self"] (defScope s_p_NoPail___init__) := ⟨rfl, rfl, rfl, by decide +kernel, rfl, by decide +kernel, by decide +kernel⟩
abbrev s_l_cell : Stmt := topS 56
theorem sc_l_cell : FnScope ["_law_script", "_law_k"] ["_law_script", "_law_k"] (defScope s_l_cell) := ⟨rfl, rfl, rfl, by decide +kernel, rfl, by decide +kernel, by decide +kernel⟩
abbrev s_l_draws : Stmt := topS 57
theorem sc_l_draws : FnScope ["_law_cell_here", "_law_parts", "_law_one", "_law_two", "_law_six", "_law_found", "_law_part"] ["_law_cell_here", "_law_parts"] (defScope s_l_draws) := ⟨rfl, rfl, rfl, by decide +kernel, rfl, by decide +kernel, by decide +kernel⟩
abbrev s_l_many : Stmt := topS 59
theorem sc_l_many : FnScope ["_law_script", "_law_few"] ["_law_script", "_law_few"] (defScope s_l_many) := ⟨rfl, rfl, rfl, by decide +kernel, rfl, by decide +kernel, by decide +kernel⟩
abbrev s_p_check_pace : Stmt := topS 37
theorem sc_p_check_pace : FnScope ["pace"] ["pace"] (defScope s_p_check_pace) := ⟨rfl, rfl, rfl, by decide +kernel, rfl, by decide +kernel, by decide +kernel⟩
abbrev s_p_is_name : Stmt := topS 35
theorem sc_p_is_name : FnScope ["text", "sign"] ["text"] (defScope s_p_is_name) := ⟨rfl, rfl, rfl, by decide +kernel, rfl, by decide +kernel, by decide +kernel⟩
abbrev s_p_check_name : Stmt := topS 36
theorem sc_p_check_name : FnScope ["name"] ["name"] (defScope s_p_check_name) := ⟨rfl, rfl, rfl, by decide +kernel, rfl, by decide +kernel, by decide +kernel⟩
abbrev s_p_Chain_take_pail : Stmt := inClass (topS 54) 23
theorem sc_p_Chain_take_pail : FnScope ["self", "number"] ["self"] (defScope s_p_Chain_take_pail) := ⟨rfl, rfl, rfl, by decide +kernel, rfl, by decide +kernel, by decide +kernel⟩
abbrev s_p_Chain_enter : Stmt := inClass (topS 54) 1
theorem sc_p_Chain_enter : FnScope ["self", "name", "pace"] ["self", "name", "pace"] (defScope s_p_Chain_enter) := ⟨rfl, rfl, rfl, by decide +kernel, rfl, by decide +kernel, by decide +kernel⟩
abbrev s_p_Chain_hands : Stmt := inClass (topS 54) 9
theorem sc_p_Chain_hands : FnScope ["self"] ["self"] (defScope s_p_Chain_hands) := ⟨rfl, rfl, rfl, by decide +kernel, rfl, by decide +kernel, by decide +kernel⟩
abbrev s_p_Chain_emptied : Stmt := inClass (topS 54) 14
theorem sc_p_Chain_emptied : FnScope ["self"] ["self"] (defScope s_p_Chain_emptied) := ⟨rfl, rfl, rfl, by decide +kernel, rfl, by decide +kernel, by decide +kernel⟩
abbrev s_p_Chain_pails : Stmt := inClass (topS 54) 15
theorem sc_p_Chain_pails : FnScope ["self"] ["self"] (defScope s_p_Chain_pails) := ⟨rfl, rfl, rfl, by decide +kernel, rfl, by decide +kernel, by decide +kernel⟩
abbrev s_p_Chain_number_of : Stmt := inClass (topS 54) 21
theorem sc_p_Chain_number_of : FnScope ["self", "name"] ["self", "name"] (defScope s_p_Chain_number_of) := ⟨rfl, rfl, rfl, by decide +kernel, rfl, by decide +kernel, by decide +kernel⟩
abbrev s_p_Chain_place : Stmt := inClass (topS 54) 12
theorem sc_p_Chain_place : FnScope ["self", "name"] ["self", "name"] (defScope s_p_Chain_place) := ⟨rfl, rfl, rfl, by decide +kernel, rfl, by decide +kernel, by decide +kernel⟩
abbrev s_p_Chain_ledger : Stmt := inClass (topS 54) 17
theorem sc_p_Chain_ledger : FnScope ["self", "name"] ["self", "name"] (defScope s_p_Chain_ledger) := ⟨rfl, rfl, rfl, by decide +kernel, rfl, by decide +kernel, by decide +kernel⟩
abbrev s_p_Chain_hour : Stmt := inClass (topS 54) 8
theorem sc_p_Chain_hour : FnScope ["self"] ["self"] (defScope s_p_Chain_hour) := ⟨rfl, rfl, rfl, by decide +kernel, rfl, by decide +kernel, by decide +kernel⟩
abbrev s_p_is_stretch : Stmt := topS 47
theorem sc_p_is_stretch : FnScope ["thing", "part"] ["thing"] (defScope s_p_is_stretch) := ⟨rfl, rfl, rfl, by decide +kernel, rfl, by decide +kernel, by decide +kernel⟩
abbrev s_p_check_way : Stmt := topS 48
theorem sc_p_check_way : FnScope ["way", "stretch"] ["way"] (defScope s_p_check_way) := ⟨rfl, rfl, rfl, by decide +kernel, rfl, by decide +kernel, by decide +kernel⟩
abbrev s_p_labour : Stmt := topS 49
theorem sc_p_labour : FnScope ["way", "count", "toil"] ["way"] (defScope s_p_labour) := ⟨rfl, rfl, rfl, by decide +kernel, rfl, by decide +kernel, by decide +kernel⟩
abbrev s_p_check_way_t : Stmt := topS 48
theorem sc_p_check_way_t : FnScope ["way", "stretch"] ["way"] (defScope s_p_check_way_t) := ⟨rfl, rfl, rfl, by decide +kernel, rfl, by decide +kernel, by decide +kernel⟩
abbrev s_p_labour_t : Stmt := topS 49
theorem sc_p_labour_t : FnScope ["way", "count", "toil"] ["way"] (defScope s_p_labour_t) := ⟨rfl, rfl, rfl, by decide +kernel, rfl, by decide +kernel, by decide +kernel⟩
abbrev s_p_Chain___init__ : Stmt := inClass (topS 54) 0
theorem sc_p_Chain___init__ : FnScope ["self", "way"] ["self", "way"] (defScope s_p_Chain___init__) := ⟨rfl, rfl, rfl, by decide +kernel, rfl, by decide +kernel, by decide +kernel⟩
abbrev s_p_Chain___init___t : Stmt := inClass (topS 54) 0
theorem sc_p_Chain___init___t : FnScope ["self", "way"] ["self", "way"] (defScope s_p_Chain___init___t) := ⟨rfl, rfl, rfl, by decide +kernel, rfl, by decide +kernel, by decide +kernel⟩
abbrev s_l_same : Stmt := topS 60
theorem sc_l_same : FnScope ["_law_found", "_law_due", "_law_k"] ["_law_found", "_law_due"] (defScope s_l_same) := ⟨rfl, rfl, rfl, by decide +kernel, rfl, by decide +kernel, by decide +kernel⟩
abbrev s_l_draws_f : Stmt := topS 57
theorem sc_l_draws_f : FnScope ["_law_cell_here", "_law_parts", "_law_one", "_law_two", "_law_six", "_law_found", "_law_part"] ["_law_cell_here", "_law_parts"] (defScope s_l_draws_f) := ⟨rfl, rfl, rfl, by decide +kernel, rfl, by decide +kernel, by decide +kernel⟩
abbrev s_l_name : Stmt := topS 64
theorem sc_l_name : FnScope ["_law_k", "_law_salt", "_law_letters", "_law_place", "_law_behind_it", "_law_fill", "_law_first", "_law_telling"] ["_law_k", "_law_salt"] (defScope s_l_name) := ⟨rfl, rfl, rfl, by decide +kernel, rfl, by decide +kernel, by decide +kernel⟩
abbrev s_l_split : Stmt := topS 58
theorem sc_l_split : FnScope ["_law_cell_here", "_law_many_here", "_law_found", "_law_big", "_law_k"] ["_law_cell_here", "_law_many_here"] (defScope s_l_split) := ⟨rfl, rfl, rfl, by decide +kernel, rfl, by decide +kernel, by decide +kernel⟩
abbrev s_l_way : Stmt := topS 62
theorem sc_l_way : FnScope ["_law_cell_here", "_law_drawn", "_law_cap", "_law_many_here", "_law_k"] ["_law_cell_here"] (defScope s_l_way) := ⟨rfl, rfl, rfl, by decide +kernel, rfl, by decide +kernel, by decide +kernel⟩
abbrev s_l_labour : Stmt := topS 63
theorem sc_l_labour : FnScope ["_law_way_here", "_law_found", "_law_count", "_law_toil", "_law_step"] ["_law_way_here"] (defScope s_l_labour) := ⟨rfl, rfl, rfl, by decide +kernel, rfl, by decide +kernel, by decide +kernel⟩
abbrev s_p_Chain_called : Stmt := inClass (topS 54) 10
theorem sc_p_Chain_called : FnScope ["self", "name"] ["self"] (defScope s_p_Chain_called) := ⟨rfl, rfl, rfl, by decide +kernel, rfl, by decide +kernel, by decide +kernel⟩
abbrev s_p_Chain_pace : Stmt := inClass (topS 54) 11
theorem sc_p_Chain_pace : FnScope ["self", "name"] ["self", "name"] (defScope s_p_Chain_pace) := ⟨rfl, rfl, rfl, by decide +kernel, rfl, by decide +kernel, by decide +kernel⟩
abbrev s_p_Chain_pail : Stmt := inClass (topS 54) 13
theorem sc_p_Chain_pail : FnScope ["self", "name"] ["self", "name"] (defScope s_p_Chain_pail) := ⟨rfl, rfl, rfl, by decide +kernel, rfl, by decide +kernel, by decide +kernel⟩
abbrev s_p_story_rows : Stmt := topS 53
theorem sc_p_story_rows : FnScope ["marks", "rows", "start", "name", "end"] ["marks"] (defScope s_p_story_rows) := ⟨rfl, rfl, rfl, by decide +kernel, rfl, by decide +kernel, by decide +kernel⟩
abbrev s_p_Chain_story : Stmt := inClass (topS 54) 18
theorem sc_p_Chain_story : FnScope ["self", "pail", "marks", "at"] ["self", "pail"] (defScope s_p_Chain_story) := ⟨rfl, rfl, rfl, by decide +kernel, rfl, by decide +kernel, by decide +kernel⟩
abbrev s_l_new : Stmt := topS 65
theorem sc_l_new : FnScope ["_law_length", "_law_m", "_law_word_here"] ["_law_length"] (defScope s_l_new) := ⟨rfl, rfl, rfl, by decide +kernel, rfl, by decide +kernel, by decide +kernel⟩
abbrev s_l_new_pail : Stmt := topS 66
theorem sc_l_new_pail : FnScope ["_law_m"] ["_law_m"] (defScope s_l_new_pail) := ⟨rfl, rfl, rfl, by decide +kernel, rfl, by decide +kernel, by decide +kernel⟩
abbrev s_l_name_ok : Stmt := topS 67
theorem sc_l_name_ok : FnScope ["_law_name_here", "_law_sign"] ["_law_name_here"] (defScope s_l_name_ok) := ⟨rfl, rfl, rfl, by decide +kernel, rfl, by decide +kernel, by decide +kernel⟩
abbrev s_l_enters : Stmt := topS 68
theorem sc_l_enters : FnScope ["_law_m", "_law_name_here", "_law_pace"] ["_law_m", "_law_name_here", "_law_pace"] (defScope s_l_enters) := ⟨rfl, rfl, rfl, by decide +kernel, rfl, by decide +kernel, by decide +kernel⟩
abbrev s_l_full_story : Stmt := topS 72
theorem sc_l_full_story : FnScope ["_law_line", "_law_m", "_law_number"] ["_law_line", "_law_m", "_law_number"] (defScope s_l_full_story) := ⟨rfl, rfl, rfl, by decide +kernel, rfl, by decide +kernel, by decide +kernel⟩
abbrev s_l_stands : Stmt := topS 73
theorem sc_l_stands : FnScope ["_law_line", "_law_m", "_law_found", "_law_name_here", "_law_away", "_law_at", "_law_number", "_law_place"] ["_law_line", "_law_m"] (defScope s_l_stands) := ⟨rfl, rfl, rfl, by decide +kernel, rfl, by decide +kernel, by decide +kernel⟩
abbrev s_p_Chain_call : Stmt := inClass (topS 54) 2
theorem sc_p_Chain_call : FnScope ["self", "name"] ["self", "name"] (defScope s_p_Chain_call) := ⟨rfl, rfl, rfl, by decide +kernel, rfl, by decide +kernel, by decide +kernel⟩
abbrev s_p_Chain_set_pace : Stmt := inClass (topS 54) 5
theorem sc_p_Chain_set_pace : FnScope ["self", "name", "pace"] ["self", "name", "pace"] (defScope s_p_Chain_set_pace) := ⟨rfl, rfl, rfl, by decide +kernel, rfl, by decide +kernel, by decide +kernel⟩
abbrev s_p_Chain_stay : Stmt := inClass (topS 54) 3
theorem sc_p_Chain_stay : FnScope ["self", "name"] ["self", "name"] (defScope s_p_Chain_stay) := ⟨rfl, rfl, rfl, by decide +kernel, rfl, by decide +kernel, by decide +kernel⟩
abbrev s_p_Chain_mark : Stmt := inClass (topS 54) 24
theorem sc_p_Chain_mark : FnScope ["self", "at", "pail"] ["self", "at"] (defScope s_p_Chain_mark) := ⟨rfl, rfl, rfl, by decide +kernel, rfl, by decide +kernel, by decide +kernel⟩
abbrev s_p_Chain_swap : Stmt := inClass (topS 54) 4
theorem sc_p_Chain_swap : FnScope ["self", "name", "at"] ["self", "name"] (defScope s_p_Chain_swap) := ⟨rfl, rfl, rfl, by decide +kernel, rfl, by decide +kernel, by decide +kernel⟩
abbrev s_l_small : Stmt := topS 69
theorem sc_l_small : FnScope ["_law_m", "_law_deed", "_law_word_here", "_law_name_here", "_law_at"] ["_law_m", "_law_deed"] (defScope s_l_small) := ⟨rfl, rfl, rfl, by decide +kernel, rfl, by decide +kernel, by decide +kernel⟩
abbrev s_l_ask : Stmt := topS 70
theorem sc_l_ask : FnScope ["_law_line", "_law_deed"] ["_law_line", "_law_deed"] (defScope s_l_ask) := ⟨rfl, rfl, rfl, by decide +kernel, rfl, by decide +kernel, by decide +kernel⟩
abbrev s_l_odd_name : Stmt := topS 71
theorem sc_l_odd_name : FnScope ["_law_name_here", "_law_number"] ["_law_name_here", "_law_number"] (defScope s_l_odd_name) := ⟨rfl, rfl, rfl, by decide +kernel, rfl, by decide +kernel, by decide +kernel⟩
abbrev s_LAW : Stmt := topS 74
theorem sc_LAW : FnScope ["_law_script", "_law_first", "_law_second", "_law_third", "_law_way_here", "_law_m", "_law_many_here", "_law_k", "_law_pace", "_law_kind", "_law_who", "_law_odd", "_law_word_here", "_law_told", "_law_found", "_law_deed", "_law_line"] ["_law_script"] (defScope s_LAW) := ⟨rfl, rfl, rfl, by decide +kernel, rfl, by decide +kernel, by decide +kernel⟩
structure Bn (mg : Str → Option Value) : Prop where
  ValueError_ : mg "ValueError" = none
  all_ : mg "all" = none
  bool_ : mg "bool" = none
  int_ : mg "int" = none
  isinstance_ : mg "isinstance" = none
  len_ : mg "len" = none
  list_ : mg "list" = none
  max_ : mg "max" = none
  min_ : mg "min" = none
  range_ : mg "range" = none
  str_ : mg "str" = none
  sum_ : mg "sum" = none
  tuple_ : mg "tuple" = none

theorem gcd_cut {a b : Nat} (hb : 0 < b) : ∃ g x y : Nat, 0 < g ∧ g = Nat.gcd a b ∧ a = g * x ∧ b = g * y ∧ 0 < y ∧ Nat.gcd x y = 1 := by
  have hg : 0 < Nat.gcd a b := Nat.gcd_pos_of_pos_right _ hb
  obtain ⟨x, hx⟩ := Nat.gcd_dvd_left a b
  obtain ⟨y, hy⟩ := Nat.gcd_dvd_right a b
  refine ⟨Nat.gcd a b, x, y, hg, rfl, hx, hy, ?_, ?_⟩
  · cases y with
    | zero => rw [Nat.mul_zero] at hy; omega
    | succ n => exact Nat.succ_pos n
  · have e : Nat.gcd a b * Nat.gcd x y = Nat.gcd a b * 1 := by
      have h2 : Nat.gcd (Nat.gcd a b * x) (Nat.gcd a b * y) = Nat.gcd a b * Nat.gcd x y := Nat.gcd_mul_left _ _ _
      rw [← hx, ← hy] at h2
      rw [← h2, Nat.mul_one]
    exact Nat.eq_of_mul_eq_mul_left hg e
/-- an amount in lowest terms -/
def Low (x : Int × Int) : Prop := 0 < x.2 ∧ Nat.gcd x.1.natAbs x.2.natAbs = 1
theorem amt_spec {n d : Int} (hd : d ≠ 0) : Low (amt n d) ∧ (amt n d).1 * d = n * (amt n d).2 ∧ (amt n d).1.natAbs ≤ n.natAbs ∧ (amt n d).2.natAbs ≤ d.natAbs := by
  obtain ⟨g, x, y, hg, eg, ex, ey, hy, h1⟩ := gcd_cut (a := n.natAbs) (b := d.natAbs) (by omega)
  have gi : ((g : Nat) : Int) ≠ 0 := by omega
  have e2 : (amt n d).2 = (y : Int) := by
    show ((d.natAbs : Nat) : Int) / ((Nat.gcd n.natAbs d.natAbs : Nat) : Int) = _
    rw [← eg, ey, Int.natCast_mul, Int.mul_ediv_cancel_left _ gi]
  have hyd : d.natAbs ≥ y := by
    rw [ey]; exact Nat.le_mul_of_pos_left _ hg
  have hxn : n.natAbs ≥ x := by
    rw [ex]; exact Nat.le_mul_of_pos_left _ hg
  have exi : ((n.natAbs : Nat) : Int) = (g : Int) * (x : Int) := by rw [ex, Int.natCast_mul]
  have eyi : ((d.natAbs : Nat) : Int) = (g : Int) * (y : Int) := by rw [ey, Int.natCast_mul]
  have main : ∀ (s : Int), (s = 1 ∨ s = -1) → (if d < 0 then -n else n) = s * ((g : Int) * (x : Int)) → (n = s * ((g : Int) * (x : Int)) ∧ d = (g : Int) * (y : Int) ∨ n = -(s * ((g : Int) * (x : Int))) ∧ d = -((g : Int) * (y : Int))) →
      Low (amt n d) ∧ (amt n d).1 * d = n * (amt n d).2 ∧ (amt n d).1.natAbs ≤ n.natAbs ∧ (amt n d).2.natAbs ≤ d.natAbs := by
    intro s hs e hnd
    have e1 : (amt n d).1 = s * (x : Int) := by
      show (if d < 0 then -n else n) / ((Nat.gcd n.natAbs d.natAbs : Nat) : Int) = _
      rw [← eg, e, Int.mul_left_comm, Int.mul_ediv_cancel_left _ gi]
    have ab : (s * (x : Int)).natAbs = x := by
      rcases hs with rfl | rfl
      · rw [Int.one_mul, Int.natAbs_natCast]
      · rw [Int.neg_mul, Int.one_mul, Int.natAbs_neg, Int.natAbs_natCast]
    refine ⟨⟨by rw [e2]; omega, ?_⟩, ?_, ?_, ?_⟩
    · rw [e1, e2, ab, Int.natAbs_natCast]; exact h1
    · rw [e1, e2]
      rcases hnd with ⟨a, b⟩ | ⟨a, b⟩
      · rw [a, b, Int.mul_assoc, Int.mul_assoc, Int.mul_left_comm (x : Int) (g : Int) (y : Int), Int.mul_assoc]
      · rw [a, b, Int.mul_neg, Int.neg_mul, Int.mul_assoc, Int.mul_assoc, Int.mul_left_comm (x : Int) (g : Int) (y : Int), Int.mul_assoc]
    · rw [e1, ab]; exact hxn
    · rw [e2, Int.natAbs_natCast]; exact hyd
  by_cases hdn : d < 0
  · by_cases hnn : n < 0
    · exact main 1 (.inl rfl) (by rw [if_pos hdn, Int.one_mul]; omega) (.inr ⟨by rw [Int.one_mul]; omega, by omega⟩)
    · exact main (-1) (.inr rfl) (by rw [if_pos hdn, Int.neg_mul, Int.one_mul]; omega) (.inr ⟨by rw [Int.neg_mul, Int.one_mul]; omega, by omega⟩)
  · by_cases hnn : n < 0
    · exact main (-1) (.inr rfl) (by rw [if_neg hdn, Int.neg_mul, Int.one_mul]; omega) (.inl ⟨by rw [Int.neg_mul, Int.one_mul]; omega, by omega⟩)
    · exact main 1 (.inl rfl) (by rw [if_neg hdn, Int.one_mul]; omega) (.inl ⟨by rw [Int.one_mul]; omega, by omega⟩)
/-- two amounts in lowest terms of the same worth are the same -/
theorem low_eq {x y : Int × Int} (hx : Low x) (hy : Low y) (e : x.1 * y.2 = y.1 * x.2) : x = y := by
  obtain ⟨a, b⟩ := x
  obtain ⟨c, d⟩ := y
  obtain ⟨hb, g1⟩ := hx
  obtain ⟨hd, g2⟩ := hy
  simp only at hb g1 hd g2 e
  have en : a.natAbs * d.natAbs = c.natAbs * b.natAbs := by rw [← Int.natAbs_mul, ← Int.natAbs_mul, e]
  have h1 : b.natAbs ∣ d.natAbs := by
    have : b.natAbs ∣ a.natAbs * d.natAbs := ⟨c.natAbs, by rw [en, Nat.mul_comm]⟩
    exact Nat.Coprime.dvd_of_dvd_mul_left (show Nat.Coprime b.natAbs a.natAbs by rw [Nat.Coprime, Nat.gcd_comm]; exact g1) this
  have h2 : d.natAbs ∣ b.natAbs := by
    have : d.natAbs ∣ c.natAbs * b.natAbs := ⟨a.natAbs, by rw [← en, Nat.mul_comm]⟩
    exact Nat.Coprime.dvd_of_dvd_mul_left (show Nat.Coprime d.natAbs c.natAbs by rw [Nat.Coprime, Nat.gcd_comm]; exact g2) this
  have h3 : b.natAbs = d.natAbs := Nat.dvd_antisymm h1 h2
  have h4 : b = d := by omega
  subst h4
  have h5 : a = c := Int.eq_of_mul_eq_mul_right (by omega) e
  rw [h5]
theorem amt_low {x : Int × Int} (h : Low x) : amt x.1 x.2 = x := by
  have s := amt_spec (n := x.1) (d := x.2) (by have := h.1; omega)
  exact low_eq s.1 h s.2.1
theorem amt_eq {n d m e : Int} (hd : d ≠ 0) (he : e ≠ 0) (h : n * e = m * d) : amt n d = amt m e := by
  have s := amt_spec (n := n) (d := d) hd
  have t := amt_spec (n := m) (d := e) he
  refine low_eq s.1 t.1 ?_
  -- (amt n d).1 * d = n * (amt n d).2 ; (amt m e).1 * e = m * (amt m e).2
  have key : ((amt n d).1 * (amt m e).2) * (d * e) = ((amt m e).1 * (amt n d).2) * (d * e) := by
    calc ((amt n d).1 * (amt m e).2) * (d * e) = ((amt n d).1 * d) * ((amt m e).2 * e) := by ac_rfl
      _ = (n * (amt n d).2) * ((amt m e).2 * e) := by rw [s.2.1]
      _ = (n * e) * ((amt n d).2 * (amt m e).2) := by ac_rfl
      _ = (m * d) * ((amt n d).2 * (amt m e).2) := by rw [h]
      _ = (m * (amt m e).2) * ((amt n d).2 * d) := by ac_rfl
      _ = ((amt m e).1 * e) * ((amt n d).2 * d) := by rw [t.2.1]
      _ = ((amt m e).1 * (amt n d).2) * (d * e) := by ac_rfl
  exact Int.eq_of_mul_eq_mul_right (Int.mul_ne_zero hd he) key

section
variable {P : Program} {w : World} {K : PySem.W.Frag} {T : Tb} {mg : Str → Option Value} {base : Heap}
/-! ### refusals: own error classes whose __init__ calls the base's -/
/-- C.m(e, ..), m a def read off the own class C -/
theorem pe_clsfn {X : Cx} {x m : Str} {C f : Addr} {mc : Value} {k : Nat} {fd : FuncData} {ps : List Str} {sp : Sp} {e : Expr} {es : List Expr} {t : TA} {p1 p2 pos : Pos} {pl : Sem Bool}
    (r : ClX.CRead X.K C mc) (hat : PySem.W.findCls X.K (.ref C) mc m = some (.val (.ref f))) (F : FnOk X.prog X.w X.K X.mg X.base CX0 k f fd ps sp) (hr : Room k X.A) (hg : Gl X x) (hm : X.mg x = some (.ref C))
    (hk : PySem.W.keepIn X.K (.ref f) = true) (hb : Binds X.K fd ps []) (ha : PA X (e :: es) t)
    (hc : eval (.Call (.Attribute (.Name x p1) m p2) (e :: es) [] pos) X.env = (do
      let ov ← eval (.Name x p1) X.env
      standAt p2.atName
      let (f, first) ← holding [ov] (getMethod ov m pl)
      callWith pos f first (backTo pos (starEach (e :: es) X.env)) (backToKw pos (keywordEach [] X.env))) := by rfl)
    (hdb : (x == ("__debug__" : Str)) = false := by decide) (he : starEach (e :: es) X.env = (false, eval e X.env) :: starEach es X.env := by rfl) (hpl : (backTo pos (starEach es X.env)).any (·.1) = false := by rfl) :
    PE X (.Call (.Attribute (.Name x p1) m p2) (e :: es) [] pos) (tCall sp [] E0 t) := by
  refine ⟨fun pins s σ H Q I h => ?_⟩
  refine PySem.W.methodCall_KW (ld_glob I hg hm ?_ hdb) hc
  refine PySem.W.method_cls I.kIn r.ga (PySem.W.cls_value I.kIn r.rd hat rfl ?_)
  show wpAny _ _ (callWith pos (Value.ref f) [] (backTo pos (starEach (e :: es) X.env)) []) _ _ _
  refine PySem.W.callWith_K (h₀ := X.base) I.ok.mod.kin hk (thn (ha.run pos pins _ σ H _ (I.tok _) h) fun us s1 ⟨vs, H1, I1, r1, q1⟩ => ⟨I1.kIn, ?_⟩) he hpl
  exact run_fn F hr hb .nil pass0 I1 r1 q1
/-- C(), C's own __init__ keeping sp -/
theorem pmk_oex0 {X : Cx} {x : Str} {C fI : Addr} {k : Nat} {fd : FuncData} {ps : List Str} {sp : Sp} {p pos : Pos} (T : OexC X.K C) (iC : PySem.W.findIn X.K (.ref C) "__init__" = some (some (.ref fI))) (tI : PySem.W.typeIn X.K (.ref fI) = some (.type "function"))
    (F1 : FnOk X.prog X.w X.K X.mg X.base CX0 k fI fd ps sp) (hr : Room (k + 1) X.A) (hb : Binds X.K fd ps []) (hg : Gl X x) (hm : X.mg x = some (.ref C)) (hdb : (x == ("__debug__" : Str)) = false := by decide) :
    PMk X (.Call (.Name x p) [] [] pos) (tMkO C sp [] tNil) := by
  intro pins s σ H Q I h
  obtain ⟨nm, q, N, bs, bm, sn, sub, ab, col, dd, k0, k1, k2, k3, k5, hC, hbm⟩ := T.cls
  refine wpAny_Call_Name_kw (ld_glob I hg hm ?_ hdb)
  refine PySem.W.callWith_K0 I.kIn T.kC ?_
  show wpAny _ _ (call (.ref C) []) _ _ _
  obtain ⟨hz, q1⟩ : ([] : List V).length ≤ 1000 ∧ _ := h
  obtain ⟨hp, g, dr, tk, os⟩ := s
  have hsz : hp.objs.size ≤ hp.objs.size + 1 := Nat.le_succ _
  have hn : H (hp.objs.size + 1) = none := I.hok.fresh hsz
  have hq := q1 (hp.objs.size + 1) hn
  have kk : ∀ b o, hp.get? b = some o → ((hp.push (PySem.W.kdv_tup [])).push (PySem.HandSPX.excO C hp.objs.size)).get? b = some o := fun b o e => Heap.get?_push_of_some _ (Heap.get?_push_of_some _ e)
  have hget : ((hp.push (PySem.W.kdv_tup [])).push (PySem.HandSPX.excO C hp.objs.size)).get? (hp.objs.size + 1) = some (PySem.HandSPX.excO C hp.objs.size) := by heap_get
  have I2 : Inv X pins σ (upd H (hp.objs.size + 1) (exo (hp.objs.size + 1) C none)) ⟨(hp.push (PySem.W.kdv_tup [])).push (PySem.HandSPX.excO C hp.objs.size), g, dr, tk, os⟩ :=
    I.laid (t' := tk) (a := hp.objs.size + 1) (o := exo (hp.objs.size + 1) C none) (h' := (hp.push (PySem.W.kdv_tup [])).push (PySem.HandSPX.excO C hp.objs.size)) kk hsz (exo_ok hget)
  have r2 : Vals (V.ref (hp.objs.size + 1) :: ([] ++ [])) ([Value.ref (hp.objs.size + 1)] ++ []) := .cons rfl .nil
  have hl : (Value.ref (hp.objs.size + 1) :: [] ++ []).length = ps.length := by
    have e := r2.length
    rw [F1.len _ _ _ _ hq] at e
    exact e.symm
  have hus : ([] : List Value).length ≤ sizeLine := Nat.zero_le _
  refine wpAny_call (PySem.HandSPX.call_own F.excBase_ValueError (fun Y => PySem.HandSPX.refsVE_contains Y bm hbm) (I.kIn _ _ hC) (PySem.W.looks_findIn I.kIn iC) (fun self => PySem.W.bind_fn I.kIn self tI) hus
    (codeAny_mono (F1.run _ X.stack _ _ ⟨Value.ref (hp.objs.size + 1) :: [], []⟩ ([Value.ref (hp.objs.size + 1)] ++ []) _ _ (fun _ _ _ => False) (hr.make C [] []) (I2.env0.make C [] []) (hb _ (Value.ref (hp.objs.size + 1) :: []) I2.kIn hl) r2 hq) fun r s' hq' => ?_))
  cases r with
  | error er => exact (show False from hq').elim
  | ok fl =>
    cases fl with
    | ret u =>
      obtain ⟨v, H2, os2, bare2, un2, hok2, rv, ev, d, fs, ea, ed, hd1, q2⟩ := hq'
      subst ev
      obtain ⟨h2, g2, d2, t2, os'⟩ := s'
      exact ⟨rv, mk_end (raises_own T.exC T.tyC) I hsz kk un2 hok2 os2 bare2 ea ed hd1 q2⟩
    | next => exact False.elim hq'
    | brk => exact False.elim hq'
    | cont => exact False.elim hq'
/-- what stands of a refusal that flies: its word -/
def Rf (K : PySem.W.Frag) (CP : Addr) (word : Str) (cls : Value) (d : Option Addr) (H' : Hp) : Prop :=
  ∃ C dd, cls = .ref C ∧ d = some dd ∧ XfC K C ∧ PySem.W.findIn K (.ref C) "word" = some none ∧ PySem.W.exmOne K (.ref C) (.ref CP) = some true ∧ H' dd = some (.xd [(("word" : Str), .str word)])
theorem Rf.keep {T : Tb} {K : PySem.W.Frag} {CP : Addr} {word : Str} {cls : Value} {d : Option Addr} {H H' : Hp} (h : Rf K CP word cls d H) (s : Sm T H H') : Rf K CP word cls d H' := by
  obtain ⟨C, dd, h1, h2, h3, h4, h5, h6⟩ := h
  exact ⟨C, dd, h1, h2, h3, h4, h5, s.k h6⟩
/-- the promise of PailError.__init__ and of those under it -/
def spInit2 (K : PySem.W.Frag) : Sp := fun vs H Q _ => ∃ (a C : Addr) (w : Str), vs = [.ref a, .str w] ∧ OexC K C ∧ PySem.W.findIn K (.ref C) "word" = some none ∧ H a = some (exo a C none) ∧
  ∀ dx, H dx = none → dx ≠ a → Q .non (upd (upd H dx (exd dx [(("word" : Str), .str w)])) a (exo a C (some dx)))
def spInit (w : Str) (K : PySem.W.Frag) : Sp := fun vs H Q _ => ∃ (a C : Addr), vs = [.ref a] ∧ OexC K C ∧ PySem.W.findIn K (.ref C) "word" = some none ∧ H a = some (exo a C none) ∧
  ∀ dx, H dx = none → dx ≠ a → Q .non (upd (upd H dx (exd dx [(("word" : Str), .str w)])) a (exo a C (some dx)))
/-- the error class by the name x, its word -/
structure Err (P : Program) (w : World) (K : PySem.W.Frag) (mg : Str → Option Value) (base : Heap) (CP : Addr) (x word : Str) : Prop where
  ex : ∃ (C fI : Addr) (fd : FuncData), mg x = some (.ref C) ∧ OexC K C ∧ XfC K C ∧ PySem.W.findIn K (.ref C) "word" = some none ∧ PySem.W.exmOne K (.ref C) (.ref CP) = some true ∧
    PySem.W.findIn K (.ref C) "__init__" = some (some (.ref fI)) ∧ PySem.W.typeIn K (.ref fI) = some (.type "function") ∧ FnOk P w K mg base CX0 2 fI fd ["self"] (spInit word K) ∧ Binds K fd ["self"] []
def tErr (K : PySem.W.Frag) (CP : Addr) (word : Str) : L2.St → Hp → XK → Prop := fun _ H Q => ∀ cls dd, H dd = none → Rf K CP word cls (some dd) (upd H dd (.xd [(("word" : Str), .str word)])) → Q cls (some dd) (upd H dd (.xd [(("word" : Str), .str word)]))
theorem pmk_err {X : Cx} {CP : Addr} {x word : Str} {p pos : Pos} (R : Err X.prog X.w X.K X.mg X.base CP x word) (hr : Room 3 X.A) (hg : Gl X x) (hdb : (x == ("__debug__" : Str)) = false := by decide) :
    PMk X (.Call (.Name x p) [] [] pos) (tErr X.K CP word) := by
  obtain ⟨C, fI, fd, g, oc, xf, nw, ex, iC, tI, F, b⟩ := R.ex
  intro pins s σ H Q I h
  refine pmk_oex0 (k := 2) oc iC tI F hr b hg g hdb pins s σ H Q I ⟨Nat.zero_le _, fun a ha => ⟨a, C, rfl, oc, nw, upd_same, fun dx hdx hne => ⟨rfl, dx, [(("word" : Str), .str word)], upd_same, ?_, ?_, ?_⟩⟩⟩
  · rw [upd_ne hne, upd_same]
  · rw [upd_ne hne] at hdx
    exact hdx
  · have hd : H dx = none := by
      rw [upd_ne hne] at hdx
      exact hdx
    have e : upd (L2.del (upd (upd (upd H a (exo a C none)) dx (exd dx [(("word" : Str), .str word)])) a (exo a C (some dx))) a) dx (.xd [(("word" : Str), .str word)]) = upd H dx (.xd [(("word" : Str), .str word)]) := by
      funext c
      by_cases h1 : c = dx
      · rw [h1, upd_same, upd_same]
      · rw [upd_ne h1, upd_ne h1]
        by_cases h2 : c = a
        · rw [h2, L2.del_same, ha]
        · rw [L2.del_ne h2, upd_ne h2, upd_ne h1, upd_ne h2]
    rw [e]
    exact h (.ref C) dx hd ⟨C, dx, rfl, rfl, xf, nw, ex, upd_same⟩
/-- e.word, e the refusal that the suite holds -/
def tXw (K : PySem.W.Frag) (a : Addr) (cls : Value) (d : Option Addr) (te : TE) : TE := fun σ H Q => te σ H fun x H1 => x = .ref a ∧ ∃ (C dd : Addr) (v : V), cls = .ref C ∧ XfC K C ∧ PySem.W.findIn K (.ref C) "word" = some none ∧ d = some dd ∧ H1 dd = some (.xd [(("word" : Str), v)]) ∧ Q v H1
theorem pe_xw {X : Cx} {a : Addr} {oe : Obj} {cls : Value} {d : Option Addr} {pn : List (Addr × Obj)} {e : Expr} {te : TE} {pos : Pos}
    (hz : Zc cls d oe) (hf : ∃ vs, oe.data = .fields vs) (he : PE (X.suite a ((a, oe) :: pn)) e te) (hb : attributeBase e "word" X.env (eval e X.env) = eval e X.env := by rfl) :
    PE (X.suite a ((a, oe) :: pn)) (.Attribute e "word" pos) (tXw X.K a cls d te) := by
  refine ⟨fun pins s σ H Q I h => ?_⟩
  refine attr_of hb (thn (he.run pins s σ H _ I h) fun u s1 hh => ?_)
  obtain ⟨x, H1, I1, rx, ex, C, dd, v, ec, T, hno, ed, ea, q⟩ := hh
  subst ex
  obtain rfl : u = Value.ref a := rx
  subst ec
  subst ed
  obtain ⟨ha, _⟩ := I1.pin (a, oe) (List.mem_append_left _ List.mem_cons_self)
  obtain ⟨vs, hd⟩ := hf
  have hx : ObjOk X.prog X.w H1 s1.heap dd (.xd [(("word" : Str), v)]) := I1.hok dd _ ea
  obtain ⟨mA, hns, hr⟩ := hx
  obtain ⟨od, ho, hl⟩ := lookIn_ns hns
  have l : List.lookup ("word" : Str) [(("word" : Str), v)] = some v := by simp [List.lookup]
  obtain ⟨u, hu, ru⟩ := RelO.some_of (v := v) (o := mA "word") (by rw [← l]; exact hr "word")
  have J : PySem.W.InstAt s1.heap a oe C (some od) := ⟨ha, hz.1, by unfold PySem.W.notCls; rw [hd] <;> rfl, by rw [hz.2]; exact ho⟩
  exact HandSPX.exc_get I1.kIn J T.ga T.gg T.exC (PySem.W.findObj_own T.hdC hno rfl (by rw [hl, hu])) (handed_of ru) ⟨v, H1, I1.tok _, ru, q⟩
/-! ### a def that may raise, ready to be called -/
structure Fx (P : Program) (w : World) (K : PySem.W.Frag) (mg : Str → Option Value) (base : Heap) (k : Nat) (x : Str) (ps : List Str) (sp : Sp) : Prop where
  ex : ∃ f fd, FnOk P w K mg base (L2.CX P w) k f fd ps sp ∧ mg x = some (.ref f) ∧ PySem.W.keepIn K (.ref f) = true ∧ Binds K fd ps []
theorem Fx.mk' {P : Program} {w : World} {K : PySem.W.Frag} {mg : Str → Option Value} {base : Heap} {k : Nat} {x : Str} {ps : List Str} {sp : Sp} {f : Addr} {fd : FuncData}
    (h : FnOk P w K mg base (L2.CX P w) k f fd ps sp) (g : mg x = some (.ref f)) (kp : PySem.W.keepIn K (.ref f) = true) (b : Binds K fd ps []) : Fx P w K mg base k x ps sp := ⟨⟨f, fd, h, g, kp, b⟩⟩
theorem pe_fx {X : Cx} {k : Nat} {x : Str} {ps : List Str} {sp : Sp} {e : Expr} {es : List Expr} {t : TA} {p pos : Pos} {E : XK} (F : Fx X.prog X.w X.K X.mg X.base k x ps sp) (hr : Room k X.A) (tk : Takes X (fun cls d _ H => E cls d H)) (ha : PA X (e :: es) t) (hg : Gl X x := by rfl) (hdb : (x == ("__debug__" : Str)) = false := by decide)
    (he : starEach (e :: es) X.env = (false, eval e X.env) :: starEach es X.env := by rfl) (hpl : (backTo pos (starEach es X.env)).any (·.1) = false := by rfl) :
    PE X (.Call (.Name x p) (e :: es) [] pos) (tCall sp [] E t) := by
  obtain ⟨f, fd, h, g, kp, b⟩ := F.ex
  exact pe_call h hr hg g kp b .nil (passes_call tk fun _ _ _ _ h => h) ha hdb he hpl
/-- .. where nothing is to be let out -/
theorem pe_fx0 {X : Cx} {k : Nat} {x : Str} {ps : List Str} {sp : Sp} {e : Expr} {es : List Expr} {t : TA} {p pos : Pos} (F : Fx X.prog X.w X.K X.mg X.base k x ps sp) (hr : Room k X.A) (ha : PA X (e :: es) t) (hg : Gl X x := by rfl) (hdb : (x == ("__debug__" : Str)) = false := by decide)
    (he : starEach (e :: es) X.env = (false, eval e X.env) :: starEach es X.env := by rfl) (hpl : (backTo pos (starEach es X.env)).any (·.1) = false := by rfl) :
    PE X (.Call (.Name x p) (e :: es) [] pos) (tCall sp [] E0 t) := by
  obtain ⟨f, fd, h, g, kp, b⟩ := F.ex
  exact pe_call h hr hg g kp b .nil passL ha hdb he hpl
/-! ### a def whose code object is told -/
structure FunC (K : PySem.W.Frag) (x qual : Str) (st : Stmt) (f : Addr) (fd : FuncData) (c : Addr) : Prop where
  ex : ∃ (oc : Value) (od : Option Addr) (kV doc pm : Value) (an : Option Addr) (ct : Value) (osl : Array (Option Value)),
    fd = PySem.W.fnOf x qual (defArgs st) (defBody st) (defScope st) .none kV doc pm an (.ref c) ct ∧ K.lookup f = some ⟨oc, od, .func fd, osl⟩ ∧ PySem.W.codeIn K (.ref c) qual = true
  kp : PySem.W.keepIn K (.ref f) = true
theorem FunC.ok {P : Program} {w : World} {K : PySem.W.Frag} {mg : Str → Option Value} {base : Heap} {x qual : Str} {st : Stmt} {f c : Addr} {fd : FuncData} {N ps : List Str} {k : Nat} {sp : Sp} (F : FunC K x qual st f fd c) (S : FnScope N ps (defScope st)) (len : ∀ vs H Q E, sp vs H Q E → vs.length = ps.length)
    (hbody : ∀ (A : Around) (outer : List Env) (s : Shared) (H : Hp) (vs : List V) (Q : VK) (E : XK), Room k (A.deeper (envOfC qual (defScope st) s.heap.objs.size f (.ref c))) → sp vs H Q E →
      ∃ t, PSs (cxOf CX0 P w K mg base N qual (defScope st) f (.ref c) A outer s H E).nox (defBody st) t ∧ t { nx := fun _ H' => Q .non H', rt := Q } (start N vs) H) : FnOk P w K mg base CX0 (k + 1) f fd ps sp := by
  obtain ⟨oc, od, kV, doc, pm, an, ct, osl, rfl, lk, hcd⟩ := F.ex
  refine fn_of lk hcd S len fun A outer s H vs Q E hr hsp => ?_
  obtain ⟨t, h, q⟩ := hbody A outer s H vs Q E hr hsp
  exact ⟨t, h.nox, q⟩
theorem FunC.okX {P : Program} {w : World} {K : PySem.W.Frag} {mg : Str → Option Value} {base : Heap} {x qual : Str} {st : Stmt} {f c : Addr} {fd : FuncData} {N ps : List Str} {k : Nat} {sp : Sp} (F : FunC K x qual st f fd c) (S : FnScope N ps (defScope st)) (len : ∀ vs H Q E, sp vs H Q E → vs.length = ps.length)
    (hbody : ∀ (A : Around) (outer : List Env) (s : Shared) (H : Hp) (vs : List V) (Q : VK) (E : XK), Room k (A.deeper (envOfC qual (defScope st) s.heap.objs.size f (.ref c))) → sp vs H Q E →
      ∃ t, PSs (cxOf (L2.CX P w) P w K mg base N qual (defScope st) f (.ref c) A outer s H E) (defBody st) t ∧ t { nx := fun _ H' => Q .non H', rt := Q } (start N vs) H) : FnOk P w K mg base (L2.CX P w) (k + 1) f fd ps sp := by
  obtain ⟨oc, od, kV, doc, pm, an, ct, osl, rfl, lk, hcd⟩ := F.ex
  exact fn_of lk hcd S len fun A outer s H vs Q E hr hsp => hbody A outer s H vs Q E hr hsp
theorem FunC.binds {K : PySem.W.Frag} {x qual : Str} {st : Stmt} {f c : Addr} {fd : FuncData} {ps : List Str} (F : FunC K x qual st f fd c)
    (h : ∀ (kV doc pm : Value) (an : Option Addr) (ct : Value) (us : List Value), us.length = ps.length → bindArgs (PySem.W.fnOf x qual (defArgs st) (defBody st) (defScope st) .none kV doc pm an (.ref c) ct) ⟨us, []⟩ = pure (ps.zip us)) : Binds K fd ps [] := by
  obtain ⟨oc, od, kV, doc, pm, an, ct, osl, rfl, lk, hcd⟩ := F.ex
  exact .all (h kV doc pm an ct)
theorem exm_of {K : PySem.W.Frag} {C S : Addr} (h1 : PySem.W.subIn K (.ref S) (.type "BaseException") = some true) (h2 : PySem.W.isClsIn K S = true) (h3 : PySem.W.typeIn K (.ref S) = some (.type "type")) (h4 : PySem.W.subIn K (.ref C) (.ref S) = some true) :
    PySem.W.exmOne K (.ref C) (.ref S) = some true := by
  have e1 : (PySem.W.subIn K (.ref S) (.type "BaseException") == some true) = true := by rw [h1] <;> rfl
  have e2 : ((PySem.W.clsIn K S).isSome && PySem.W.typeIn K (.ref S) == some (.type "type")) = true := by
    have h2' : (PySem.W.clsIn K S).isSome = true := h2
    rw [h2', h3] <;> rfl
  show (if (PySem.W.subIn K (.ref S) (.type "BaseException") == some true) = true then (if ((PySem.W.clsIn K S).isSome && PySem.W.typeIn K (.ref S) == some (.type "type")) = true then PySem.W.subIn K (.ref C) (.ref S) else none) else none) = some true
  rw [if_pos e1, if_pos e2]
  exact h4

/-! ### generator expressions -/
theorem sm_tabbed {T : Tb} {H H' : Hp} {P : Addr} (hn : (T.map (·.1)).Nodup) (hP : (P, (none : Option Str)) ∈ T) (ht : GxR.TabG H P) (h : GxR.Tabbed P H H') : Sm T H H' := by
  obtain ⟨ps, e, _⟩ := ht
  have ne : ∀ b o, H b = some o → nTbl o → b ≠ P := fun b o q n z => by
    rw [z, e] at q
    cases q
    exact n
  refine ⟨fun b o q n => by rw [h.2 b (ne b o q n)]; exact q, fun k p hp => ?_, fun l hl => ?_⟩
  · by_cases hb : p.1 = P
    · have ep : p = (P, none) := by
        obtain ⟨i, hi, e1⟩ := List.getElem_of_mem hp
        obtain ⟨j, hj, e2⟩ := List.getElem_of_mem hP
        have hij : i = j := by
          have a1 : (T.map (·.1))[i]? = some P := by rw [List.getElem?_map, List.getElem?_eq_getElem hi, e1]; exact congrArg some hb
          have a2 : (T.map (·.1))[j]? = some P := by rw [List.getElem?_map, List.getElem?_eq_getElem hj, e2]; rfl
          exact nd_ix hn a1 a2
        subst hij
        rw [← e1, e2]
      rw [ep]
      exact h.1
    · have q := k p hp
      obtain ⟨P', w⟩ := p
      have hb : P' ≠ P := hb
      cases w with
      | none =>
        obtain ⟨ps', a1, a2⟩ := (show GxR.TabG H P' from q)
        exact ⟨ps', by rw [h.2 _ hb]; exact a1, a2⟩
      | some w =>
        obtain ⟨ps', a1, a2, a3⟩ := (show LamX.TabS H P' w from q)
        refine ⟨ps', by rw [h.2 _ hb]; exact a1, a2, fun pos cv hc => ?_⟩
        obtain ⟨c, e1, e2⟩ := a3 pos cv hc
        refine ⟨c, e1, ?_⟩
        rw [h.2 c (ne c _ e2 (by unfold LamX.CodeO; trivial))]
        exact e2
  · by_cases z : l = P
    · obtain ⟨ps', a1, _⟩ := h.1
      rw [z, a1] at hl
      cases hl
    · rw [← h.2 l z]
      exact hl
/-- the element of a generator over ints, in the generator's frame -/
def EltI (X : Cx) (scope : Scope) (x : Str) (elt : Expr) (F : Int → Value → Prop) : Prop :=
  ∀ (cenv : Env) (A' : Around) (E' : Value → Shared → Prop) (i : Int) (t : Tok) (s₂ : Shared) (m₂ : Str → Option Value), cenv.scope = scope → cenv.globals = X.env.globals → cenv.builtins = builtinsNs → A'.handled = none → A'.depth ≤ X.A.depth + 1 → A'.units ≤ X.A.units + 8 →
    X.K.In s₂.heap → s₂.heap.NoLimit → s₂.heap.Ns mainGlobals X.mg → (∃ mb, s₂.heap.Ns builtinsNs mb ∧ ∀ y : Str, y ≠ "__name__" → mb y = bootBuiltins y) → s₂.heap.Ns cenv.locals m₂ → m₂ x = some (.int i t) →
    wpAny (model X.prog X.w) A' (eval elt cenv) (fun y s₃ => F i y ∧ Keeps s₂ s₃) E' s₂
/-- over pairs of ints -/
def EltP (X : Cx) (scope : Scope) (xa xb : Str) (elt : Expr) (f : Int → Int → Int) : Prop :=
  ∀ (cenv : Env) (A' : Around) (E' : Value → Shared → Prop) (i j : Int) (t u : Tok) (s₂ : Shared) (m₂ : Str → Option Value), cenv.scope = scope → A'.handled = none →
    (-(2 ^ 64) < i ∧ i < 2 ^ 64) → s₂.heap.Ns cenv.locals m₂ → m₂ xa = some (.int i t) → m₂ xb = some (.int j u) →
    wpAny (model X.prog X.w) A' (eval elt cenv) (fun y s₃ => (∃ v, y = .int (f i j) v) ∧ Keeps s₂ s₃) E' s₂
section
variable {X : Cx} {pins : List (Addr × Obj)} {σ : L2.St} {H : Hp} {s : Shared}
theorem gen_tup {c P : Addr} {elt iter : Expr} {x : Str} {px gpos : Pos} {scope : Scope} {pb : Int → Bool} {te : TE} {k : Nat} {Q' : Value → Shared → Prop} {R : List Int → Hp → Prop}
    (hr : Room k X.A) (TB : GxR.TabB X.base X.mg c P) (hcode : X.env.code = .ref c) (S : GxR.GenS X.env scope x) (hi : PE X iter te) (hel : EltI X scope x elt (fun i y => y = .bool (pb i)))
    (hs : ∀ v, genFold iter X.env v = pure v) (I : Inv X pins σ H s) (h : te σ H fun v H1 => ∃ (a : Addr) (ns : List Int), v = .ref a ∧ SqT X.K H1 a (ns.map V.int) ∧ GxR.TabG H1 P ∧ R ns H1)
    (hQ : ∀ ns H1 g s5, R ns H1 → (∃ (fp wr : List Addr) (G : Array GenState → Array GenState → Prop) (F : Nat → Value → Prop) (St : Nat → Shared → Prop),
      WalksS X.prog X.w X.A.in1 g fp wr G ns.length F St ∧ St 0 s5 ∧ TruthOf X.prog X.w X.A.in1 F (fun j => (ns.map pb).getD j false) ∧ ∀ s', Moved wr G s5 s' → ∃ H2, GxR.Tabbed P H1 H2 ∧ Inv X pins σ H2 s') → Q' (.ref g) s5) :
    wpAny (model X.prog X.w) X.A (eval (.GeneratorExp elt [⟨.Name x px, iter, [], 0⟩] scope gpos) X.env) Q' X.xe s := by
  refine wpAny_GeneratorExp_walksQD hr.hd S.co (closure_ok S.free) S.cell S.dot S.loc S.kind (by have := hr.dp; omega) ?_ hs
  refine thn (hi.run pins s σ H _ I h) fun xv s1 ⟨v, H1, I1, r1, q1⟩ => ?_
  obtain ⟨a, ns, rfl, hS, ⟨ps, hP, ht⟩, q1⟩ := q1
  cases r1
  obtain ⟨its, rv, hTup, hz⟩ := I1.tuple hS
  have hT : s1.heap.IsTuple a its.toArray := let ⟨o, ho, hc, n, hd⟩ := hTup; ⟨o, ho, hc, n, hd⟩
  have hlt : a < s1.heap.objs.size := by obtain ⟨_, e, _⟩ := hT; exact Heap.lt_size e
  refine wpAny_pyIter_tuple hT ?_
  have hPs : s1.heap.get? P = some { cls := .none, data := .fields ps } := I1.hok P _ hP
  have hPlt : P < s1.heap.objs.size := Heap.lt_size hPs
  let o : Obj := { cls := .type "tuple_iterator", data := .fields #[.ref a, .int 0 0] }
  show (s1.heap.push o).NoLimit ∧ _
  have hP2 : (s1.heap.push o).get? P = some { cls := .none, data := .fields ps } := Heap.get?_push_of_some _ hPs
  have cd : PySem.W.CodeHd (s1.heap.push o) c P := TB.code.keeps fun b u e => Heap.get?_push_of_some _ (I1.bk b u e)
  have lim2 : (s1.heap.push o).NoLimit := I1.nolimit.push o
  have hni : ∀ (i : Nat) (v : Value), its.toArray[i]? = some v → ∃ (z : Int) (t : Tok), ns[i]? = some z ∧ v = .int z t := fun i v hv => by
    have hv' : its[i]? = some v := by simpa using hv
    have hl : i < (ns.map V.int).length := by
      rw [rv.length]
      exact (List.getElem?_eq_some_iff.mp hv').1
    obtain ⟨u, hu, ru⟩ := rv.get (List.getElem?_eq_getElem hl)
    rw [hv'] at hu
    cases hu
    rw [List.length_map] at hl
    rw [List.getElem_map] at ru
    obtain ⟨t, e⟩ := ru
    exact ⟨ns[i], t, List.getElem?_eq_getElem hl, e⟩
  have cont : ∀ (code : Value) (h3 : Heap) (tk : Nat) (ps' : Array Value), Heap.ExtBut P (s1.heap.push o) h3 → (s1.heap.push o).objs.size ≤ h3.objs.size → h3.get? P = some { cls := .none, data := .fields ps' } → (∃ more, ps' = ps ++ more) → TriplesOk ps'.toList →
      wpAny (model X.prog X.w) X.A (builtinsFor X.env.globals X.env.builtins) (fun bi s₄ =>
        ∃ Ia fp wr n₀ Pf St₀ pz F, Value.ref s1.heap.objs.size = .ref Ia ∧ (∀ A' : Around, A'.handled = none → Walks X.prog X.w A' Ia fp wr n₀ Pf St₀) ∧ St₀ 0 s₄.heap ∧ (∀ b ∈ fp, b < s₄.heap.objs.size) ∧ s₄.heap.NoLimit ∧ cStatics ∉ wr ∧
          (∀ href : Heap, (∀ b o, s₄.heap.get? b = some o → href.get? b = some o) →
            QuietGenD X.prog X.w (genEnv scope (cloFrom X.env.cells scope.names []) s₄.heap.objs.size code bi X.env) x [] elt (List.range s₄.heap.objs.size) wr Pf pz F href (X.A.depth + 1) (X.A.units + 8)) ∧
          (∀ a h₅ tk gs, gs.bare = true → s₄.heap.objs.size < a → h₅.objs.size = a + 1 → (∀ b o, s₄.heap.get? b = some o → h₅.get? b = some o) →
            WalksS X.prog X.w X.A.in4 a (a :: s₄.heap.objs.size :: List.range s₄.heap.objs.size) (s₄.heap.objs.size :: wr) (GenOnlyQ s₄.gens.size) (passing pz n₀ 0).length
              (fun j y => ∃ i, (passing pz n₀ 0)[j]? = some i ∧ F i y) (GenAt X.prog X.w X.A.in4 a s₄.gens.size s₄.heap.objs.size (List.range s₄.heap.objs.size) wr pz n₀ F) →
            GenAt X.prog X.w X.A.in4 a s₄.gens.size s₄.heap.objs.size (List.range s₄.heap.objs.size) wr pz n₀ F 0 { s₄ with gens := s₄.gens.push gs, toks := tk, heap := h₅ } →
            Q' (.ref a) { s₄ with gens := s₄.gens.push gs, toks := tk, heap := h₅ })) X.xe { s1 with heap := h3, toks := tk } := by
    intro code h3 tk ps' hx hsz hP3 hmore ht3
    obtain ⟨bm, ob, e1, e2, e3, e4, e5, e6, e7, e8⟩ := TB.bm
    have hcP : cStatics ≠ P := fun e => by
      obtain ⟨_, hns, _⟩ := I1.nolimit
      obtain ⟨o', es, ep, ho, hd, _⟩ := hns
      rw [e, hPs] at ho
      cases ho
      cases hd
    have hcl : cStatics < s1.heap.objs.size := let ⟨_, hns, _⟩ := I1.nolimit; hns.lt
    have sz2 : (s1.heap.push o).objs.size = s1.heap.objs.size + 1 := Heap.size_push ..
    have keep3 : ∀ b u, b ≠ P → s1.heap.get? b = some u → h3.get? b = some u := fun b u hb e => hx b u hb (Heap.get?_push_of_some _ e)
    have glob3 : h3.Ns X.env.globals X.mg := by rw [I1.ok.glob]; exact ((I1.mod.glob.keeps I1.bk).push o).extBut hx TB.gP
    refine wpAny_builtinsFor (m := X.mg) glob3 e1 e2 (keep3 _ _ e4 (I1.bk _ _ e5)) e6 e7 e8 ?_
    have haP : a ≠ P := fun e => by
      obtain ⟨o', ho', hc', _⟩ := hT
      rw [e, hPs] at ho'
      cases ho'
      cases hc'
    refine ⟨s1.heap.objs.size, [s1.heap.objs.size, a], [s1.heap.objs.size], its.toArray.size, (fun i v => its.toArray[i]? = some v), (fun i h => h.IsTupleIter s1.heap.objs.size a i ∧ h.IsTuple a its.toArray), (fun _ => true), (fun i y => ∃ z, ns[i]? = some z ∧ y = .bool (pb z)), rfl, fun A' hA => Walks.tuple hA _ _ (Nat.ne_of_lt hlt) its.toArray, ?_, ?_, lim2.extBut hx hcP, ?_, ?_, ?_⟩
    · have h0 : (s1.heap.push o).IsTupleIter s1.heap.objs.size a 0 ∧ (s1.heap.push o).IsTuple a its.toArray := ⟨⟨_, Heap.get?_push_size _ rfl, rfl, rfl⟩, hT.push _⟩
      refine (Walks.tuple (prog := X.prog) (w := X.w) hr.hd _ _ (Nat.ne_of_lt hlt) its.toArray).frame _ _ _ h0 fun b hb u e => hx b u (fun z => ?_) e
      rcases List.mem_cons.mp hb with z2 | z2
      · exact Nat.ne_of_lt hPlt (z.symm.trans z2)
      · rcases List.mem_cons.mp z2 with z2 | z2
        · exact haP (z2.symm.trans z)
        · cases z2
    · intro b hb
      show b < h3.objs.size
      have sz3 : s1.heap.objs.size + 1 ≤ h3.objs.size := by rw [← sz2]; exact hsz
      rcases List.mem_cons.mp hb with z | z
      · rw [z]
        exact sz3
      · rcases List.mem_cons.mp z with z | z
        · rw [z]
          exact Nat.lt_trans hlt sz3
        · cases z
    · intro z
      rcases List.mem_cons.mp z with z | z
      · exact Nat.ne_of_lt hcl z
      · cases z
    · intro href hhref
      have up : ∀ (s₂ : Shared), (∀ b ∈ List.range h3.objs.size, b ∉ [s1.heap.objs.size] → ∀ o, href.get? b = some o → s₂.heap.get? b = some o) → ∀ b u, b ≠ P → s1.heap.get? b = some u → s₂.heap.get? b = some u := fun s₂ hk b u hb e => by
        have h1 := keep3 b u hb e
        refine hk b (List.mem_range.mpr (Heap.lt_size h1)) (fun z => ?_) u (hhref b u h1)
        rcases List.mem_cons.mp z with z | z
        · rw [z] at e
          exact Nat.lt_irrefl _ (Heap.lt_size e)
        · cases z
      refine ⟨fun A' E' i v s₂ m₂ hA _ _ hPv hn hm hk => ?_, fun A' E' i v s₂ m₂ hA hD hU hPv hp hn hm hk => ?_⟩
      · simp only [List.forIn_nil]
        exact wpAny_pure ⟨rfl, GxR.keeps_refl _⟩
      · obtain ⟨z, t, hz1, rfl⟩ := hni i v hPv
        have u2 := up s₂ hk
        have baseK : ∀ b u, X.base.get? b = some u → b ≠ P → s₂.heap.get? b = some u := fun b u e hb => u2 b u hb (I1.bk b u e)
        have nP : X.base.get? P = none := by
          cases q : X.base.get? P with
          | none => rfl
          | some u =>
            have := (I1.bs P u q).2
            rw [hP] at this
            cases this
        have baseA : ∀ b u, X.base.get? b = some u → s₂.heap.get? b = some u := fun b u e => baseK b u e (fun z => by rw [z, nP] at e; cases e)
        obtain ⟨mb, hb1, hb2⟩ := I1.mod.blt
        exact wpAny_mono (hel _ A' E' z t s₂ m₂ rfl rfl rfl hA hD hU (I1.ok.mod.kin.keeps baseA) (I1.ok.mod.nolimit.keeps baseA) (I1.mod.glob.keeps baseA) ⟨mb, hb1.keeps baseA, hb2⟩ hn hm) (fun y s3 r => ⟨⟨z, hz1, r.1⟩, r.2⟩) fun _ _ e => e
    · intro g h5 tk5 gs hgb hag hsz5 hk5 W5 hat
      simp only [GxR.passing_true, List.length_range] at W5
      have hsize : its.toArray.size = ns.length := by
        have := rv.length
        rw [List.length_map] at this
        rw [List.size_toArray]
        exact this.symm
      rw [hsize] at W5 hat
      refine hQ ns H1 g _ q1 ⟨_, _, _, _, _, W5.in4_1, hat, ?_, fun s' hm => ?_⟩
      · intro j y sj Qj Ej hy hQj
        obtain ⟨i, hij, z, hz1, rfl⟩ := hy
        obtain ⟨hj, ej⟩ := List.getElem?_eq_some_iff.mp hij
        rw [List.getElem_range] at ej
        subst ej
        have e9 : (ns.map pb).getD j false = pb z := by rw [List.getD_eq_getElem?_getD, List.getElem?_map, hz1]; rfl
        have hQ2 : Qj ((ns.map pb).getD j false) sj := hQj
        rw [e9] at hQ2
        exact wpAny_truthy_bool hQ2
      · obtain ⟨more, em⟩ := hmore
        have nwr : ∀ b u, s1.heap.get? b = some u → b ∉ h3.objs.size :: [s1.heap.objs.size] := fun b u e hb => by
          have hl := Heap.lt_size e
          rcases List.mem_cons.mp hb with z | z
          · rw [z] at hl
            have h9 : (h3.objs.size : Nat) < s1.heap.objs.size := hl
            omega
          · rcases List.mem_cons.mp z with z | z
            · rw [z] at hl
              exact Nat.lt_irrefl _ hl
            · cases z
        have J := GxR.inv_tab (more := more) (h' := s'.heap) (g' := s'.gens) (d' := s'.drawn) (t' := s'.toks) I1 hP (fun b u hb e => hm.heap b u (nwr b u e) (hk5 b u (keep3 b u hb e)))
          (by rw [← em]; exact hm.heap P _ (nwr P _ hPs) (hk5 P _ hP3)) (AllBare.movedS (I1.bare.push hgb) hm)
        rw [GxR.sh_eta s1 s' hm.os] at J
        refine ⟨upd H1 P (.tbl (ps ++ more)), ⟨⟨ps ++ more, upd_same, by rw [← em]; exact ht3⟩, fun b hb => upd_ne hb⟩, J⟩
  refine ⟨lim2, ?_⟩
  cases hf : codeAmong gpos ps.toList with
  | none =>
    refine wpAny_genexprCodeX hcode (cd.code hP2 ht) (cd.tab hP2) hf fun c' h' tk hx hge hlt hco' _ htab' _ => ?_
    obtain ⟨o1, vs, f1, tf, fl, tg, inF, tx, tt, op, _, _, _, _, _, _, _, _, _, htr, _⟩ := hco'
    exact cont _ h' tk _ hx (Nat.le_trans hge (Nat.le_of_lt hlt)) htab'.2 ⟨_, rfl⟩ htr
  | some cv =>
    refine wpAny_genexprCode_hit hcode (cd.code hP2 ht) hf ?_
    exact cont cv (s1.heap.push o) s1.toks ps (Heap.ExtBut.refl _ _) (Nat.le_refl _) hP2 ⟨#[], by simp⟩ ht
theorem all_getD (ns : List Int) (pb : Int → Bool) : (List.range ns.length).all (fun j => (ns.map pb).getD j false) = ns.all pb := by
  rw [Bool.eq_iff_iff, List.all_eq_true, List.all_eq_true]
  constructor
  · intro h z hz
    obtain ⟨j, hj, e⟩ := List.getElem_of_mem hz
    have q := h j (List.mem_range.mpr hj)
    rw [List.getD_eq_getElem?_getD, List.getElem?_map, List.getElem?_eq_getElem hj] at q
    rw [← e]
    exact q
  · intro h j hj
    have hj' := List.mem_range.mp hj
    rw [List.getD_eq_getElem?_getD, List.getElem?_map, List.getElem?_eq_getElem hj']
    exact h _ (List.getElem_mem hj')
/-- all(test for x in e), e a tuple of ints -/
def tAllI (K : PySem.W.Frag) (T : Tb) (P : Addr) (pb : Int → Bool) (te : TE) : TE := fun σ H Q => te σ H fun v H1 => ∃ (a : Addr) (ns : List Int), v = .ref a ∧ SqT K H1 a (ns.map V.int) ∧ GxR.TabG H1 P ∧ (Ok T H1 ∧ ∀ H2, Sm T H1 H2 → Q (.bl (ns.all pb)) H2)
theorem pe_allI {T : Tb} {c P : Addr} {elt iter : Expr} {x : Str} {px p pos gpos : Pos} {scope : Scope} {pb : Int → Bool} {te : TE} {k : Nat} (hn : (T.map (·.1)).Nodup) (hPT : (P, (none : Option Str)) ∈ T)
    (hr : Room k X.A) (hg : Gl X "all") (hm : X.mg "all" = none) (hb : bootBuiltins "all" = some (.builtin "all")) (TB : GxR.TabB X.base X.mg c P) (hcode : X.env.code = .ref c) (S : GxR.GenS X.env scope x) (hi : PE X iter te) (hel : EltI X scope x elt (fun i y => y = .bool (pb i)))
    (hs : ∀ v, genFold iter X.env v = pure v)
    (he : starEach [.GeneratorExp elt [⟨.Name x px, iter, [], 0⟩] scope gpos] X.env = (false, eval (.GeneratorExp elt [⟨.Name x px, iter, [], 0⟩] scope gpos) X.env) :: starEach [] X.env := by rfl) :
    PE X (.Call (.Name "all" p) [.GeneratorExp elt [⟨.Name x px, iter, [], 0⟩] scope gpos] [] pos) (tAllI X.K T P pb te) := by
  refine ⟨fun pins s σ H Q I h => ?_⟩
  refine wpAny_Call_Name_kw (ld_blt I hg hm hb ?_)
  refine PyProof.Rows.callWith_builtin1 ?_ he (by rfl)
  rw [he]
  show wpAny _ _ (spliced ((false, eval (.GeneratorExp elt [⟨.Name x px, iter, [], 0⟩] scope gpos) X.env) :: backTo pos (starEach [] X.env))) _ _ s
  refine Calls.spliced_cons (gen_tup (R := fun ns H1 => Ok T H1 ∧ ∀ H2, Sm T H1 H2 → Q (.bl (ns.all pb)) H2) hr TB hcode S hi hel hs I h fun ns H1 g s5 hR hG => ?_)
  obtain ⟨fp, wr, G, F, St, W, hst, htr, hI⟩ := hG
  refine Calls.spliced_nil ?_
  refine call_all_walkS (W.self 0 _ _ _ hst ⟨g, fp, wr, G, _, F, St, _, rfl, W, hst, htr, fun s' hmv => ?_⟩)
  obtain ⟨H2, hT, J⟩ := hI s' hmv
  refine ⟨.bl _, H2, J, rfl, ?_⟩
  rw [all_getD ns pb]
  exact hR.2 H2 (sm_tabbed hn hPT (hR.1 _ hPT) hT)
end
section
variable {X : Cx} {pins : List (Addr × Obj)} {σ : L2.St} {H : Hp} {s : Shared}
/-- a list of pairs of ints -/
def Pairs (K : PySem.W.Frag) (H : Hp) (a : Addr) (ps : List (Int × Int)) : Prop := ∃ vs : List V, SqL K H a vs ∧ vs.length = ps.length ∧ ∀ (i : Nat) (p : Int × Int), ps[i]? = some p → ∃ b, vs[i]? = some (.ref b) ∧ SqT K H b [.int p.1, .int p.2]
theorem Pairs.keep {T : Tb} {K : PySem.W.Frag} {H H' : Hp} {a : Addr} {ps : List (Int × Int)} (h : Pairs K H a ps) (s : Sm T H H') : Pairs K H' a ps := by
  obtain ⟨vs, h1, h2, h3⟩ := h
  refine ⟨vs, s.seq h1, h2, fun i p e => ?_⟩
  obtain ⟨b, e1, e2⟩ := h3 i p e
  exact ⟨b, e1, same_tup s e2⟩
theorem gen_pairs {c P : Addr} {elt iter : Expr} {xa xb : Str} {pa pb pt gpos : Pos} {kt : Nat} {scope : Scope} {f : Int → Int → Int} {te : TE} {k : Nat} {Q' : Value → Shared → Prop} {R : List (Int × Int) → Hp → Prop}
    (hr : Room k X.A) (TB : GxR.TabB X.base X.mg c P) (hcode : X.env.code = .ref c) (S : GxR.GenS X.env scope xa) (hxb : scope.names.lookup xb = some .local) (hab : xa ≠ xb) (hi : PE X iter te) (hel : EltP X scope xa xb elt f)
    (hs : ∀ v, genFold iter X.env v = pure v) (I : Inv X pins σ H s) (h : te σ H fun v H1 => ∃ (a : Addr) (qs : List (Int × Int)), v = .ref a ∧ Pairs X.K H1 a qs ∧ (∀ q ∈ qs, -(2 ^ 64) < q.1 ∧ q.1 < 2 ^ 64) ∧ GxR.TabG H1 P ∧ R qs H1)
    (hQ : ∀ qs H1 g s5, R qs H1 → (∃ (fp wr : List Addr) (G : Array GenState → Array GenState → Prop) (F : Nat → Value → Prop) (St : Nat → Shared → Prop),
      WalksS X.prog X.w X.A.in1 g fp wr G qs.length F St ∧ St 0 s5 ∧ (∀ b ∈ fp, b < s5.heap.objs.size) ∧ (∀ i v, F i v → ∃ t, v = .int ((qs.map fun (q : Int × Int) => f q.1 q.2).getD i 0) t) ∧ ∀ s', Moved wr G s5 s' → ∃ H2, GxR.Tabbed P H1 H2 ∧ Inv X pins σ H2 s') → Q' (.ref g) s5) :
    wpAny (model X.prog X.w) X.A (eval (.GeneratorExp elt [⟨.Tuple [.Name xa pa, .Name xb pb] kt pt, iter, [], 0⟩] scope gpos) X.env) Q' X.xe s := by
  refine wpAny_GeneratorExp_walksQT hr.hd S.co (closure_ok S.free) S.cell S.dot S.loc hxb hab S.kind (by have := hr.dp; omega) ?_ hs
  refine thn (hi.run pins s σ H _ I h) fun xv s1 ⟨v, H1, I1, r1, q1⟩ => ?_
  obtain ⟨a, qs, rfl, ⟨vs, hS, hvl, hvp⟩, hbd, ⟨ps, hP, ht⟩, q1⟩ := q1
  cases r1
  obtain ⟨its, rv, ⟨o0, n0, ho0, hc0, _, hd0⟩, hz⟩ := I1.list hS
  have hL : s1.heap.IsList a its.toArray := ⟨o0, ho0, hc0, n0, hd0⟩
  have hlt : a < s1.heap.objs.size := Heap.lt_size ho0
  have hlen : its.toArray.size = qs.length := by rw [List.size_toArray, ← rv.length, hvl]
  have hpair : ∀ j, j < its.toArray.size → ∃ (b : Addr) (t u : Tok) (q : Int × Int), qs[j]? = some q ∧ its.toArray[j]? = some (.ref b) ∧ s1.heap.IsTuple b #[.int q.1 t, .int q.2 u] := fun j hj => by
    have hj' : j < qs.length := by rw [← hlen]; exact hj
    obtain ⟨b, e1, e2⟩ := hvp j _ (List.getElem?_eq_getElem hj')
    obtain ⟨u', hu, ru⟩ := rv.get e1
    obtain rfl : u' = Value.ref b := ru
    obtain ⟨its2, rv2, ⟨o2, ho2, hc2, n2, hd2⟩, _⟩ := I1.tuple e2
    cases rv2 with
    | cons r1 rr =>
      cases rr with
      | cons r2 rn =>
        cases rn
        obtain ⟨t1, rfl⟩ := r1
        obtain ⟨t2, rfl⟩ := r2
        exact ⟨b, t1, t2, qs[j], List.getElem?_eq_getElem hj', by simpa using hu, ⟨o2, ho2, hc2, n2, hd2⟩⟩
  refine wpAny_pyIter_list hL ?_
  have hPs : s1.heap.get? P = some { cls := .none, data := .fields ps } := I1.hok P _ hP
  have hPlt : P < s1.heap.objs.size := Heap.lt_size hPs
  let o : Obj := { cls := .type "list_iterator", data := .fields #[.ref a, .int 0 0] }
  show (s1.heap.push o).NoLimit ∧ _
  have hP2 : (s1.heap.push o).get? P = some { cls := .none, data := .fields ps } := Heap.get?_push_of_some _ hPs
  have cd : PySem.W.CodeHd (s1.heap.push o) c P := TB.code.keeps fun b u e => Heap.get?_push_of_some _ (I1.bk b u e)
  have lim2 : (s1.heap.push o).NoLimit := I1.nolimit.push o
  let Ts : Nat → Addr := fun j => match its.toArray[j]? with | some (.ref b) => b | _ => 0
  have hTs : ∀ j, j < its.toArray.size → its.toArray[j]? = some (.ref (Ts j)) := fun j hj => by
    obtain ⟨b, t, u, q, _, e, _⟩ := hpair j hj
    show _ = some (Value.ref (match its.toArray[j]? with | some (.ref b) => b | _ => 0))
    rw [e]
  have hvals : ∃ vals : Nat → Array Value, ∀ j, j < its.toArray.size → s1.heap.IsTuple (Ts j) (vals j) ∧ ∃ (t u : Tok) (q : Int × Int), qs[j]? = some q ∧ vals j = #[.int q.1 t, .int q.2 u] := by
    have : ∀ j, ∃ va : Array Value, j < its.toArray.size → s1.heap.IsTuple (Ts j) va ∧ ∃ (t u : Tok) (q : Int × Int), qs[j]? = some q ∧ va = #[.int q.1 t, .int q.2 u] := fun j => by
      by_cases hj : j < its.toArray.size
      · obtain ⟨b, t, u, q, e1, e, e2⟩ := hpair j hj
        have eb : Ts j = b := by
          have := hTs j hj
          rw [e] at this
          cases this
          rfl
        exact ⟨_, fun _ => ⟨by rw [eb]; exact e2, t, u, q, e1, rfl⟩⟩
      · exact ⟨#[], fun z => absurd z hj⟩
    exact ⟨fun j => Classical.choose (this j), fun j hj => Classical.choose_spec (this j) hj⟩
  obtain ⟨vals, hvals⟩ := hvals
  have hTlt : ∀ j, j < its.toArray.size → Ts j < s1.heap.objs.size := fun j hj => by
    obtain ⟨⟨o', ho', _⟩, _⟩ := hvals j hj
    exact Heap.lt_size ho'
  have W : ∀ A' : Around, A'.handled = none → WalksU X.prog X.w A' s1.heap.objs.size (s1.heap.objs.size :: a :: (List.range its.toArray.size).map Ts) [s1.heap.objs.size] its.toArray.size (fun j v => j < its.toArray.size ∧ v = vals j) _ _ :=
    fun A' hA => (WalksU.listOfTuples (prog := X.prog) (w := X.w) hA s1.heap.objs.size a (Nat.ne_of_lt hlt) its.toArray Ts vals hTs (fun j hj => Nat.ne_of_lt (hTlt j hj))).bound
  have notP : ∀ b, b ∈ s1.heap.objs.size :: a :: (List.range its.toArray.size).map Ts → b ≠ P := fun b hb z => by
    rcases List.mem_cons.mp hb with z2 | z2
    · exact Nat.ne_of_lt hPlt (z.symm.trans z2)
    · rcases List.mem_cons.mp z2 with z2 | z2
      · rw [← z, z2, ho0] at hPs
        cases hPs
        cases hc0
      · obtain ⟨j, hj, e⟩ := List.mem_map.mp z2
        obtain ⟨⟨o', ho', hc', _⟩, _⟩ := hvals j (List.mem_range.mp hj)
        rw [e, z, hPs] at ho'
        cases ho'
        cases hc'
  have cont : ∀ (code : Value) (h3 : Heap) (tk : Nat) (ps' : Array Value), Heap.ExtBut P (s1.heap.push o) h3 → (s1.heap.push o).objs.size ≤ h3.objs.size → h3.get? P = some { cls := .none, data := .fields ps' } → (∃ more, ps' = ps ++ more) → TriplesOk ps'.toList →
      wpAny (model X.prog X.w) X.A (builtinsFor X.env.globals X.env.builtins) (fun bi s₄ =>
        ∃ Ia fp wr n₀ Pt St₀ Mid pz F, Value.ref s1.heap.objs.size = .ref Ia ∧ (∀ A' : Around, A'.handled = none → WalksU X.prog X.w A' Ia fp wr n₀ Pt St₀ Mid) ∧ (∀ i vals, Pt i vals → ∃ va vb, vals = #[va, vb]) ∧ St₀ 0 s₄.heap ∧ (∀ b ∈ fp, b < s₄.heap.objs.size) ∧ s₄.heap.NoLimit ∧ cStatics ∉ wr ∧
          (∀ href : Heap, (∀ b o, s₄.heap.get? b = some o → href.get? b = some o) →
            QuietGenT X.prog X.w (genEnv scope (cloFrom X.env.cells scope.names []) s₄.heap.objs.size code bi X.env) xa xb [] elt (List.range s₄.heap.objs.size) wr Pt pz F href) ∧
          (∀ a h₅ tk gs, gs.bare = true → s₄.heap.objs.size < a → h₅.objs.size = a + 1 → (∀ b o, s₄.heap.get? b = some o → h₅.get? b = some o) →
            WalksS X.prog X.w X.A.in4 a (a :: s₄.heap.objs.size :: List.range s₄.heap.objs.size) (s₄.heap.objs.size :: wr) (GenOnlyQ s₄.gens.size) (passing pz n₀ 0).length
              (fun j y => ∃ i, (passing pz n₀ 0)[j]? = some i ∧ F i y) (GenAt X.prog X.w X.A.in4 a s₄.gens.size s₄.heap.objs.size (List.range s₄.heap.objs.size) wr pz n₀ F) →
            GenAt X.prog X.w X.A.in4 a s₄.gens.size s₄.heap.objs.size (List.range s₄.heap.objs.size) wr pz n₀ F 0 { s₄ with gens := s₄.gens.push gs, toks := tk, heap := h₅ } →
            Q' (.ref a) { s₄ with gens := s₄.gens.push gs, toks := tk, heap := h₅ })) X.xe { s1 with heap := h3, toks := tk } := by
    intro code h3 tk ps' hx hsz hP3 hmore ht3
    obtain ⟨bm, ob, e1, e2, e3, e4, e5, e6, e7, e8⟩ := TB.bm
    have hcP : cStatics ≠ P := fun e => by
      obtain ⟨_, hns, _⟩ := I1.nolimit
      obtain ⟨o', es, ep, ho, hd, _⟩ := hns
      rw [e, hPs] at ho
      cases ho
      cases hd
    have hcl : cStatics < s1.heap.objs.size := let ⟨_, hns, _⟩ := I1.nolimit; hns.lt
    have sz2 : (s1.heap.push o).objs.size = s1.heap.objs.size + 1 := Heap.size_push ..
    have sz3 : s1.heap.objs.size + 1 ≤ h3.objs.size := by rw [← sz2]; exact hsz
    have keep3 : ∀ b u, b ≠ P → s1.heap.get? b = some u → h3.get? b = some u := fun b u hb e => hx b u hb (Heap.get?_push_of_some _ e)
    have glob3 : h3.Ns X.env.globals X.mg := by rw [I1.ok.glob]; exact ((I1.mod.glob.keeps I1.bk).push o).extBut hx TB.gP
    refine wpAny_builtinsFor (m := X.mg) glob3 e1 e2 (keep3 _ _ e4 (I1.bk _ _ e5)) e6 e7 e8 ?_
    refine ⟨s1.heap.objs.size, _, [s1.heap.objs.size], its.toArray.size, _, _, _, (fun _ => true), (fun i y => ∃ q t, qs[i]? = some q ∧ y = .int (f q.1 q.2) t), rfl, W, ?_, ?_, ?_, lim2.extBut hx hcP, ?_, ?_, ?_⟩
    · rintro i va ⟨hi', rfl⟩
      obtain ⟨_, t, u, q, _, e⟩ := hvals i hi'
      exact ⟨_, _, e⟩
    · have h0 : (s1.heap.push o).IsListIter s1.heap.objs.size a 0 ∧ (s1.heap.push o).IsList a its.toArray ∧ ∀ k, k < its.toArray.size → (s1.heap.push o).IsTuple (Ts k) (vals k) :=
        ⟨⟨_, Heap.get?_push_size _ rfl, rfl, rfl⟩, hL.push _, fun k hk => (hvals k hk).1.push _⟩
      exact (W X.A hr.hd).frame _ _ _ h0 fun b hb u e => hx b u (notP b hb) e
    · intro b hb
      show b < h3.objs.size
      rcases List.mem_cons.mp hb with z | z
      · rw [z]
        exact sz3
      · rcases List.mem_cons.mp z with z | z
        · rw [z]
          exact Nat.lt_trans hlt sz3
        · obtain ⟨j, hj, e⟩ := List.mem_map.mp z
          rw [← e]
          exact Nat.lt_trans (hTlt j (List.mem_range.mp hj)) sz3
    · intro z
      rcases List.mem_cons.mp z with z | z
      · exact Nat.ne_of_lt hcl z
      · cases z
    · intro href hhref
      refine ⟨fun A' E' i va vb s₂ m₂ hA hPv hn hma hmb hk => ?_, fun A' E' i va vb s₂ m₂ hA hPv hp hn hma hmb hk => ?_⟩
      · simp only [List.forIn_nil]
        exact wpAny_pure ⟨rfl, GxR.keeps_refl _⟩
      · obtain ⟨hi', ev⟩ := hPv
        obtain ⟨_, t, u, q, hq, e⟩ := hvals i hi'
        rw [e] at ev
        obtain ⟨rfl, rfl⟩ : va = .int q.1 t ∧ vb = .int q.2 u := by simpa using congrArg Array.toList ev
        exact wpAny_mono (hel _ A' E' q.1 q.2 t u s₂ m₂ rfl hA (hbd q (List.mem_of_getElem? hq)) hn hma hmb) (fun y s3 r => ⟨let ⟨v, hv⟩ := r.1; ⟨q, v, hq, hv⟩, r.2⟩) fun _ _ e => e
    · intro g h5 tk5 gs hgb hag hsz5 hk5 W5 hat
      simp only [GxR.passing_true, List.length_range] at W5
      rw [hlen] at W5 hat
      refine hQ qs H1 g _ q1 ⟨_, _, _, _, _, W5.in4_1, hat, ?_, ?_, fun s' hm => ?_⟩
      · intro b hb
        show b < h5.objs.size
        have hag' : h3.objs.size < g := hag
        rcases List.mem_cons.mp hb with z | z
        · rw [z, hsz5]
          exact Nat.lt_succ_self _
        · rcases List.mem_cons.mp z with z | z
          · rw [z, hsz5]
            exact Nat.lt_succ_of_lt hag'
          · rw [hsz5]
            exact Nat.lt_succ_of_lt (Nat.lt_trans (List.mem_range.mp z) hag')
      · intro j y hy
        obtain ⟨i, hij, q, t, hq, rfl⟩ := hy
        obtain ⟨hj, ej⟩ := List.getElem?_eq_some_iff.mp hij
        rw [List.getElem_range] at ej
        subst ej
        exact ⟨t, by rw [List.getD_eq_getElem?_getD, List.getElem?_map, hq]; rfl⟩
      · obtain ⟨more, em⟩ := hmore
        have nwr : ∀ b u, s1.heap.get? b = some u → b ∉ h3.objs.size :: [s1.heap.objs.size] := fun b u e hb => by
          have hl := Heap.lt_size e
          rcases List.mem_cons.mp hb with z | z
          · rw [z] at hl
            have h9 : (h3.objs.size : Nat) < s1.heap.objs.size := hl
            omega
          · rcases List.mem_cons.mp z with z | z
            · rw [z] at hl
              exact Nat.lt_irrefl _ hl
            · cases z
        have J := GxR.inv_tab (more := more) (h' := s'.heap) (g' := s'.gens) (d' := s'.drawn) (t' := s'.toks) I1 hP (fun b u hb e => hm.heap b u (nwr b u e) (hk5 b u (keep3 b u hb e)))
          (by rw [← em]; exact hm.heap P _ (nwr P _ hPs) (hk5 P _ hP3)) (AllBare.movedS (I1.bare.push hgb) hm)
        rw [GxR.sh_eta s1 s' hm.os] at J
        refine ⟨upd H1 P (.tbl (ps ++ more)), ⟨⟨ps ++ more, upd_same, by rw [← em]; exact ht3⟩, fun b hb => upd_ne hb⟩, J⟩
  refine ⟨lim2, ?_⟩
  cases hf : codeAmong gpos ps.toList with
  | none =>
    refine wpAny_genexprCodeX hcode (cd.code hP2 ht) (cd.tab hP2) hf fun c' h' tk hx hge hlt hco' _ htab' _ => ?_
    obtain ⟨o1, vs, f1, tf, fl, tg, inF, tx, tt, op, _, _, _, _, _, _, _, _, _, htr, _⟩ := hco'
    exact cont _ h' tk _ hx (Nat.le_trans hge (Nat.le_of_lt hlt)) htab'.2 ⟨_, rfl⟩ htr
  | some cv =>
    refine wpAny_genexprCode_hit hcode (cd.code hP2 ht) hf ?_
    exact cont cv (s1.heap.push o) s1.toks ps (Heap.ExtBut.refl _ _) (Nat.le_refl _) hP2 ⟨#[], by simp⟩ ht
/-- sum(elt for a, b in e), e a list of pairs of ints -/
def tSumP (K : PySem.W.Frag) (T : Tb) (P : Addr) (f : Int → Int → Int) (te : TE) : TE := fun σ H Q => te σ H fun v H1 => ∃ (a : Addr) (qs : List (Int × Int)), v = .ref a ∧ Pairs K H1 a qs ∧ (∀ q ∈ qs, -(2 ^ 64) < q.1 ∧ q.1 < 2 ^ 64) ∧ GxR.TabG H1 P ∧
  ((Ok T H1 ∧ ∀ j, j < qs.length → InLong ((qs.map fun (q : Int × Int) => f q.1 q.2).getD j 0) ∧ InLong (((qs.map fun (q : Int × Int) => f q.1 q.2).take (j + 1)).sum)) ∧ ∀ H2, Sm T H1 H2 → Q (.int (qs.map fun (q : Int × Int) => f q.1 q.2).sum) H2)
theorem pe_sumP {T : Tb} {c P : Addr} {elt iter : Expr} {xa xb : Str} {pa pb pt p pos gpos : Pos} {kt : Nat} {scope : Scope} {f : Int → Int → Int} {te : TE} {k : Nat} (hn : (T.map (·.1)).Nodup) (hPT : (P, (none : Option Str)) ∈ T)
    (hr : Room k X.A) (hg : Gl X "sum") (hm : X.mg "sum" = none) (hb : bootBuiltins "sum" = some (.builtin "sum")) (TB : GxR.TabB X.base X.mg c P) (hcode : X.env.code = .ref c) (S : GxR.GenS X.env scope xa) (hxb : scope.names.lookup xb = some .local) (hab : xa ≠ xb) (hi : PE X iter te) (hel : EltP X scope xa xb elt f)
    (hs : ∀ v, genFold iter X.env v = pure v)
    (he : starEach [.GeneratorExp elt [⟨.Tuple [.Name xa pa, .Name xb pb] kt pt, iter, [], 0⟩] scope gpos] X.env = (false, eval (.GeneratorExp elt [⟨.Tuple [.Name xa pa, .Name xb pb] kt pt, iter, [], 0⟩] scope gpos) X.env) :: starEach [] X.env := by rfl) :
    PE X (.Call (.Name "sum" p) [.GeneratorExp elt [⟨.Tuple [.Name xa pa, .Name xb pb] kt pt, iter, [], 0⟩] scope gpos] [] pos) (tSumP X.K T P f te) := by
  refine ⟨fun pins s σ H Q I h => ?_⟩
  refine wpAny_Call_Name_kw (ld_blt I hg hm hb ?_)
  refine PyProof.Rows.callWith_builtin1 ?_ he (by rfl)
  rw [he]
  show wpAny _ _ (spliced ((false, eval (.GeneratorExp elt [⟨.Tuple [.Name xa pa, .Name xb pb] kt pt, iter, [], 0⟩] scope gpos) X.env) :: backTo pos (starEach [] X.env))) _ _ s
  refine Calls.spliced_cons (gen_pairs (R := fun qs H1 => (Ok T H1 ∧ ∀ j, j < qs.length → InLong ((qs.map fun (q : Int × Int) => f q.1 q.2).getD j 0) ∧ InLong (((qs.map fun (q : Int × Int) => f q.1 q.2).take (j + 1)).sum)) ∧ ∀ H2, Sm T H1 H2 → Q (.int (qs.map fun (q : Int × Int) => f q.1 q.2).sum) H2) hr TB hcode S hxb hab hi hel hs I h fun qs H1 g s5 hR hG => ?_)
  obtain ⟨fp, wr, G, F, St, W, hst, hfp, hval, hI⟩ := hG
  refine Calls.spliced_nil ?_
  refine call_sum_walkS (W.self 0 _ _ _ hst ⟨g, fp, wr, G, _, F, St, (fun i => (qs.map fun (q : Int × Int) => f q.1 q.2).getD i 0), rfl, W, hst, hfp, hval, fun j hj => ⟨(hR.1.2 j hj).1, by rw [preSum_getD]; exact (hR.1.2 j hj).2⟩, fun s' t' hmv => ?_⟩)
  obtain ⟨H2, hT, J⟩ := hI s' hmv
  refine ⟨.int _, H2, J, ⟨t', rfl⟩, ?_⟩
  rw [preSum_getD, show qs.length = (qs.map fun (q : Int × Int) => f q.1 q.2).length by rw [List.length_map], List.take_length]
  exact hR.2 H2 (sm_tabbed hn hPT (hR.1.1 _ hPT) hT)
end
def genB (scope : Scope) (x : Str) : Bool := decide (scope.kind = .function) && !scope.isCoroutine && (scope.names.all fun y => !decide (y.2 = .cell) && !decide (y.2 = .free)) && decide (scope.names.lookup (".0" : Str) = some .local) && decide (scope.names.lookup x = some .local)
theorem gens_by {env : Env} {scope : Scope} {x : Str} (h : genB scope x = true) : GxR.GenS env scope x := by
  unfold genB at h
  simp only [Bool.and_eq_true, Bool.not_eq_true', decide_eq_true_eq, decide_eq_false_iff_not, List.all_eq_true] at h
  obtain ⟨⟨⟨⟨h1, h2⟩, h3⟩, h4⟩, h5⟩ := h
  exact ⟨h1, h2, fun y hy => (h3 y hy).1, h4, h5, fun y hy e => absurd e (h3 y hy).2⟩

/-! ### sum over a tuple of pairs -/
theorem walksU_tup {prog : Program} {w : World} {A : Around} (hd0 : A.handled = none) (J tp : Addr) (hJ : tp ≠ J) (its : Array Value) (Ts : Nat → Addr) (vals : Nat → Array Value)
    (ht : ∀ j, j < its.size → its[j]? = some (.ref (Ts j))) (hn : ∀ j, j < its.size → Ts j ≠ J) :
    WalksU prog w A J (J :: tp :: (List.range its.size).map Ts) [J] its.size (fun j v => v = vals j)
      (fun j h => h.IsTupleIter J tp j ∧ h.IsTuple tp its ∧ ∀ n, n < its.size → h.IsTuple (Ts n) (vals n))
      (fun j Tt h => (j < its.size ∧ Tt = Ts j) ∧ h.IsTupleIter J tp (j + 1) ∧ h.IsTuple tp its ∧ ∀ n, n < its.size → h.IsTuple (Ts n) (vals n)) where
  sub := fun d hd => by
    rw [List.mem_singleton.mp hd]
    exact List.mem_cons_self
  frame := fun _ _ _ q hk => by
    refine ⟨q.1.at fun o e => hk J (by simp) o e, q.2.1.at fun o e => hk tp (by simp) o e, fun n hn' => (q.2.2 n hn').at fun o e => hk (Ts n) ?_ o e⟩
    exact List.mem_cons_of_mem _ (List.mem_cons_of_mem _ (List.mem_map.mpr ⟨n, List.mem_range.mpr hn', rfl⟩))
  item := fun i s Q E hi q hQ => by
    refine wpAny_pyNext_tuple_item q.1 q.2.1 (x := .ref (Ts i)) (ht i hi) fun h' q' b => ?_
    have all' : ∀ n, n < its.size → h'.IsTuple (Ts n) (vals n) := fun n hn' => (q.2.2 n hn').extBut b.extBut (hn n hn')
    refine hQ (Ts i) (vals i) h' s.toks rfl (all' i hi) ⟨⟨hi, rfl⟩, q', q.2.1.extBut b.extBut hJ, all'⟩ fun d o hd e => ?_
    exact b.extBut d o (fun z => hd (by simp [z])) e
  go := fun _ _ _ _ _ s Q _ hm hQ => by
    obtain ⟨o, ho, hc, hd⟩ := hm.2.1
    exact go_of ho hc hd (by decide) (hQ s.heap hm.2 fun _ _ _ e => e)
  apart := fun j Tt _ hm hmem => by
    have e := List.mem_singleton.mp hmem
    exact hn j hm.1.1 (hm.1.2 ▸ e)
  done := fun s Q E q hQ => wpAny_pyNext_tuple_end hd0 q.1 q.2.1 (by simp) fun h' b => hQ h' s.toks fun d o hd e => b d o (fun z => hd (by simp [z])) e
  self := fun _ _ _ _ q hQ => wpAny_pyIter_tupleiter q.1 hQ
section
variable {X : Cx} {pins : List (Addr × Obj)} {σ : L2.St} {H : Hp} {s : Shared}
/-- a tuple of pairs of ints -/
def PairsT (K : PySem.W.Frag) (H : Hp) (a : Addr) (ps : List (Int × Int)) : Prop := ∃ vs : List V, SqT K H a vs ∧ vs.length = ps.length ∧ ∀ (i : Nat) (p : Int × Int), ps[i]? = some p → ∃ b, vs[i]? = some (.ref b) ∧ SqT K H b [.int p.1, .int p.2]
theorem PairsT.keep {T : Tb} {K : PySem.W.Frag} {H H' : Hp} {a : Addr} {ps : List (Int × Int)} (h : PairsT K H a ps) (s : Sm T H H') : PairsT K H' a ps := by
  obtain ⟨vs, h1, h2, h3⟩ := h
  refine ⟨vs, same_tup s h1, h2, fun i p e => ?_⟩
  obtain ⟨b, e1, e2⟩ := h3 i p e
  exact ⟨b, e1, same_tup s e2⟩
theorem gen_pairsT {c P : Addr} {elt iter : Expr} {xa xb : Str} {pa pb pt gpos : Pos} {kt : Nat} {scope : Scope} {f : Int → Int → Int} {te : TE} {k : Nat} {Q' : Value → Shared → Prop} {R : List (Int × Int) → Hp → Prop}
    (hr : Room k X.A) (TB : GxR.TabB X.base X.mg c P) (hcode : X.env.code = .ref c) (S : GxR.GenS X.env scope xa) (hxb : scope.names.lookup xb = some .local) (hab : xa ≠ xb) (hi : PE X iter te) (hel : EltP X scope xa xb elt f)
    (hs : ∀ v, genFold iter X.env v = pure v) (I : Inv X pins σ H s) (h : te σ H fun v H1 => ∃ (a : Addr) (qs : List (Int × Int)), v = .ref a ∧ PairsT X.K H1 a qs ∧ (∀ q ∈ qs, -(2 ^ 64) < q.1 ∧ q.1 < 2 ^ 64) ∧ GxR.TabG H1 P ∧ R qs H1)
    (hQ : ∀ qs H1 g s5, R qs H1 → (∃ (fp wr : List Addr) (G : Array GenState → Array GenState → Prop) (F : Nat → Value → Prop) (St : Nat → Shared → Prop),
      WalksS X.prog X.w X.A.in1 g fp wr G qs.length F St ∧ St 0 s5 ∧ (∀ b ∈ fp, b < s5.heap.objs.size) ∧ (∀ i v, F i v → ∃ t, v = .int ((qs.map fun (q : Int × Int) => f q.1 q.2).getD i 0) t) ∧ ∀ s', Moved wr G s5 s' → ∃ H2, GxR.Tabbed P H1 H2 ∧ Inv X pins σ H2 s') → Q' (.ref g) s5) :
    wpAny (model X.prog X.w) X.A (eval (.GeneratorExp elt [⟨.Tuple [.Name xa pa, .Name xb pb] kt pt, iter, [], 0⟩] scope gpos) X.env) Q' X.xe s := by
  refine wpAny_GeneratorExp_walksQT hr.hd S.co (closure_ok S.free) S.cell S.dot S.loc hxb hab S.kind (by have := hr.dp; omega) ?_ hs
  refine thn (hi.run pins s σ H _ I h) fun xv s1 ⟨v, H1, I1, r1, q1⟩ => ?_
  obtain ⟨a, qs, rfl, ⟨vs, hS, hvl, hvp⟩, hbd, ⟨ps, hP, ht⟩, q1⟩ := q1
  cases r1
  obtain ⟨its, rv, ⟨o0, ho0, hc0, n0, hd0⟩, hz⟩ := I1.tuple hS
  have hL : s1.heap.IsTuple a its.toArray := ⟨o0, ho0, hc0, n0, hd0⟩
  have hlt : a < s1.heap.objs.size := Heap.lt_size ho0
  have hlen : its.toArray.size = qs.length := by rw [List.size_toArray, ← rv.length, hvl]
  have hpair : ∀ j, j < its.toArray.size → ∃ (b : Addr) (t u : Tok) (q : Int × Int), qs[j]? = some q ∧ its.toArray[j]? = some (.ref b) ∧ s1.heap.IsTuple b #[.int q.1 t, .int q.2 u] := fun j hj => by
    have hj' : j < qs.length := by rw [← hlen]; exact hj
    obtain ⟨b, e1, e2⟩ := hvp j _ (List.getElem?_eq_getElem hj')
    obtain ⟨u', hu, ru⟩ := rv.get e1
    obtain rfl : u' = Value.ref b := ru
    obtain ⟨its2, rv2, ⟨o2, ho2, hc2, n2, hd2⟩, _⟩ := I1.tuple e2
    cases rv2 with
    | cons r1 rr =>
      cases rr with
      | cons r2 rn =>
        cases rn
        obtain ⟨t1, rfl⟩ := r1
        obtain ⟨t2, rfl⟩ := r2
        exact ⟨b, t1, t2, qs[j], List.getElem?_eq_getElem hj', by simpa using hu, ⟨o2, ho2, hc2, n2, hd2⟩⟩
  refine wpAny_pyIter_tuple hL ?_
  have hPs : s1.heap.get? P = some { cls := .none, data := .fields ps } := I1.hok P _ hP
  have hPlt : P < s1.heap.objs.size := Heap.lt_size hPs
  let o : Obj := { cls := .type "tuple_iterator", data := .fields #[.ref a, .int 0 0] }
  show (s1.heap.push o).NoLimit ∧ _
  have hP2 : (s1.heap.push o).get? P = some { cls := .none, data := .fields ps } := Heap.get?_push_of_some _ hPs
  have cd : PySem.W.CodeHd (s1.heap.push o) c P := TB.code.keeps fun b u e => Heap.get?_push_of_some _ (I1.bk b u e)
  have lim2 : (s1.heap.push o).NoLimit := I1.nolimit.push o
  let Ts : Nat → Addr := fun j => match its.toArray[j]? with | some (.ref b) => b | _ => 0
  have hTs : ∀ j, j < its.toArray.size → its.toArray[j]? = some (.ref (Ts j)) := fun j hj => by
    obtain ⟨b, t, u, q, _, e, _⟩ := hpair j hj
    show _ = some (Value.ref (match its.toArray[j]? with | some (.ref b) => b | _ => 0))
    rw [e]
  have hvals : ∃ vals : Nat → Array Value, ∀ j, j < its.toArray.size → s1.heap.IsTuple (Ts j) (vals j) ∧ ∃ (t u : Tok) (q : Int × Int), qs[j]? = some q ∧ vals j = #[.int q.1 t, .int q.2 u] := by
    have : ∀ j, ∃ va : Array Value, j < its.toArray.size → s1.heap.IsTuple (Ts j) va ∧ ∃ (t u : Tok) (q : Int × Int), qs[j]? = some q ∧ va = #[.int q.1 t, .int q.2 u] := fun j => by
      by_cases hj : j < its.toArray.size
      · obtain ⟨b, t, u, q, e1, e, e2⟩ := hpair j hj
        have eb : Ts j = b := by
          have := hTs j hj
          rw [e] at this
          cases this
          rfl
        exact ⟨_, fun _ => ⟨by rw [eb]; exact e2, t, u, q, e1, rfl⟩⟩
      · exact ⟨#[], fun z => absurd z hj⟩
    exact ⟨fun j => Classical.choose (this j), fun j hj => Classical.choose_spec (this j) hj⟩
  obtain ⟨vals, hvals⟩ := hvals
  have hTlt : ∀ j, j < its.toArray.size → Ts j < s1.heap.objs.size := fun j hj => by
    obtain ⟨⟨o', ho', _⟩, _⟩ := hvals j hj
    exact Heap.lt_size ho'
  have W : ∀ A' : Around, A'.handled = none → WalksU X.prog X.w A' s1.heap.objs.size (s1.heap.objs.size :: a :: (List.range its.toArray.size).map Ts) [s1.heap.objs.size] its.toArray.size (fun j v => j < its.toArray.size ∧ v = vals j) _ _ :=
    fun A' hA => (walksU_tup (prog := X.prog) (w := X.w) hA s1.heap.objs.size a (Nat.ne_of_lt hlt) its.toArray Ts vals hTs (fun j hj => Nat.ne_of_lt (hTlt j hj))).bound
  have notP : ∀ b, b ∈ s1.heap.objs.size :: a :: (List.range its.toArray.size).map Ts → b ≠ P := fun b hb z => by
    rcases List.mem_cons.mp hb with z2 | z2
    · exact Nat.ne_of_lt hPlt (z.symm.trans z2)
    · rcases List.mem_cons.mp z2 with z2 | z2
      · rw [← z, z2, ho0] at hPs
        cases hPs
        cases hc0
      · obtain ⟨j, hj, e⟩ := List.mem_map.mp z2
        obtain ⟨⟨o', ho', hc', _⟩, _⟩ := hvals j (List.mem_range.mp hj)
        rw [e, z, hPs] at ho'
        cases ho'
        cases hc'
  have cont : ∀ (code : Value) (h3 : Heap) (tk : Nat) (ps' : Array Value), Heap.ExtBut P (s1.heap.push o) h3 → (s1.heap.push o).objs.size ≤ h3.objs.size → h3.get? P = some { cls := .none, data := .fields ps' } → (∃ more, ps' = ps ++ more) → TriplesOk ps'.toList →
      wpAny (model X.prog X.w) X.A (builtinsFor X.env.globals X.env.builtins) (fun bi s₄ =>
        ∃ Ia fp wr n₀ Pt St₀ Mid pz F, Value.ref s1.heap.objs.size = .ref Ia ∧ (∀ A' : Around, A'.handled = none → WalksU X.prog X.w A' Ia fp wr n₀ Pt St₀ Mid) ∧ (∀ i vals, Pt i vals → ∃ va vb, vals = #[va, vb]) ∧ St₀ 0 s₄.heap ∧ (∀ b ∈ fp, b < s₄.heap.objs.size) ∧ s₄.heap.NoLimit ∧ cStatics ∉ wr ∧
          (∀ href : Heap, (∀ b o, s₄.heap.get? b = some o → href.get? b = some o) →
            QuietGenT X.prog X.w (genEnv scope (cloFrom X.env.cells scope.names []) s₄.heap.objs.size code bi X.env) xa xb [] elt (List.range s₄.heap.objs.size) wr Pt pz F href) ∧
          (∀ a h₅ tk gs, gs.bare = true → s₄.heap.objs.size < a → h₅.objs.size = a + 1 → (∀ b o, s₄.heap.get? b = some o → h₅.get? b = some o) →
            WalksS X.prog X.w X.A.in4 a (a :: s₄.heap.objs.size :: List.range s₄.heap.objs.size) (s₄.heap.objs.size :: wr) (GenOnlyQ s₄.gens.size) (passing pz n₀ 0).length
              (fun j y => ∃ i, (passing pz n₀ 0)[j]? = some i ∧ F i y) (GenAt X.prog X.w X.A.in4 a s₄.gens.size s₄.heap.objs.size (List.range s₄.heap.objs.size) wr pz n₀ F) →
            GenAt X.prog X.w X.A.in4 a s₄.gens.size s₄.heap.objs.size (List.range s₄.heap.objs.size) wr pz n₀ F 0 { s₄ with gens := s₄.gens.push gs, toks := tk, heap := h₅ } →
            Q' (.ref a) { s₄ with gens := s₄.gens.push gs, toks := tk, heap := h₅ })) X.xe { s1 with heap := h3, toks := tk } := by
    intro code h3 tk ps' hx hsz hP3 hmore ht3
    obtain ⟨bm, ob, e1, e2, e3, e4, e5, e6, e7, e8⟩ := TB.bm
    have hcP : cStatics ≠ P := fun e => by
      obtain ⟨_, hns, _⟩ := I1.nolimit
      obtain ⟨o', es, ep, ho, hd, _⟩ := hns
      rw [e, hPs] at ho
      cases ho
      cases hd
    have hcl : cStatics < s1.heap.objs.size := let ⟨_, hns, _⟩ := I1.nolimit; hns.lt
    have sz2 : (s1.heap.push o).objs.size = s1.heap.objs.size + 1 := Heap.size_push ..
    have sz3 : s1.heap.objs.size + 1 ≤ h3.objs.size := by rw [← sz2]; exact hsz
    have keep3 : ∀ b u, b ≠ P → s1.heap.get? b = some u → h3.get? b = some u := fun b u hb e => hx b u hb (Heap.get?_push_of_some _ e)
    have glob3 : h3.Ns X.env.globals X.mg := by rw [I1.ok.glob]; exact ((I1.mod.glob.keeps I1.bk).push o).extBut hx TB.gP
    refine wpAny_builtinsFor (m := X.mg) glob3 e1 e2 (keep3 _ _ e4 (I1.bk _ _ e5)) e6 e7 e8 ?_
    refine ⟨s1.heap.objs.size, _, [s1.heap.objs.size], its.toArray.size, _, _, _, (fun _ => true), (fun i y => ∃ q t, qs[i]? = some q ∧ y = .int (f q.1 q.2) t), rfl, W, ?_, ?_, ?_, lim2.extBut hx hcP, ?_, ?_, ?_⟩
    · rintro i va ⟨hi', rfl⟩
      obtain ⟨_, t, u, q, _, e⟩ := hvals i hi'
      exact ⟨_, _, e⟩
    · have h0 : (s1.heap.push o).IsTupleIter s1.heap.objs.size a 0 ∧ (s1.heap.push o).IsTuple a its.toArray ∧ ∀ k, k < its.toArray.size → (s1.heap.push o).IsTuple (Ts k) (vals k) :=
        ⟨⟨_, Heap.get?_push_size _ rfl, rfl, rfl⟩, hL.push _, fun k hk => (hvals k hk).1.push _⟩
      exact (W X.A hr.hd).frame _ _ _ h0 fun b hb u e => hx b u (notP b hb) e
    · intro b hb
      show b < h3.objs.size
      rcases List.mem_cons.mp hb with z | z
      · rw [z]
        exact sz3
      · rcases List.mem_cons.mp z with z | z
        · rw [z]
          exact Nat.lt_trans hlt sz3
        · obtain ⟨j, hj, e⟩ := List.mem_map.mp z
          rw [← e]
          exact Nat.lt_trans (hTlt j (List.mem_range.mp hj)) sz3
    · intro z
      rcases List.mem_cons.mp z with z | z
      · exact Nat.ne_of_lt hcl z
      · cases z
    · intro href hhref
      refine ⟨fun A' E' i va vb s₂ m₂ hA hPv hn hma hmb hk => ?_, fun A' E' i va vb s₂ m₂ hA hPv hp hn hma hmb hk => ?_⟩
      · simp only [List.forIn_nil]
        exact wpAny_pure ⟨rfl, GxR.keeps_refl _⟩
      · obtain ⟨hi', ev⟩ := hPv
        obtain ⟨_, t, u, q, hq, e⟩ := hvals i hi'
        rw [e] at ev
        obtain ⟨rfl, rfl⟩ : va = .int q.1 t ∧ vb = .int q.2 u := by simpa using congrArg Array.toList ev
        exact wpAny_mono (hel _ A' E' q.1 q.2 t u s₂ m₂ rfl hA (hbd q (List.mem_of_getElem? hq)) hn hma hmb) (fun y s3 r => ⟨let ⟨v, hv⟩ := r.1; ⟨q, v, hq, hv⟩, r.2⟩) fun _ _ e => e
    · intro g h5 tk5 gs hgb hag hsz5 hk5 W5 hat
      simp only [GxR.passing_true, List.length_range] at W5
      rw [hlen] at W5 hat
      refine hQ qs H1 g _ q1 ⟨_, _, _, _, _, W5.in4_1, hat, ?_, ?_, fun s' hm => ?_⟩
      · intro b hb
        show b < h5.objs.size
        have hag' : h3.objs.size < g := hag
        rcases List.mem_cons.mp hb with z | z
        · rw [z, hsz5]
          exact Nat.lt_succ_self _
        · rcases List.mem_cons.mp z with z | z
          · rw [z, hsz5]
            exact Nat.lt_succ_of_lt hag'
          · rw [hsz5]
            exact Nat.lt_succ_of_lt (Nat.lt_trans (List.mem_range.mp z) hag')
      · intro j y hy
        obtain ⟨i, hij, q, t, hq, rfl⟩ := hy
        obtain ⟨hj, ej⟩ := List.getElem?_eq_some_iff.mp hij
        rw [List.getElem_range] at ej
        subst ej
        exact ⟨t, by rw [List.getD_eq_getElem?_getD, List.getElem?_map, hq]; rfl⟩
      · obtain ⟨more, em⟩ := hmore
        have nwr : ∀ b u, s1.heap.get? b = some u → b ∉ h3.objs.size :: [s1.heap.objs.size] := fun b u e hb => by
          have hl := Heap.lt_size e
          rcases List.mem_cons.mp hb with z | z
          · rw [z] at hl
            have h9 : (h3.objs.size : Nat) < s1.heap.objs.size := hl
            omega
          · rcases List.mem_cons.mp z with z | z
            · rw [z] at hl
              exact Nat.lt_irrefl _ hl
            · cases z
        have J := GxR.inv_tab (more := more) (h' := s'.heap) (g' := s'.gens) (d' := s'.drawn) (t' := s'.toks) I1 hP (fun b u hb e => hm.heap b u (nwr b u e) (hk5 b u (keep3 b u hb e)))
          (by rw [← em]; exact hm.heap P _ (nwr P _ hPs) (hk5 P _ hP3)) (AllBare.movedS (I1.bare.push hgb) hm)
        rw [GxR.sh_eta s1 s' hm.os] at J
        refine ⟨upd H1 P (.tbl (ps ++ more)), ⟨⟨ps ++ more, upd_same, by rw [← em]; exact ht3⟩, fun b hb => upd_ne hb⟩, J⟩
  refine ⟨lim2, ?_⟩
  cases hf : codeAmong gpos ps.toList with
  | none =>
    refine wpAny_genexprCodeX hcode (cd.code hP2 ht) (cd.tab hP2) hf fun c' h' tk hx hge hlt hco' _ htab' _ => ?_
    obtain ⟨o1, vs, f1, tf, fl, tg, inF, tx, tt, op, _, _, _, _, _, _, _, _, _, htr, _⟩ := hco'
    exact cont _ h' tk _ hx (Nat.le_trans hge (Nat.le_of_lt hlt)) htab'.2 ⟨_, rfl⟩ htr
  | some cv =>
    refine wpAny_genexprCode_hit hcode (cd.code hP2 ht) hf ?_
    exact cont cv (s1.heap.push o) s1.toks ps (Heap.ExtBut.refl _ _) (Nat.le_refl _) hP2 ⟨#[], by simp⟩ ht
/-- sum(elt for a, b in e), e a tuple of pairs of ints -/
def tSumPT (K : PySem.W.Frag) (T : Tb) (P : Addr) (f : Int → Int → Int) (te : TE) : TE := fun σ H Q => te σ H fun v H1 => ∃ (a : Addr) (qs : List (Int × Int)), v = .ref a ∧ PairsT K H1 a qs ∧ (∀ q ∈ qs, -(2 ^ 64) < q.1 ∧ q.1 < 2 ^ 64) ∧ GxR.TabG H1 P ∧
  ((Ok T H1 ∧ ∀ j, j < qs.length → InLong ((qs.map fun (q : Int × Int) => f q.1 q.2).getD j 0) ∧ InLong (((qs.map fun (q : Int × Int) => f q.1 q.2).take (j + 1)).sum)) ∧ ∀ H2, Sm T H1 H2 → Q (.int (qs.map fun (q : Int × Int) => f q.1 q.2).sum) H2)
theorem pe_sumPT {T : Tb} {c P : Addr} {elt iter : Expr} {xa xb : Str} {pa pb pt p pos gpos : Pos} {kt : Nat} {scope : Scope} {f : Int → Int → Int} {te : TE} {k : Nat} (hn : (T.map (·.1)).Nodup) (hPT : (P, (none : Option Str)) ∈ T)
    (hr : Room k X.A) (hg : Gl X "sum") (hm : X.mg "sum" = none) (hb : bootBuiltins "sum" = some (.builtin "sum")) (TB : GxR.TabB X.base X.mg c P) (hcode : X.env.code = .ref c) (S : GxR.GenS X.env scope xa) (hxb : scope.names.lookup xb = some .local) (hab : xa ≠ xb) (hi : PE X iter te) (hel : EltP X scope xa xb elt f)
    (hs : ∀ v, genFold iter X.env v = pure v)
    (he : starEach [.GeneratorExp elt [⟨.Tuple [.Name xa pa, .Name xb pb] kt pt, iter, [], 0⟩] scope gpos] X.env = (false, eval (.GeneratorExp elt [⟨.Tuple [.Name xa pa, .Name xb pb] kt pt, iter, [], 0⟩] scope gpos) X.env) :: starEach [] X.env := by rfl) :
    PE X (.Call (.Name "sum" p) [.GeneratorExp elt [⟨.Tuple [.Name xa pa, .Name xb pb] kt pt, iter, [], 0⟩] scope gpos] [] pos) (tSumPT X.K T P f te) := by
  refine ⟨fun pins s σ H Q I h => ?_⟩
  refine wpAny_Call_Name_kw (ld_blt I hg hm hb ?_)
  refine PyProof.Rows.callWith_builtin1 ?_ he (by rfl)
  rw [he]
  show wpAny _ _ (spliced ((false, eval (.GeneratorExp elt [⟨.Tuple [.Name xa pa, .Name xb pb] kt pt, iter, [], 0⟩] scope gpos) X.env) :: backTo pos (starEach [] X.env))) _ _ s
  refine Calls.spliced_cons (gen_pairsT (R := fun qs H1 => (Ok T H1 ∧ ∀ j, j < qs.length → InLong ((qs.map fun (q : Int × Int) => f q.1 q.2).getD j 0) ∧ InLong (((qs.map fun (q : Int × Int) => f q.1 q.2).take (j + 1)).sum)) ∧ ∀ H2, Sm T H1 H2 → Q (.int (qs.map fun (q : Int × Int) => f q.1 q.2).sum) H2) hr TB hcode S hxb hab hi hel hs I h fun qs H1 g s5 hR hG => ?_)
  obtain ⟨fp, wr, G, F, St, W, hst, hfp, hval, hI⟩ := hG
  refine Calls.spliced_nil ?_
  refine call_sum_walkS (W.self 0 _ _ _ hst ⟨g, fp, wr, G, _, F, St, (fun i => (qs.map fun (q : Int × Int) => f q.1 q.2).getD i 0), rfl, W, hst, hfp, hval, fun j hj => ⟨(hR.1.2 j hj).1, by rw [preSum_getD]; exact (hR.1.2 j hj).2⟩, fun s' t' hmv => ?_⟩)
  obtain ⟨H2, hT, J⟩ := hI s' hmv
  refine ⟨.int _, H2, J, ⟨t', rfl⟩, ?_⟩
  rw [preSum_getD, show qs.length = (qs.map fun (q : Int × Int) => f q.1 q.2).length by rw [List.length_map], List.take_length]
  exact hR.2 H2 (sm_tabbed hn hPT (hR.1.1 _ hPT) hT)
end

/-! ### elements of generator expressions, in the model's own words -/
section
variable {X : Cx} {scope : Scope} {xa xb : Str} {p1 p2 p3 : Pos}
theorem ldl {M : Model} {s : Shared} {env : Env} {m : Str → Option Value} {x : Str} {pos : Pos} {v : Value} {Q : Value → Shared → Prop} {A : Around} {E : Value → Shared → Prop} (hk : env.scope.kind = .function) (hl : env.kindOf x = some .local) (hn : s.heap.Ns env.locals m) (hv : m x = some v) (h : Q v s)
    (hd : (x == ("__debug__" : Str)) = false := by decide) : wpAny M A (eval (.Name x pos) env) Q E s := wpAny_Name (wpAny_loadName_local hk hl hn hv h) hd
theorem elt_first (hk : scope.kind = .function) (hl : scope.names.lookup xa = some .local) (hd : (xa == ("__debug__" : Str)) = false := by decide) : EltP X scope xa xb (.Name xa p1) (fun i _ => i) := by
  intro cenv A' E' i j t u s₂ m₂ hs hA hb hn hma hmb
  exact ldl (by rw [hs]; exact hk) (show cenv.scope.names.lookup xa = some .local by rw [hs]; exact hl) hn hma ⟨⟨t, rfl⟩, GxR.keeps_refl _⟩ hd
theorem elt_mul (hk : scope.kind = .function) (hl : scope.names.lookup xa = some .local) (hl2 : scope.names.lookup xb = some .local) (hd : (xa == ("__debug__" : Str)) = false := by decide) (hd2 : (xb == ("__debug__" : Str)) = false := by decide) :
    EltP X scope xa xb (.BinOp (.Name xa p1) .Mult (.Name xb p2) p3) (fun i j => i * j) := by
  intro cenv A' E' i j t u s₂ m₂ hs hA hb hn hma hmb
  refine wpAny_BinOp ?_
  refine ldl (by rw [hs]; exact hk) (show cenv.scope.names.lookup xa = some .local by rw [hs]; exact hl) hn hma ?_ hd
  refine ldl (by rw [hs]; exact hk) (show cenv.scope.names.lookup xb = some .local by rw [hs]; exact hl2) hn hmb ?_ hd2
  exact mul_int ⟨⟨_, rfl⟩, GxR.keeps_tok _ _⟩ (show CMul i j from .inl hb).ok
end
/-- isinstance(x, T) of an int at the name x -/
theorem isi_int {prog : Program} {w : World} {K : PySem.W.Frag} {A : Around} {E : Value → Shared → Prop} {s : Shared} {env : Env} {m mg mb : Str → Option Value} {x T : Str} {Ts : String} {i : Int} {t : Tok} {b : Bool} {q1 q2 q3 q4 : Pos} {Q : Value → Shared → Prop}
    (KX : K.In s.heap) (hk : env.scope.kind = .function) (hl : env.kindOf x = some .local) (hn : s.heap.Ns env.locals m) (hv : m x = some (.int i t)) (hg : s.heap.Ns env.globals mg) (hb : s.heap.Ns env.builtins mb) (hbb : ∀ y : Str, y ≠ "__name__" → mb y = bootBuiltins y)
    (gi : env.kindOf "isinstance" = some .globalImplicit) (gT : env.kindOf T = some .globalImplicit) (mi : mg "isinstance" = none) (mT : mg T = none) (hT : bootBuiltins T = some (.type Ts)) (hTn : T ≠ "__name__") (kt : kitB "int" Ts = some b)
    (h : ∀ tk, Q (.bool b) { s with toks := tk }) (hd : (x == ("__debug__" : Str)) = false) (hdT : (T == ("__debug__" : Str)) = false)
    (he1 : starEach [.Name x q2, .Name T q3] env = (false, eval (.Name x q2) env) :: starEach [.Name T q3] env := by rfl) (he2 : starEach [.Name T q3] env = [(false, eval (.Name T q3) env)] := by rfl) :
    wpAny (model prog w) A (eval (.Call (.Name "isinstance" q1) [.Name x q2, .Name T q3] [] q4) env) Q E s := by
  refine wpAny_Call_Name_kw (Calls.Name_function_global hk gi (Calls.loadGlobal_builtin hg mi hb ((hbb "isinstance" (by decide)).trans (by decide +kernel : bootBuiltins "isinstance" = some (.builtin "isinstance"))) ?_))
  refine PyProof.Rows.callWith_builtin1 ?_ he1 (by rw [he2]; rfl)
  rw [he1, he2]
  show wpAny _ _ (spliced ((false, eval (.Name x q2) env) :: (false, eval (.Name T q3) env) :: [])) _ _ s
  refine Calls.spliced_cons (ldl hk hl hn hv (Calls.spliced_cons (Calls.Name_function_global hk gT (Calls.loadGlobal_builtin hg mT hb ((hbb T hTn).trans hT) (Calls.spliced_nil ?_)) hdT)) hd)
  exact PySem.W.kia_one PySem.W.kitx_int KX True.intro (kit_ty kt) (fun z => nomatch z) h
/-- the text of is_number -/
def numBody (n0 n1 n2 n3 n4 n5 n6 n7 n8 n9 n10 : Pos) : List Stmt := [.Return (some (.BoolOp .And [.Call (.Name "isinstance" n0) [.Name "thing" n1, .Name "int" n2] [] n3, .UnaryOp .Not (.Call (.Name "isinstance" n4) [.Name "thing" n5, .Name "bool" n6] [] n7) n8] n9)) n10]
def numArgs (p : Pos) : Arguments := { posonlyargs := [], args := [{ arg := "thing", annotation := none, pos := p }], vararg := none, kwonlyargs := [], kw_defaults := [], kwarg := none, defaults := [] }
def numScope : Scope := { kind := .function, names := [(PySem.Str.ofString "thing", .local), (PySem.Str.ofString "isinstance", .globalImplicit), (PySem.Str.ofString "int", .globalImplicit), (PySem.Str.ofString "bool", .globalImplicit)], isGenerator := false, isCoroutine := false, more := [] }
/-- what of is_number's text the walk needs -/
def NumAt (K : PySem.W.Frag) (f : Addr) : Prop := ∃ (oc : Value) (od : Option Addr) (kV doc pm : Value) (an : Option Addr) (cdv ct : Value) (osl : Array (Option Value)) (p n0 n1 n2 n3 n4 n5 n6 n7 n8 n9 n10 : Pos),
  K.lookup f = some ⟨oc, od, .func (PySem.W.fnOf "is_number" "is_number" (numArgs p) (numBody n0 n1 n2 n3 n4 n5 n6 n7 n8 n9 n10) numScope .none kV doc pm an cdv ct), osl⟩ ∧ PySem.W.codeIn K cdv "is_number" = true
theorem num_call {prog : Program} {w : World} {K : PySem.W.Frag} {mg mb : Str → Option Value} {A : Around} {E : Value → Shared → Prop} {s : Shared} {f : Addr} {i : Int} {t : Tok} {Q : Value → Shared → Prop} (N : NumAt K f) (KX : K.In s.heap) (hlim : s.heap.NoLimit) (hg : s.heap.Ns mainGlobals mg)
    (hb : s.heap.Ns builtinsNs mb) (hbb : ∀ y : Str, y ≠ "__name__" → mb y = bootBuiltins y) (mi : mg "isinstance" = none) (m1 : mg "int" = none) (m2 : mg "bool" = none) (hroom : A.depth < recursionLimit) (hq : ∀ s', Keeps s s' → Q (.bool true) s') :
    wpAny (model prog w) A (call (.ref f) [.int i t]) Q E s := by
  obtain ⟨oc, od, kV, doc, pm, an, cdv, ct, osl, p, n0, n1, n2, n3, n4, n5, n6, n7, n8, n9, n10, lk, hcd⟩ := N
  refine wpAny_call ?_
  refine Att.call_fn (binds := [("thing", .int i t)]) KX hlim lk hcd hroom (BindsTo.of_eq (by first | rfl | with_unfolding_all rfl)) (by first | rfl | decide | with_unfolding_all rfl) (fun s₁ IC => ?_) rfl rfl rfl
  obtain ⟨h₁, tk₁, rfl⟩ := IC.toInCall.same
  have kp : ∀ b o, s.heap.get? b = some o → h₁.get? b = some o := IC.toInCall.keep
  have hn := IC.toInCall.ns
  show wpAny _ _ (execs _ _) _ _ _
  refine wpAny_execs_cons (wpAny_Return_some ?_)
  refine BoolOp_and ?_
  refine isi_int (mg := mg) (mb := mb) (b := true) (KX.keeps kp) rfl rfl hn (by first | rfl | with_unfolding_all rfl | kernel_rfl) (hg.keeps kp) (hb.keeps kp) hbb rfl rfl mi m1 (by decide +kernel : bootBuiltins "int" = some (.type "int")) (by decide) kb_int_int (fun tk => ?_) (by decide) (by decide)
  refine wpAny_truthy_bool ?_
  show wpAny _ _ (eval (.BoolOp .And [.UnaryOp .Not (.Call (.Name "isinstance" n4) [.Name "thing" n5, .Name "bool" n6] [] n7) n8] n9) _) _ _ _
  refine BoolOp_one (UnaryOp_ ?_)
  refine isi_int (mg := mg) (mb := mb) (b := false) (KX.keeps kp) rfl rfl hn (by first | rfl | with_unfolding_all rfl | kernel_rfl) (hg.keeps kp) (hb.keeps kp) hbb rfl rfl mi m2 (by decide +kernel : bootBuiltins "bool" = some (.type "bool")) (by decide) kb_int_bool (fun tk => ?_) (by decide) (by decide)
  refine not_of (wpAny_truthy_bool ?_)
  exact hq _ ⟨h₁, tk, rfl, kp⟩
/-- the text of is_within -/
def withBody (n0 n1 n2 n3 n4 n5 n6 n7 n8 : Pos) : List Stmt := [.Return (some (.BoolOp .And [.Call (.Name "is_number" n0) [.Name "thing" n1] [] n2, .Compare (.Name "least" n3) [.LtE, .LtE] [.Name "thing" n4, .Name "most" n5] n6] n7)) n8]
def withArgs (p1 p2 p3 : Pos) : Arguments := { posonlyargs := [], args := [{ arg := "thing", annotation := none, pos := p1 }, { arg := "least", annotation := none, pos := p2 }, { arg := "most", annotation := none, pos := p3 }], vararg := none, kwonlyargs := [], kw_defaults := [], kwarg := none, defaults := [] }
def withScope : Scope := { kind := .function, names := [(PySem.Str.ofString "thing", .local), (PySem.Str.ofString "least", .local), (PySem.Str.ofString "most", .local), (PySem.Str.ofString "is_number", .globalImplicit)], isGenerator := false, isCoroutine := false, more := [] }
def WithAt (K : PySem.W.Frag) (f : Addr) : Prop := ∃ (oc : Value) (od : Option Addr) (kV doc pm : Value) (an : Option Addr) (cdv ct : Value) (osl : Array (Option Value)) (p1 p2 p3 n0 n1 n2 n3 n4 n5 n6 n7 n8 : Pos),
  K.lookup f = some ⟨oc, od, .func (PySem.W.fnOf "is_within" "is_within" (withArgs p1 p2 p3) (withBody n0 n1 n2 n3 n4 n5 n6 n7 n8) withScope .none kV doc pm an cdv ct), osl⟩ ∧ PySem.W.codeIn K cdv "is_within" = true
theorem with_call {prog : Program} {w : World} {K : PySem.W.Frag} {mg mb : Str → Option Value} {A : Around} {E : Value → Shared → Prop} {s : Shared} {f fn : Addr} {i l n : Int} {t tl tn : Tok} {Q : Value → Shared → Prop} (Wt : WithAt K f) (N : NumAt K fn) (kN : PySem.W.keepIn K (.ref fn) = true) (gN : mg "is_number" = some (.ref fn)) (KX : K.In s.heap) (hlim : s.heap.NoLimit) (hg : s.heap.Ns mainGlobals mg)
    (hb : s.heap.Ns builtinsNs mb) (hbb : ∀ y : Str, y ≠ "__name__" → mb y = bootBuiltins y) (mi : mg "isinstance" = none) (m1 : mg "int" = none) (m2 : mg "bool" = none) (hroom : A.depth + 1 < recursionLimit) (hq : ∀ s', Keeps s s' → Q (.bool (decide (l ≤ i) && decide (i ≤ n))) s') :
    wpAny (model prog w) A (call (.ref f) [.int i t, .int l tl, .int n tn]) Q E s := by
  obtain ⟨oc, od, kV, doc, pm, an, cdv, ct, osl, p1, p2, p3, n0, n1, n2, n3, n4, n5, n6, n7, n8, lk, hcd⟩ := Wt
  refine wpAny_call ?_
  refine Att.call_fn (binds := [("thing", .int i t), ("least", .int l tl), ("most", .int n tn)]) KX hlim lk hcd (by omega) (BindsTo.of_eq (by first | rfl | with_unfolding_all rfl)) (by first | rfl | decide | with_unfolding_all rfl) (fun s₁ IC => ?_) rfl rfl rfl
  obtain ⟨h₁, tk₁, rfl⟩ := IC.toInCall.same
  have kp : ∀ b o, s.heap.get? b = some o → h₁.get? b = some o := IC.toInCall.keep
  have hn := IC.toInCall.ns
  have hlim1 : h₁.NoLimit := hlim.keeps kp
  have hg1 := hg.keeps kp
  show wpAny _ _ (execs _ _) _ _ _
  refine wpAny_execs_cons (wpAny_Return_some ?_)
  refine BoolOp_and ?_
  refine wpAny_Call_Name_kw (Calls.Name_function_global rfl rfl (Calls.loadGlobal_global hg1 gN ?_))
  refine PySem.W.callWith_K (h₀ := h₁) (KX.keeps kp) kN ?_ (by rfl) (by rfl)
  show wpAny _ _ (spliced ((false, eval (.Name "thing" n1) _) :: [])) _ _ _
  refine Calls.spliced_cons (ldl (v := .int i t) rfl rfl hn (by first | rfl | with_unfolding_all rfl | kernel_rfl) (Calls.spliced_nil ⟨KX.keeps kp, ?_⟩) (by decide))
  refine num_call N (KX.keeps kp) hlim1 hg1 (hb.keeps kp) hbb mi m1 m2 (by show A.depth + 1 < _; omega) (fun s' hks => ?_)
  obtain ⟨h', tk', rfl, hkp⟩ := hks
  refine wpAny_truthy_bool ?_
  show wpAny _ _ (eval (.BoolOp .And [.Compare (.Name "least" n3) [.LtE, .LtE] [.Name "thing" n4, .Name "most" n5] n6] n7) _) _ _ _
  refine BoolOp_one ?_
  have kp2 : ∀ b o, s.heap.get? b = some o → h'.get? b = some o := fun b o e => hkp b o (kp b o e)
  refine Compare_chain (ldl (v := .int l tl) rfl rfl (hn.keeps hkp) (by first | rfl | with_unfolding_all rfl | kernel_rfl) (chain_link (ldl (v := .int i t) rfl rfl (hn.keeps hkp) (by first | rfl | with_unfolding_all rfl | kernel_rfl) (le_int (wpAny_truthy_bool ?_)) (by decide))) (by decide)) (by with_unfolding_all rfl)
  by_cases h1 : l ≤ i
  · rw [if_pos (decide_eq_true h1)]
    refine chain_last (ldl (v := .int n tn) rfl rfl (hn.keeps hkp) (by first | rfl | with_unfolding_all rfl | kernel_rfl) ?_ (by decide))
    refine le_int ?_
    have := hq ⟨h', s.gens, s.drawn, tk', s.os⟩ ⟨h', tk', rfl, kp2⟩
    rw [decide_eq_true h1, Bool.true_and] at this
    exact this
  · rw [if_neg (fun z => h1 (of_decide_eq_true z))]
    have := hq ⟨h', s.gens, s.drawn, tk', s.os⟩ ⟨h', tk', rfl, kp2⟩
    rw [decide_eq_false h1, Bool.false_and] at this
    show _
    rw [decide_eq_false h1]
    exact this
/-- is_within(x, 1, MOST) -/
theorem elt_num {X : Cx} {scope : Scope} {x M : Str} {f fn : Addr} {n : Int} {tn : Tok} {q0 q1 q2 q3 q4 : Pos} {k : Nat} (hr : Room k X.A) (Wt : WithAt X.K f) (kW : PySem.W.keepIn X.K (.ref f) = true) (gW : X.mg "is_within" = some (.ref f)) (N : NumAt X.K fn) (kp : PySem.W.keepIn X.K (.ref fn) = true) (gf : X.mg "is_number" = some (.ref fn)) (gM : X.mg M = some (.int n tn)) (hglob : X.env.globals = mainGlobals)
    (mi : X.mg "isinstance" = none) (m1 : X.mg "int" = none) (m2 : X.mg "bool" = none) (hk : scope.kind = .function) (hl : scope.names.lookup x = some .local) (hf : scope.names.lookup ("is_within" : Str) = some .globalImplicit) (hM : scope.names.lookup M = some .globalImplicit)
    (hd : (x == ("__debug__" : Str)) = false := by decide) (hdM : (M == ("__debug__" : Str)) = false := by decide) :
    EltI X scope x (.Call (.Name "is_within" q0) [.Name x q1, .Constant (.int 1) 0 q2, .Name M q3] [] q4) (fun i y => y = .bool (decide (1 ≤ i) && decide (i ≤ n))) := by
  intro cenv A' E' i t s₂ m₂ hs hG hB hA hD hU KX hlim hg hbl hn hm
  obtain ⟨mb, hb, hbb⟩ := hbl
  have hk' : cenv.scope.kind = .function := by rw [hs]; exact hk
  have hl' : cenv.kindOf x = some .local := show cenv.scope.names.lookup x = some .local by rw [hs]; exact hl
  have hf' : cenv.kindOf "is_within" = some .globalImplicit := show cenv.scope.names.lookup ("is_within" : Str) = _ by rw [hs]; exact hf
  have hM' : cenv.kindOf M = some .globalImplicit := show cenv.scope.names.lookup M = _ by rw [hs]; exact hM
  have hg' : s₂.heap.Ns cenv.globals X.mg := by rw [hG, hglob]; exact hg
  refine wpAny_Call_Name_kw (Calls.Name_function_global hk' hf' (Calls.loadGlobal_global hg' gW ?_))
  refine PySem.W.callWith_K (h₀ := s₂.heap) KX kW ?_ (by rfl) (by rfl)
  show wpAny _ _ (spliced ((false, eval (.Name x q1) cenv) :: (false, eval (.Constant (.int 1) 0 q2) cenv) :: (false, eval (.Name M q3) cenv) :: [])) _ _ s₂
  refine Calls.spliced_cons (ldl hk' hl' hn hm (Calls.spliced_cons (wpAny_Constant_int (Calls.spliced_cons (Calls.Name_function_global hk' hM' (Calls.loadGlobal_global hg' gM (Calls.spliced_nil ⟨KX, ?_⟩)) hdM)))) hd)
  exact with_call Wt N kp gf KX hlim hg hb hbb mi m1 m2 (by have := hr.dp; omega) (fun s' hks => ⟨rfl, hks⟩)

/-! ### x(lambda: body), the tables kept -/
theorem sm_lam {T : Tb} {H H' : Hp} {P : Addr} {q : Str} (hn : (T.map (·.1)).Nodup) (hP : (P, some q) ∈ T) (ht : LamX.TabS H P q) (h1 : LamX.TabS H' P q) (h2 : ∀ b o, b ≠ P → H b = some o → H' b = some o) : Sm T H H' := by
  obtain ⟨ps, e, _⟩ := ht
  have ne : ∀ b o, H b = some o → nTbl o → b ≠ P := fun b o q n z => by
    rw [z, e] at q
    cases q
    exact n
  refine ⟨fun b o q n => h2 b o (ne b o q n) q, fun k p hp => ?_, fun l hl => ?_⟩
  · by_cases hb : p.1 = P
    · have ep : p = (P, some q) := by
        obtain ⟨i, hi, e1⟩ := List.getElem_of_mem hp
        obtain ⟨j, hj, e2⟩ := List.getElem_of_mem hP
        have hij : i = j := by
          have a1 : (T.map (·.1))[i]? = some P := by rw [List.getElem?_map, List.getElem?_eq_getElem hi, e1]; exact congrArg some hb
          have a2 : (T.map (·.1))[j]? = some P := by rw [List.getElem?_map, List.getElem?_eq_getElem hj, e2]; rfl
          exact nd_ix hn a1 a2
        subst hij
        rw [← e1, e2]
      rw [ep]
      exact h1
    · have z := k p hp
      obtain ⟨P', w⟩ := p
      have hb : P' ≠ P := hb
      cases w with
      | none =>
        obtain ⟨ps', a1, a2⟩ := (show GxR.TabG H P' from z)
        exact ⟨ps', h2 _ _ hb a1, a2⟩
      | some w =>
        obtain ⟨ps', a1, a2, a3⟩ := (show LamX.TabS H P' w from z)
        refine ⟨ps', h2 _ _ hb a1, a2, fun pos cv hc => ?_⟩
        obtain ⟨c, e1, e2⟩ := a3 pos cv hc
        exact ⟨c, e1, h2 c _ (ne c _ e2 (by unfold LamX.CodeO; trivial)) e2⟩
  · by_cases z : l = P
    · obtain ⟨ps', a1, _⟩ := h1
      rw [z, a1] at hl
      cases hl
    · cases q' : H l with
      | none => rfl
      | some o =>
        rw [h2 l o z q'] at hl
        cases hl
section
variable {X : Cx} {pins : List (Addr × Obj)} {σ : L2.St} {H : Hp} {s : Shared}
/-- the lambda is made: its code object is new, or found in the table; all else stays -/
theorem lam_make3 {c P : Addr} {params : Arguments} {body : Expr} {scope : Scope} {pos : Pos} {E : Value → Shared → Prop} {Q : Value → Shared → Prop} (I : Inv X pins σ H s) (TB : LamX.TabB X.base X.mg c P) (hcode : X.env.code = .ref c)
    (hT : LamX.TabS H P (X.env.qual ++ "<lambda>")) (hdef : defaultsOf params X.env = ([], [])) (hfree : ∀ y ∈ scope.names, y.2 = .free → ∃ c, X.env.cells.lookup y.1 = some c)
    (h : ∀ (f c' : Addr) (pm ctv : Value) (H1 : Hp) (s' : Shared), Inv X pins σ H1 s' → (∀ b o, b ≠ P → H b = some o → H1 b = some o) → LamX.TabS H1 P (X.env.qual ++ "<lambda>") →
      s'.heap.get? f = some (PySem.W.kla_obj "<lambda>" (X.env.qual ++ "<lambda>") params body scope (cloFrom X.env.cells scope.names []) pm c' ctv) → H1 f = none → f ∉ frs X.stack → H1 c' = some (LamX.CodeO c' (X.env.qual ++ "<lambda>")) → Q (.ref f) s') :
    wpAny (model X.prog X.w) X.A (eval (.Lambda params body scope pos) X.env) Q E s := by
  obtain ⟨ps, hP, ht, ha⟩ := hT
  refine PySem.W.kla_eval hdef ?_
  have bP : s.heap.BuiltinsAt X.mg P := TB.bm.keeps I.bk
  have hP' : s.heap.get? P = some { cls := .none, data := .fields ps } := I.hok P _ hP
  have nofr : ∀ f, s.heap.objs.size ≤ f → f ∉ frs X.stack := fun f hf z => by
    rcases List.mem_cons.mp (I.stkSub _ z) with e | e
    · have h1 := I.lt
      rw [← e] at h1
      exact Nat.lt_irrefl _ (Nat.lt_of_lt_of_le h1 hf)
    · exact I.nofs hf e
  cases hc : codeAmong pos ps.toList with
  | none =>
    refine PySem.W.kla_makeFunction (mg := X.mg) (c := c) (P := P) (ps := ps) (closure_ok hfree) I.ok.glob (I.mod.glob.keeps I.bk) hcode (TB.code.keeps I.bk) hP' ht hc TB.gP bP fun c' ctv h' tk hx hge hlt hrec htb => ?_
    obtain ⟨c2, oc, vs, t, e2, hoc, hd, hv⟩ := hrec
    cases e2
    have hsz : s.heap.objs.size ≤ h'.objs.size := Nat.le_trans hge (Nat.le_of_lt hlt)
    have nC : H c' = none := I.hok.fresh hge
    have I1 := LamX.inv_table (t' := tk) (more := #[rawInt pos.line, rawInt pos.col, .ref c']) (h' := h'.push (PySem.W.kla_obj "<lambda>" (X.env.qual ++ "<lambda>") params body scope (cloFrom X.env.cells scope.names []) ((X.mg "__name__").getD .none) c' ctv)) I hP
      (fun b o hb e => Heap.get?_push_of_some _ (hx b o hb e)) (Heap.get?_push_of_some _ htb) hge ⟨oc, vs, t, Heap.get?_push_of_some _ hoc, hd, hv⟩
    have hE : ∀ b o, b ≠ P → H b = some o → upd (upd H P (.tbl (ps ++ #[rawInt pos.line, rawInt pos.col, .ref c']))) c' (LamX.CodeO c' (X.env.qual ++ "<lambda>")) b = some o := fun b o hb e => by
      rw [upd_ne (ne_of_none e nC), upd_ne hb]
      exact e
    have eL : (ps ++ #[rawInt pos.line, rawInt pos.col, .ref c']).toList = ps.toList ++ [rawInt pos.line, rawInt pos.col, .ref c'] := by simp
    refine h h'.objs.size c' ((X.mg "__name__").getD .none) ctv _ _ I1 hE ?_ (Heap.get?_push_size _ rfl) ?_ (nofr _ hsz) upd_same
    · refine ⟨_, by rw [upd_ne (ne_of_none hP nC), upd_same], by rw [eL]; exact PySem.TriplesOk_snoc _ _ _ _ ht, fun p' cv hcv => ?_⟩
      rw [eL] at hcv
      rcases LamX.among_app _ ht hcv with z | z
      · obtain ⟨c0, e1, e2⟩ := ha p' cv z
        refine ⟨c0, e1, hE _ _ (fun z => ?_) e2⟩
        rw [z, hP] at e2
        unfold LamX.CodeO at e2
        cases e2
      · exact ⟨c', z, upd_same⟩
    · have n1 : h'.objs.size ≠ c' := Nat.ne_of_gt hlt
      have n2 : h'.objs.size ≠ P := Nat.ne_of_gt (Nat.lt_of_lt_of_le (Heap.lt_size hP') hsz)
      rw [upd_ne n1, upd_ne n2]
      exact I.hok.fresh hsz
  | some cv =>
    obtain ⟨c', e, hco⟩ := ha pos cv hc
    subst e
    refine PySem.W.kla_makeFunctionHit (mg := X.mg) (c := c) (P := P) (ps := ps) (closure_ok hfree) I.ok.glob (I.mod.glob.keeps I.bk) hcode (TB.code.keeps I.bk) hP' ht hc bP fun ctv h' tk hx hsz => ?_
    have I1 : Inv X pins σ H { s with heap := h'.push (PySem.W.kla_obj "<lambda>" (X.env.qual ++ "<lambda>") params body scope (cloFrom X.env.cells scope.names []) ((X.mg "__name__").getD .none) c' ctv), toks := tk } := I.kept fun b o e => Heap.get?_push_of_some _ (hx b o e)
    exact h h'.objs.size c' ((X.mg "__name__").getD .none) ctv H _ I1 (fun _ _ _ e => e) ⟨ps, hP, ht, ha⟩ (Heap.get?_push_size _ rfl) (I.hok.fresh hsz) (nofr _ hsz) hco
/-- the def that is given the lambda: as LamX.GivesTo -/
def tLm (T : Tb) (P : Addr) (q : Str) (TT : (XK → Hp → VK → Prop) → Hp → VK → Prop) (t : XK → TE) : TE := fun σ H Q => LamX.TabS H P q ∧ ∀ H1, Sm T H H1 → TT (fun E H' Q' => t E σ H' Q') H1 Q
theorem pe_lam {T : Tb} {TT : (XK → Hp → VK → Prop) → Hp → VK → Prop} {x a : Str} {g c P : Addr} {k : Nat} {pg : Arguments} {bg : List Stmt} {sg : Scope} {dV kV doc pm cdv ct oc : Value} {an od : Option Addr} {osl : Array (Option Value)} {Ng : List Str}
    {params : Arguments} {body : Expr} {scope : Scope} {t : XK → TE} {p lpos pos : Pos} (hn : (T.map (·.1)).Nodup) (hg : Gl X x) (hm : X.mg x = some (.ref g)) (hk : PySem.W.keepIn X.K (.ref g) = true)
    (lk : X.K.lookup g = some ⟨oc, od, .func (PySem.W.fnOf x x pg bg sg dV kV doc pm an cdv ct), osl⟩) (hcg : PySem.W.codeIn X.K cdv x = true) (hb : L2.Binds X.K (PySem.W.fnOf x x pg bg sg dV kV doc pm an cdv ct) [a] []) (Sg : FnScope Ng [a] sg) (hNg : Ng[0]? = some a) (hva : Vis sg a)
    (hG : LamX.GivesTo X Ng x sg g cdv bg a (X.env.qual ++ "<lambda>") TT)
    (TB : LamX.TabB X.base X.mg c P) (hcode : X.env.code = .ref c) (hmT : (P, some (X.env.qual ++ "<lambda>")) ∈ T) (hr : Room (k + 2) X.A) (L : LamX.LamS X.env.scope scope) (hdef : defaultsOf params X.env = ([], []))
    (hbind : ∀ (q : Str) (cl : List (Str × Addr)) (pm cv ctv : Value), bindArgs (PySem.W.kla_fn "<lambda>" q params body scope cl pm cv ctv) ⟨[], []⟩ = pure [])
    (hbody : ∀ (A : Around) (outer : List Env) (s : Shared) (H : Hp) (E : XK) (f c' : Addr), Room k (A.deeper (LamX.lamEnv X scope s.heap.objs.size f c')) → PE (LamX.lamCx X A outer s H E scope f c') body (t E))
    (hdb : (x == ("__debug__" : Str)) = false := by decide) (hd : (a == ("__debug__" : Str)) = false := by decide) (hcd : (a == ("__classdict__" : Str)) = false := by decide) :
    PE X (.Call (.Name x p) [.Lambda params body scope lpos] [] pos) (tLm T P (X.env.qual ++ "<lambda>") TT t) := by
  refine ⟨fun pins s σ H Q I h => ?_⟩
  obtain ⟨hT, h⟩ := h
  refine wpAny_Call_Name_kw (ld_glob I hg hm ?_ hdb)
  refine PySem.W.callWith_K (h₀ := X.base) I.ok.mod.kin hk ?_ (by rfl) (by rfl)
  show wpAny _ _ (spliced ((false, eval (.Lambda params body scope lpos) X.env) :: backTo pos (starEach [] X.env))) _ _ s
  refine Calls.spliced_cons (lam_make3 I TB hcode hT hdef (L.has I.ok) fun f c' pm' ctv H1 s' I1 eN T1 hf hfn hfr hco => ?_)
  refine Calls.spliced_nil ⟨I1.kIn, ?_⟩
  have rc : codeAny (model X.prog X.w) X.A (.call (.ref g) ⟨[.ref f], []⟩) (CR C8.CX0 X.stack X.prog X.w H1 s' Q C8.E0) s' := by
    refine LamX.run_ofS (N := Ng) (ps := [a]) (us := [.ref f]) (vs := [.ref f]) lk hcg Sg hr I1.env0 (hb s' [.ref f] I1.kIn rfl) (.cons rfl .nil) rfl fun hr' => ?_
    obtain ⟨t', ht', hq'⟩ := hG f c' s' H1 Q (fun E H' Q' => t E σ H' Q') (fun W pn xe E p1 p2 tk hW => LamX.pe_act (i := 0) I1 L hf hfn hfr (hbind _ _ _ _ _) tk hW hr' (fun A outer s H hr2 => hbody A outer s H E f c' hr2) hNg hva hd hcd) hco (h H1 (sm_lam hn hmT hT T1 eN))
    exact ⟨t', ht'.nox, hq'⟩
  refine wpAny_call (codeAny_mono rc fun r s2 hq => ?_)
  cases r with
  | error e => exact (show False from hq).elim
  | ok fl =>
    cases fl with
    | ret u => exact I1.after hq
    | next => exact False.elim hq
    | brk => exact False.elim hq
    | cont => exact False.elim hq
/-- word(asked): try: return ("told", asked()) / except PailError as e: return (e.word,) -/
def TTw (K : PySem.W.Frag) (CP : Addr) : (XK → Hp → VK → Prop) → Hp → VK → Prop := fun tl H Q =>
  tl (fun cls d H' => ∃ word, Rf K CP word cls d H' ∧ ∀ p, H' p = none → Q (.ref p) (upd H' p (.tup [.str word]))) H (fun v H' => ([V.str "told", v] : List V).length ≤ sizeLine ∧ ∀ p, H' p = none → Q (.ref p) (upd H' p (.tup [.str "told", v])))
theorem word_gives {x a e n q : Str} {sg : Scope} {g CP : Addr} {cdg : Value} {Ng : List Str} {i j0 j1 j2 : Nat} {p1 p2 p3 p4 p5 p6 p7 p8 p9 q1 q2 q3 : Pos} (hnd : Ng.Nodup) (hi : Ng[i]? = some n) (hln : sg.names.lookup n = some .local) (hge : sg.names.lookup e = some .globalImplicit) (hme : X.mg e = some (.ref CP)) (hde : (e == ("__debug__" : Str)) = false)
    (hdn : (n == ("__debug__" : Str)) = false) (hcn : (n == ("__classdict__" : Str)) = false) (hlen : ∀ f : Addr, (L2.start Ng [V.ref f])[0]? = some (some (V.ref f))) :
    LamX.GivesTo X Ng x sg g cdg [.Try [.Return (some (.Tuple [.Constant (.str "told") j0 p1, .Call (.Name a p2) [] [] p3] j1 p4)) p5] [.ExceptHandler (some (.Name e p6)) (some n) [.Return (some (.Tuple [.Attribute (.Name n q1) "word" q2] j2 q3)) p7] p8] [] [] p9] a q (TTw X.K CP) := by
  intro f c' s H Q tl act hc h
  have hgl : Gl (cxOf C8.CX0 X.prog X.w X.K X.mg X.base Ng x sg g cdg X.A X.stack s H C8.E0).nox e := hge
  refine ⟨_, pss_one (ps_try_as (X := (cxOf C8.CX0 X.prog X.w X.K X.mg X.base Ng x sg g cdg X.A X.stack s H C8.E0).nox) (i := i) (c := .ref CP)
      (tb := fun W D σ H => ∃ Ech : XK, (∀ cls d (σ' : L2.St) H', Ech cls d H' → σ'.length = Ng.length → W cls d σ' H') ∧ σ[0]? = some (some (.ref f)) ∧ H c' = some (LamX.CodeO c' q) ∧ tl Ech H (fun v H' => ([V.str "told", v] : List V).length ≤ sizeLine ∧ ∀ p, H' p = none → D.rt (.ref p) (upd H' p (.tup [.str "told", v]))))
      (ts := fun b cls d => tRet (tTup (tCons (tXw X.K b cls d (tVar i)) tNil)))
      rfl rfl hnd hi hln ⟨hgl, hde, .inl hme⟩ LamX.takes0 (fun W pn xe tk _ => ?_) (fun b oe cls d pn hz hf => pss_one (ps_ret (pe_tup (pa_cons (pe_xw hz hf (pe_var hi (.inl hln) hdn hcn)) pa_nil))))), ?_⟩
  · refine ⟨fun pins s' σ H' D I h' => ?_⟩
    obtain ⟨Ech, hW, h1, h2, h3⟩ := h'
    have tk2 : Takes ((cxOf C8.CX0 X.prog X.w X.K X.mg X.base Ng x sg g cdg X.A X.stack s H C8.E0).tr pn xe) (fun cls d σ' H' => σ'.length = Ng.length → W cls d σ' H') :=
      fun u s' ⟨a, B, sI, pins, σ, H, cls, d, e, I, nb, up, sky, na, os, ag, w⟩ => tk u s' ⟨a, B, sI, pins, σ, H, cls, d, e, I, nb, up, sky, na, os, ag, w I.len⟩
    have hp := act _ pn xe Ech p2 p3 tk2 (fun cls d σ' H' he hl => hW cls d σ' H' he hl)
    have hq := pss_one (ps_ret (pos := p5) (pe_tup (x1 := j1) (pos := p4) (pa_cons (pe_str (x := "told") (j := j0) (pos := p1)) (pa_cons hp pa_nil))))
    exact hq.run pins s' σ H' D I ⟨h1, h2, h3⟩
  · refine ⟨fun cls d H' => ∃ word, Rf X.K CP word cls d H' ∧ ∀ p, H' p = none → Q (.ref p) (upd H' p (.tup [.str word])), fun cls d σ' H' hE hl => ?_, hlen f, hc, h⟩
    obtain ⟨word, ⟨C, dd, rfl, rfl, xf, nw, ex, hdd⟩, hq⟩ := hE
    refine ⟨true, ex, fun _ b hb => ?_, fun z => by cases z⟩
    have hil : i < σ'.length := by
      rw [hl]
      exact (List.getElem?_eq_some_iff.mp hi).1
    exact ⟨.ref b, List.getElem?_set_self hil, rfl, C, dd, .str word, rfl, xf, nw, rfl, hdd, by show 1 ≤ sizeLine; decide, fun p hp => hq p hp⟩
end
/-- the law's own word: what a call tells, or the word of its refusal -/
structure Word (K : PySem.W.Frag) (mg : Str → Option Value) (CP : Addr) : Prop where
  ex : ∃ (g : Addr) (fd : FuncData), Fun K "_law_word" "_law_word" s_l_word g fd ∧ mg "_law_word" = some (.ref g) ∧ Binds K fd ["_law_asked"] [] ∧ mg "PailError" = some (.ref CP)
theorem pe_word {X : Cx} {T : Tb} {CP c P : Addr} {k : Nat} {params : Arguments} {body : Expr} {scope : Scope} {t : XK → TE} {p lpos pos : Pos} (W : Word X.K X.mg CP) (hn : (T.map (·.1)).Nodup) (hg : Gl X "_law_word") (TB : LamX.TabB X.base X.mg c P) (hcode : X.env.code = .ref c)
    (hmT : (P, some (X.env.qual ++ "<lambda>")) ∈ T) (hr : Room (k + 2) X.A) (L : LamX.LamS X.env.scope scope) (hdef : defaultsOf params X.env = ([], []))
    (hbind : ∀ (q : Str) (cl : List (Str × Addr)) (pm cv ctv : Value), bindArgs (PySem.W.kla_fn "<lambda>" q params body scope cl pm cv ctv) ⟨[], []⟩ = pure [])
    (hbody : ∀ (A : Around) (outer : List Env) (s : Shared) (H : Hp) (E : XK) (f c' : Addr), Room k (A.deeper (LamX.lamEnv X scope s.heap.objs.size f c')) → PE (LamX.lamCx X A outer s H E scope f c') body (t E)) :
    PE X (.Call (.Name "_law_word" p) [.Lambda params body scope lpos] [] pos) (tLm T P (X.env.qual ++ "<lambda>") (TTw X.K CP) t) := by
  obtain ⟨g, fd, F, hm, hb, hP⟩ := W.ex
  have kp := F.kp
  obtain ⟨oc, od, kV, doc, pm, an, cdv, ct, osl, rfl, lk, hcg⟩ := F.ex
  exact pe_lam hn hg hm kp lk hcg hb sc_l_word rfl (.inl rfl) (word_gives (i := 1) (n := "e") (e := "PailError") (a := "_law_asked") sc_l_word.nd rfl rfl rfl hP (by decide) (by decide) (by decide) (fun _ => rfl)) TB hcode hmT hr L hdef hbind hbody

/-! ### one own class: fields, methods, making -/
section
variable {X : Cx} {C : Addr} {f : Str} {e o value : Expr} {te ta tv : TE} {pos pos' apos p : Pos}
def tFc (C : Addr) (te : TE) (f : Str) : TE := fun σ H Q => te σ H fun x H1 => ∃ a dx fs v, x = .ref a ∧ H1 a = some (.ins C dx fs) ∧ fs.lookup f = some v ∧ Q v H1
theorem pe_fc (c : Cls X.K C) (n : NoAttr X.K C f) (he : PE X e te) (hb : attributeBase e f X.env (eval e X.env) = eval e X.env := by rfl) : PE X (.Attribute e f pos) (tFc C te f) := by
  refine ⟨fun pins s σ H Q I h => attr_of hb (thn (he.run pins s σ H _ I h) fun u s1 hh => ?_)⟩
  obtain ⟨x, H1, I1, rx, a, dx, fs, v, ex, ea, l, q⟩ := hh
  subst ex
  obtain rfl : u = Value.ref a := rx
  exact getattr_ok I1 ea c n l fun u' s2 I2 ru => ⟨v, H1, I2, ru, q⟩
def sFc (C : Addr) (ta tv : TE) (f : Str) : TS := fun D σ H => tv σ H fun y H1 => ta σ H1 fun x H2 => ∃ a dx fs, x = .ref a ∧ H2 a = some (.ins C dx fs) ∧ fs.length < 1000 ∧ D.nx σ (upd H2 a (.ins C dx (putF f y fs)))
theorem ps_fc (c : Cls X.K C) (n : NoAttr X.K C f) (ha : PE X o ta) (hv : PE X value tv) (hs : swapsWith value (some (.Attribute o f pos')) pos.line X.env = pure false := by rfl) : PS X (.Assign [.Attribute o f pos'] value pos) (sFc C ta tv f) := by
  refine ⟨fun pins s σ H D I h => plainObj_wpAny_Assign_Attribute (thn (hv.run pins s σ H _ I h) fun u s1 hh => ?_) hs⟩
  obtain ⟨y, H1, I1, ry, q⟩ := hh
  refine thn (ha.run pins s1 σ H1 _ I1 q) fun ov s2 hk => ?_
  obtain ⟨x, H2, I2, rx, a, dx, fs, ex, ea, l, q2⟩ := hk
  subst ex
  obtain rfl : ov = Value.ref a := rx
  exact setattr_ok I2 ea c n l ry fun s3 I3 => ⟨σ, _, I3, q2⟩
end
/-- a method, ready to be called; one that may raise -/
structure Mt (P : Program) (w : World) (K : PySem.W.Frag) (mg : Str → Option Value) (base : Heap) (C : Addr) (k : Nat) (m : Str) (ps : List Str) (sp : Sp) : Prop where
  ex : ∃ f fd, FnOk P w K mg base CX0 k f fd ps sp ∧ Meth K C m f ∧ Binds K fd ps []
structure Mx (P : Program) (w : World) (K : PySem.W.Frag) (mg : Str → Option Value) (base : Heap) (C : Addr) (k : Nat) (m : Str) (ps : List Str) (sp : Sp) : Prop where
  ex : ∃ f fd, FnOk P w K mg base (L2.CX P w) k f fd ps sp ∧ Meth K C m f ∧ Binds K fd ps []
structure Mn (P : Program) (w : World) (K : PySem.W.Frag) (mg : Str → Option Value) (base : Heap) (C : Addr) (k : Nat) (x : Str) (ps : List Str) (sp : Sp) : Prop where
  ex : ∃ f fd, FnOk P w K mg base CX0 k f fd ps sp ∧ Mk K C f ∧ Binds K fd ps [] ∧ mg x = some (.ref C)
structure Mnx (P : Program) (w : World) (K : PySem.W.Frag) (mg : Str → Option Value) (base : Heap) (C : Addr) (k : Nat) (x : Str) (ps : List Str) (sp : Sp) : Prop where
  ex : ∃ f fd, FnOk P w K mg base (L2.CX P w) k f fd ps sp ∧ Mk K C f ∧ Binds K fd ps [] ∧ mg x = some (.ref C)
section
variable {X : Cx} {C : Addr} {k : Nat} {m x : Str} {ps : List Str} {sp : Sp} {o e : Expr} {es : List Expr} {ta : TE} {t : TA} {p pos apos : Pos} {E : XK} {pl : Sem Bool}
theorem pe_mt (M : Mt X.prog X.w X.K X.mg X.base C k m ps sp) (c : Cls X.K C) (hr : Room k X.A) (he : PE X o ta) (ha : PA X (e :: es) t)
    (hst : starEach (e :: es) X.env = (false, eval e X.env) :: starEach es X.env := by rfl) (hpl : (backTo pos (starEach es X.env)).any (·.1) = false := by rfl)
    (ht : eval (.Call (.Attribute o m apos) (e :: es) [] pos) X.env = (do
      let ov ← eval o X.env
      standAt apos.atName
      let (f, first) ← holding [ov] (getMethod ov m pl)
      callWith pos f first (backTo pos (starEach (e :: es) X.env)) (backToKw pos (keywordEach [] X.env))) := by rfl) :
    PE X (.Call (.Attribute o m apos) (e :: es) [] pos) (tMeth C m sp [] E0 ta t) := by
  obtain ⟨f, fd, h, mm, b⟩ := M.ex
  exact pe_meth he c mm h hr b .nil pass0 ha hst hpl ht
theorem pe_mt0 (M : Mt X.prog X.w X.K X.mg X.base C k m ps sp) (c : Cls X.K C) (hr : Room k X.A) (he : PE X o ta)
    (ht : eval (.Call (.Attribute o m apos) [] [] pos) X.env = (do
      let ov ← eval o X.env
      standAt apos.atName
      let (f, first) ← holding [ov] (getMethod ov m pl)
      callWith pos f first (backTo pos (starEach [] X.env)) (backToKw pos (keywordEach [] X.env))) := by rfl) :
    PE X (.Call (.Attribute o m apos) [] [] pos) (tMeth C m sp [] E0 ta tNil) := by
  obtain ⟨f, fd, h, mm, b⟩ := M.ex
  exact pe_meth0 he c mm h hr b .nil pass0 ht
theorem pe_mx (M : Mx X.prog X.w X.K X.mg X.base C k m ps sp) (c : Cls X.K C) (hr : Room k X.A) (tk : Takes X (fun cls d _ H => E cls d H)) (he : PE X o ta) (ha : PA X (e :: es) t)
    (hst : starEach (e :: es) X.env = (false, eval e X.env) :: starEach es X.env := by rfl) (hpl : (backTo pos (starEach es X.env)).any (·.1) = false := by rfl)
    (ht : eval (.Call (.Attribute o m apos) (e :: es) [] pos) X.env = (do
      let ov ← eval o X.env
      standAt apos.atName
      let (f, first) ← holding [ov] (getMethod ov m pl)
      callWith pos f first (backTo pos (starEach (e :: es) X.env)) (backToKw pos (keywordEach [] X.env))) := by rfl) :
    PE X (.Call (.Attribute o m apos) (e :: es) [] pos) (tMeth C m sp [] E ta t) := by
  obtain ⟨f, fd, h, mm, b⟩ := M.ex
  exact pe_meth he c mm h hr b .nil (passes_call tk fun _ _ _ _ h => h) ha hst hpl ht
theorem pe_mx_ (M : Mx X.prog X.w X.K X.mg X.base C k m ps sp) (c : Cls X.K C) (hr : Room k X.A) (he : PE X o ta) (ha : PA X (e :: es) t)
    (hst : starEach (e :: es) X.env = (false, eval e X.env) :: starEach es X.env := by rfl) (hpl : (backTo pos (starEach es X.env)).any (·.1) = false := by rfl)
    (ht : eval (.Call (.Attribute o m apos) (e :: es) [] pos) X.env = (do
      let ov ← eval o X.env
      standAt apos.atName
      let (f, first) ← holding [ov] (getMethod ov m pl)
      callWith pos f first (backTo pos (starEach (e :: es) X.env)) (backToKw pos (keywordEach [] X.env))) := by rfl) :
    PE X (.Call (.Attribute o m apos) (e :: es) [] pos) (tMeth C m sp [] E0 ta t) := by
  obtain ⟨f, fd, h, mm, b⟩ := M.ex
  exact pe_meth he c mm h hr b .nil passL ha hst hpl ht
theorem pe_mn (M : Mn X.prog X.w X.K X.mg X.base C k x ps sp) (hr : Room (k + 1) X.A) (ha : PA X (e :: es) t) (hg : Gl X x := by rfl) (hdb : (x == ("__debug__" : Str)) = false := by decide)
    (he : starEach (e :: es) X.env = (false, eval e X.env) :: starEach es X.env := by rfl) (hpl : (backTo pos (starEach es X.env)).any (·.1) = false := by rfl) :
    PE X (.Call (.Name x p) (e :: es) [] pos) (tMake C sp [] E0 t) := by
  obtain ⟨f, fd, h, mm, b, g⟩ := M.ex
  exact pe_make mm h hr hg g b .nil pass0 ha hdb he hpl
theorem pe_mnx (M : Mnx X.prog X.w X.K X.mg X.base C k x ps sp) (hr : Room (k + 1) X.A) (tk : Takes X (fun cls d _ H => E cls d H)) (ha : PA X (e :: es) t) (hg : Gl X x := by rfl) (hdb : (x == ("__debug__" : Str)) = false := by decide)
    (he : starEach (e :: es) X.env = (false, eval e X.env) :: starEach es X.env := by rfl) (hpl : (backTo pos (starEach es X.env)).any (·.1) = false := by rfl) :
    PE X (.Call (.Name x p) (e :: es) [] pos) (tMake C sp [] E t) := by
  obtain ⟨f, fd, h, mm, b, g⟩ := M.ex
  exact pe_make mm h hr hg g b .nil (passes_call tk fun _ _ _ _ h => h) ha hdb he hpl
theorem pe_mnx_ (M : Mnx X.prog X.w X.K X.mg X.base C k x ps sp) (hr : Room (k + 1) X.A) (ha : PA X (e :: es) t) (hg : Gl X x := by rfl) (hdb : (x == ("__debug__" : Str)) = false := by decide)
    (he : starEach (e :: es) X.env = (false, eval e X.env) :: starEach es X.env := by rfl) (hpl : (backTo pos (starEach es X.env)).any (·.1) = false := by rfl) :
    PE X (.Call (.Name x p) (e :: es) [] pos) (tMake C sp [] E0 t) := by
  obtain ⟨f, fd, h, mm, b, g⟩ := M.ex
  exact pe_make mm h hr hg g b .nil passL ha hdb he hpl
end

def Bd (n : Nat) (x : Am) : Prop := x.1.natAbs < 2 ^ n ∧ x.2.natAbs < 2 ^ n
theorem Bd.mono {n m : Nat} {x : Am} (h : Bd n x) (e : n ≤ m) : Bd m x := ⟨Nat.lt_of_lt_of_le h.1 (Nat.pow_le_pow_right (by decide) e), Nat.lt_of_lt_of_le h.2 (Nat.pow_le_pow_right (by decide) e)⟩
def plusA (x y : Am) : Am := amt (x.1 * y.2 + y.1 * x.2) (x.2 * y.2)
def minusA (x y : Am) : Am := amt (x.1 * y.2 - y.1 * x.2) (x.2 * y.2)
def timesA (x y : Am) : Am := amt (x.1 * y.1) (x.2 * y.2)
def overA (x y : Am) : Am := amt (x.1 * y.2) (x.2 * y.1)
def belowA (x y : Am) : Bool := decide (x.1 * y.2 < y.1 * x.2)
def spBin (pre : Am → Am → Prop) (g : Am → Am → Am) (K : PySem.W.Frag) (T : Tb) : Sp := fun vs H Q _ => ∃ a b x y, vs = [.ref a, .ref b] ∧ SqT K H a (tv x) ∧ SqT K H b (tv y) ∧ (Bd 4000 x ∧ Bd 4000 y) ∧ pre x y ∧
  ∀ p H', Sm T H H' → H p = none → H' p = some (.tup (tv (g x y))) → Q (.ref p) H'
abbrev sp_p_plus : PySem.W.Frag → Tb → Sp := spBin (fun x y => 0 < x.2 ∧ 0 < y.2) plusA
abbrev sp_p_minus : PySem.W.Frag → Tb → Sp := spBin (fun x y => 0 < x.2 ∧ 0 < y.2) minusA
abbrev sp_p_times : PySem.W.Frag → Tb → Sp := spBin (fun x y => 0 < x.2 ∧ 0 < y.2) timesA
abbrev sp_p_over : PySem.W.Frag → Tb → Sp := spBin (fun x y => 0 < x.2 ∧ 0 < y.2 ∧ y.1 ≠ 0) overA
def sp_p_below (K : PySem.W.Frag) (T : Tb) : Sp := fun vs H Q _ => ∃ a b x y, vs = [.ref a, .ref b] ∧ SqT K H a (tv x) ∧ SqT K H b (tv y) ∧ (Bd 4000 x ∧ Bd 4000 y) ∧ Q (.bl (belowA x y)) H
theorem wm {i j : Int} (hi : i.natAbs < 2 ^ 4000) (hj : j.natAbs < 2 ^ 4000) : CMulW i j := wide_mul hi hj (by decide) (by decide) (by decide)
theorem wl {i j : Int} (hi : i.natAbs < 2 ^ 4000) (hj : j.natAbs < 2 ^ 4000) : (i * j).natAbs < 2 ^ 8900 := Nat.lt_trans (wide_lt hi hj) (Nat.pow_lt_pow_right (by decide) (by decide))

/-! ### amounts as rationals -/
def am (r : Rat) : Am := (r.num, (r.den : Int))
def vl (x : Am) : Rat := (x.1 : Rat) / (x.2 : Rat)
theorem am_low (r : Rat) : Low (am r) := ⟨by have := r.den_nz; show (0 : Int) < (r.den : Int); omega, by show Nat.gcd r.num.natAbs ((r.den : Int)).natAbs = 1; rw [Int.natAbs_natCast]; exact r.reduced⟩
theorem am_pos (r : Rat) : 0 < (am r).2 := (am_low r).1
theorem vl_am (r : Rat) : vl (am r) = r := by
  show (r.num : Rat) / ((r.den : Int) : Rat) = r
  have := Rat.num_divInt_den r
  rw [Rat.divInt_eq_div] at this
  exact this
theorem ci {a b : Int} (h : (a : Rat) = (b : Rat)) : a = b := Rat.intCast_inj.mp h
theorem cn {a : Int} (h : a ≠ 0) : (a : Rat) ≠ 0 := fun z => h (ci z)
theorem cp {a : Int} (h : 0 < a) : (0 : Rat) < (a : Rat) := Rat.intCast_pos.mpr h
theorem vl_eq {x y : Am} (hx : Low x) (hy : Low y) (e : vl x = vl y) : x = y := by
  refine low_eq hx hy (ci ?_)
  have h1 := cn (a := x.2) (by have := hx.1; omega)
  have h2 := cn (a := y.2) (by have := hy.1; omega)
  unfold vl at e
  rw [Rat.intCast_mul, Rat.intCast_mul]
  grind
theorem am_vl {x : Am} (hx : Low x) : am (vl x) = x := vl_eq (am_low _) hx (vl_am _)
theorem am_inj {a b : Rat} (h : am a = am b) : a = b := by rw [← vl_am a, h, vl_am]
theorem vl_amt {n d : Int} (hd : d ≠ 0) : vl (amt n d) = (n : Rat) / (d : Rat) := by
  have s := amt_spec (n := n) hd
  have h1 := cn (a := (amt n d).2) (by have := s.1.1; omega)
  have h2 := cn hd
  have e : (((amt n d).1 * d : Int) : Rat) = ((n * (amt n d).2 : Int) : Rat) := by rw [s.2.1]
  rw [Rat.intCast_mul, Rat.intCast_mul] at e
  unfold vl
  grind
theorem amt_am {n d : Int} (hd : d ≠ 0) : amt n d = am ((n : Rat) / (d : Rat)) := by
  rw [← vl_amt hd, am_vl (amt_spec hd).1]
theorem vle (x : Am) : vl x = (x.1 : Rat) / (x.2 : Rat) := rfl
theorem plus_am (a b : Rat) : plusA (am a) (am b) = am (a + b) := by
  have h1 := am_pos a
  have h2 := am_pos b
  unfold plusA
  rw [amt_am (by exact Int.mul_ne_zero (by omega) (by omega))]
  congr 1
  have e1 := vl_am a
  have e2 := vl_am b
  have k1 := cn (a := (am a).2) (by omega)
  have k2 := cn (a := (am b).2) (by omega)
  unfold vl at e1 e2
  rw [Rat.intCast_add, Rat.intCast_mul, Rat.intCast_mul, Rat.intCast_mul]
  grind
theorem minus_am (a b : Rat) : minusA (am a) (am b) = am (a - b) := by
  have h1 := am_pos a
  have h2 := am_pos b
  unfold minusA
  rw [amt_am (by exact Int.mul_ne_zero (by omega) (by omega))]
  congr 1
  have e1 := vl_am a
  have e2 := vl_am b
  have k1 := cn (a := (am a).2) (by omega)
  have k2 := cn (a := (am b).2) (by omega)
  unfold vl at e1 e2
  rw [Rat.intCast_sub, Rat.intCast_mul, Rat.intCast_mul, Rat.intCast_mul]
  grind
theorem times_am (a b : Rat) : timesA (am a) (am b) = am (a * b) := by
  have h1 := am_pos a
  have h2 := am_pos b
  unfold timesA
  rw [amt_am (by exact Int.mul_ne_zero (by omega) (by omega))]
  congr 1
  have e1 := vl_am a
  have e2 := vl_am b
  have k1 := cn (a := (am a).2) (by omega)
  have k2 := cn (a := (am b).2) (by omega)
  unfold vl at e1 e2
  rw [Rat.intCast_mul, Rat.intCast_mul]
  grind
theorem am_ne {b : Rat} (h : b ≠ 0) : (am b).1 ≠ 0 := fun z => h (by
  rw [← vl_am b]
  unfold vl
  rw [z]
  show (0 : Rat) / _ = 0
  grind)
theorem over_am (a b : Rat) (hb : b ≠ 0) : overA (am a) (am b) = am (a / b) := by
  have h1 := am_pos a
  have h2 := am_pos b
  have h3 := am_ne hb
  unfold overA
  rw [amt_am (by exact Int.mul_ne_zero (by omega) h3)]
  congr 1
  have e1 := vl_am a
  have e2 := vl_am b
  have k1 := cn (a := (am a).2) (by omega)
  have k2 := cn (a := (am b).2) (by omega)
  have k3 := cn h3
  unfold vl at e1 e2
  rw [Rat.intCast_mul, Rat.intCast_mul]
  grind
theorem below_am (a b : Rat) : belowA (am a) (am b) = decide (a < b) := by
  have h1 := am_pos a
  have h2 := am_pos b
  have k1 := cp h1
  have k2 := cp h2
  have e1 := vl_am a
  have e2 := vl_am b
  unfold belowA
  rw [decide_eq_decide, ← Rat.intCast_lt_intCast, Rat.intCast_mul, Rat.intCast_mul]
  unfold vl at e1 e2
  have f1 : ((am a).1 : Rat) = a * ((am a).2 : Rat) := by grind
  have f2 : ((am b).1 : Rat) = b * ((am b).2 : Rat) := by grind
  rw [f1, f2]
  have k3 := Rat.mul_pos k1 k2
  constructor
  · intro h
    by_cases z : a < b
    · exact z
    · have := Rat.mul_le_mul_of_nonneg_right (a := b) (b := a) (Rat.not_lt.mp z) (Rat.le_of_lt k3)
      grind
  · intro h
    have := Rat.mul_lt_mul_of_pos_right h k3
    grind
theorem am_int (z : Int) : am (z : Rat) = (z, 1) := by
  refine vl_eq (am_low _) ⟨by show (0 : Int) < 1; decide, by show Nat.gcd _ 1 = 1; exact Nat.gcd_one_right _⟩ ?_
  rw [vl_am]
  show (z : Rat) = (z : Rat) / ((1 : Int) : Rat)
  have : ((1 : Int) : Rat) = 1 := rfl
  rw [this]
  grind
theorem am_zero : am 0 = (0, 1) := am_int 0
theorem am_one : am 1 = (1, 1) := am_int 1
theorem am_eq_iff {a b : Rat} : am a = am b ↔ a = b := ⟨am_inj, fun h => by rw [h]⟩
theorem sub_nn {a b : Rat} (h : a < b) : 0 ≤ b - a := by grind
theorem sub_nn' {a b : Rat} (h : a ≤ b) : 0 ≤ b - a := by grind
theorem sub_le' {a b c : Rat} (h : b ≤ c) (h0 : 0 ≤ a) : b - a ≤ c := by grind
theorem neg_le {a c : Rat} (h : 0 ≤ a) (hc : 0 ≤ c) : -c ≤ a := by grind

/-! ### walking -/
def mnI (p q : Int) : Int := if q < p then q else p
def spd : List Int → List Rat → List Int
  | p :: ns, x :: xs => (match xs, spd ns xs with
      | y :: _, s :: _ => if x = y then mnI p s else p
      | _, _ => p) :: spd ns xs
  | _, _ => []
theorem spd_len : ∀ (ns : List Int) (xs : List Rat), ns.length = xs.length → (spd ns xs).length = ns.length
  | [], [], _ => rfl
  | [], _ :: _, h => by simp at h
  | _ :: _, [], h => by simp at h
  | p :: ns, x :: xs, h => by
    have := spd_len ns xs (by simpa using h)
    simp only [spd, List.length_cons, this]
theorem spd_step {ns : List Int} {xs : List Rat} (hl : ns.length = xs.length) {j : Nat} (hj : j < ns.length) :
    spd (ns.drop j) (xs.drop j) = (if h : j + 1 < ns.length then (if xs[j] = xs[j + 1] then mnI ns[j] ((spd (ns.drop (j + 1)) (xs.drop (j + 1))).headD 0) else ns[j]) else ns[j]) :: spd (ns.drop (j + 1)) (xs.drop (j + 1)) := by
  rw [List.drop_eq_getElem_cons hj, List.drop_eq_getElem_cons (show j < xs.length by omega)]
  by_cases h : j + 1 < ns.length
  · rw [dif_pos h]
    have e2 := List.drop_eq_getElem_cons (show j + 1 < xs.length by omega)
    have l := spd_len (ns.drop (j + 1)) (xs.drop (j + 1)) (by rw [List.length_drop, List.length_drop, hl])
    simp only [spd]
    cases hs : spd (ns.drop (j + 1)) (xs.drop (j + 1)) with
    | nil => rw [hs, List.length_drop] at l; simp at l; omega
    | cons s r =>
      rw [e2]
      simp
  · rw [dif_neg h]
    have e1 : ns.drop (j + 1) = [] := List.drop_eq_nil_of_le (by omega)
    have e2 : xs.drop (j + 1) = [] := List.drop_eq_nil_of_le (by omega)
    rw [e1, e2]
    simp [spd]
/-- the law's own -/
def ptl (x : Rat) : Int → List Int → List Rat → Int
  | p, q :: ns, y :: ys => ptl x (if y = x then mnI p q else p) ns ys
  | p, _, _ => p
theorem mnI_assoc (p q r : Int) : mnI (mnI p q) r = mnI p (mnI q r) := by unfold mnI; grind
theorem ptl_min (x : Rat) (p : Int) : ∀ (q : Int) (ns : List Int) (ys : List Rat), ptl x (mnI p q) ns ys = mnI p (ptl x q ns ys)
  | q, [], _ => by cases ‹List Rat› <;> rfl
  | q, _ :: _, [] => rfl
  | q, r :: ns, y :: ys => by
    simp only [ptl]
    by_cases h : y = x
    · rw [if_pos h, if_pos h, mnI_assoc, ptl_min x p]
    · rw [if_neg h, if_neg h, ptl_min x p]
theorem ptl_none (x : Rat) (p : Int) : ∀ (ns : List Int) (ys : List Rat), (∀ y ∈ ys, y ≠ x) → ptl x p ns ys = p
  | [], _, _ => by cases ‹List Rat› <;> rfl
  | _ :: _, [], _ => rfl
  | r :: ns, y :: ys, h => by
    simp only [ptl]
    rw [if_neg (h y List.mem_cons_self)]
    exact ptl_none x p ns ys fun z hz => h z (List.mem_cons_of_mem _ hz)
theorem spd_ptl : ∀ (p : Int) (x : Rat) (ns : List Int) (xs : List Rat), ns.length = xs.length → (x :: xs).Pairwise (· ≤ ·) → (spd (p :: ns) (x :: xs)).headD 0 = ptl x p ns xs
  | p, x, [], [], _, _ => rfl
  | _, _, [], _ :: _, h, _ => by simp at h
  | _, _, _ :: _, [], h, _ => by simp at h
  | p, x, q :: ns, y :: ys, h, hp => by
    have hp' := List.pairwise_cons.mp hp
    have ih := spd_ptl q y ns ys (by simpa using h) hp'.2
    have l := spd_len (q :: ns) (y :: ys) h
    cases hs : spd (q :: ns) (y :: ys) with
    | nil => rw [hs] at l; simp at l
    | cons s r =>
      rw [hs, List.headD_cons] at ih
      have e0 : spd (p :: q :: ns) (x :: y :: ys) = (if x = y then mnI p s else p) :: (s :: r) := by
        have : spd (p :: q :: ns) (x :: y :: ys) = (match y :: ys, spd (q :: ns) (y :: ys) with | y :: _, s :: _ => if x = y then mnI p s else p | _, _ => p) :: spd (q :: ns) (y :: ys) := rfl
        rw [this, hs]
      rw [e0, List.headD_cons]
      simp only [ptl]
      by_cases e : x = y
      · subst e
        rw [if_pos rfl, if_pos rfl, ptl_min, ih]
      · have hxy := hp'.1 y List.mem_cons_self
        have hl := (List.pairwise_cons.mp hp'.2).1
        rw [if_neg e, if_neg (fun z => e z.symm)]
        refine (ptl_none x p ns ys fun z hz => ?_).symm
        have := hl z hz
        grind
theorem spd_get {ns : List Int} {xs : List Rat} (hl : ns.length = xs.length) (hp : xs.Pairwise (· ≤ ·)) : ∀ {j : Nat} (hj : j < ns.length), (spd ns xs)[j]? = some (ptl xs[j] ns[j] (ns.drop (j + 1)) (xs.drop (j + 1))) := by
  intro j hj
  induction j generalizing ns xs with
  | zero =>
    match ns, xs, hl, hp, hj with
    | p :: ns, x :: xs, hl, hp, _ =>
      have := spd_ptl p x ns xs (by simpa using hl) hp
      simp only [spd] at this ⊢
      simp only [List.headD_cons] at this
      simp [this]
  | succ j ih =>
    match ns, xs, hl, hp, hj with
    | p :: ns, x :: xs, hl, hp, hj =>
      have := ih (ns := ns) (xs := xs) (by simpa using hl) (List.pairwise_cons.mp hp).2 (by simpa using hj)
      simp only [spd]
      simpa using this

/-! ### amounts over a common lower number -/
def Fr (D : Int) (r : Rat) : Prop := ∃ z : Int, r = (z : Rat) / (D : Rat)
theorem Fr.add {D : Int} {a b : Rat} (ha : Fr D a) (hb : Fr D b) : Fr D (a + b) := by
  obtain ⟨x, rfl⟩ := ha
  obtain ⟨y, rfl⟩ := hb
  exact ⟨x + y, by rw [Rat.intCast_add]; grind⟩
theorem Fr.sub {D : Int} {a b : Rat} (ha : Fr D a) (hb : Fr D b) : Fr D (a - b) := by
  obtain ⟨x, rfl⟩ := ha
  obtain ⟨y, rfl⟩ := hb
  exact ⟨x - y, by rw [Rat.intCast_sub]; grind⟩
theorem Fr.mulI {D : Int} {a : Rat} (ha : Fr D a) (k : Int) : Fr D ((k : Rat) * a) := by
  obtain ⟨x, rfl⟩ := ha
  exact ⟨k * x, by rw [Rat.intCast_mul]; grind⟩
theorem Fr.divI {D : Int} {a : Rat} (hD : D ≠ 0) (ha : Fr D a) {k : Int} (hk : k ≠ 0) : Fr (D * k) (a / (k : Rat)) := by
  obtain ⟨x, rfl⟩ := ha
  have h1 := cn hD
  have h2 := cn hk
  exact ⟨x, by rw [Rat.intCast_mul]; grind⟩
theorem Fr.int {D : Int} (hD : D ≠ 0) (k : Int) : Fr D (k : Rat) := ⟨k * D, by have := cn hD; rw [Rat.intCast_mul]; grind⟩
theorem Fr.zero {D : Int} (hD : D ≠ 0) : Fr D 0 := Fr.int hD 0
theorem Fr.scale {D : Int} {a : Rat} (hD : D ≠ 0) (ha : Fr D a) {k : Int} (hk : k ≠ 0) : Fr (D * k) a := by
  obtain ⟨x, rfl⟩ := ha
  have h1 := cn hD
  have h2 := cn hk
  exact ⟨x * k, by rw [Rat.intCast_mul, Rat.intCast_mul]; grind⟩
theorem Fr.of {n d D k : Int} (hd : d ≠ 0) (hk : k ≠ 0) (e : D = d * k) : Fr D ((n : Rat) / (d : Rat)) := by
  subst e
  have h1 := cn hd
  have h2 := cn hk
  exact ⟨n * k, by rw [Rat.intCast_mul, Rat.intCast_mul]; grind⟩
theorem ile {a b : Int} (h : (a : Rat) ≤ (b : Rat)) : a ≤ b := Rat.intCast_le_intCast.mp h
theorem fr_bd {D B : Int} {r : Rat} {k : Nat} (hD : 0 < D) (h : Fr D r) (h0 : -(B : Rat) ≤ r) (h1 : r ≤ (B : Rat)) (hb : (B * D).natAbs < 2 ^ k) (hd : D.natAbs < 2 ^ k) : Bd k (am r) := by
  obtain ⟨z, rfl⟩ := h
  have kD := cp hD
  have e1 : z ≤ B * D := ile (by
    rw [Rat.intCast_mul]
    have := Rat.mul_le_mul_of_nonneg_right h1 (Rat.le_of_lt kD)
    rw [Rat.div_mul_cancel (cn (by omega))] at this
    exact this)
  have e2 : -(B * D) ≤ z := ile (by
    rw [Rat.intCast_neg, Rat.intCast_mul]
    have := Rat.mul_le_mul_of_nonneg_right h0 (Rat.le_of_lt kD)
    rw [Rat.div_mul_cancel (cn (by omega)), Rat.neg_mul] at this
    exact this)
  have s := amt_spec (n := z) (d := D) (by omega)
  rw [← amt_am (by omega)]
  exact ⟨Nat.lt_of_le_of_lt (Nat.le_trans s.2.2.1 (by omega)) hb, Nat.lt_of_le_of_lt s.2.2.2 hd⟩

/-! ### meetings -/
def mnR (a b : Rat) : Rat := if b < a then b else a
def meetF (g : List Int) (ps : List Rat) (h : Rat) : Nat → Rat
  | 0 => h
  | i + 1 => if g.getD (i + 1) 0 < g.getD i 0 then mnR (meetF g ps h i) ((ps.getD (i + 1) 0 - ps.getD i 0) / ((g.getD i 0 - g.getD (i + 1) 0 : Int) : Rat)) else meetF g ps h i
def lastH (L : Int) (ns : List Int) (ps : List Rat) : Rat := ((L : Rat) - ps.getD (ns.length - 1) 0) / ((ns.getD (ns.length - 1) 0 : Int) : Rat)
def meetM (L : Int) (ns : List Int) (ps : List Rat) : Rat := meetF (spd ns ps) ps (lastH L ns ps) (ns.length - 1)
/-- hands on a way of labour L, all places over D -/
structure Wk (D L : Int) (ns : List Int) (ps : List Rat) : Prop where
  eq : ns.length = ps.length
  n8 : ns.length ≤ 8
  pace : ∀ n ∈ ns, 1 ≤ n ∧ n ≤ 12
  rise : ps.Pairwise (· ≤ ·)
  nn : ∀ p ∈ ps, 0 ≤ p
  fire : ∀ p ∈ ps, p ≤ (L : Rat)
  fr : ∀ p ∈ ps, Fr D p
theorem getD_mem {α : Type} {l : List α} {i : Nat} {d : α} (h : i < l.length) : l.getD i d ∈ l := by
  rw [List.getD_eq_getElem?_getD, List.getElem?_eq_getElem h]
  exact List.getElem_mem h
theorem getD_lt {α : Type} {l : List α} {i : Nat} {d : α} (h : i < l.length) : l.getD i d = l[i] := by
  rw [List.getD_eq_getElem?_getD, List.getElem?_eq_getElem h]
  rfl
theorem spd_at {ns : List Int} {xs : List Rat} (hl : ns.length = xs.length) {j : Nat} (hj : j < ns.length) : (spd ns xs).drop j = spd (ns.drop j) (xs.drop j) := by
  induction j generalizing ns xs with
  | zero => rfl
  | succ j ih =>
    match ns, xs, hl, hj with
    | p :: ns, x :: xs, hl, hj =>
      simp only [spd, List.drop_succ_cons]
      exact ih (by simpa using hl) (by simpa using hj)
theorem spd_rec {ns : List Int} {xs : List Rat} (hl : ns.length = xs.length) {j : Nat} (hj : j < ns.length) :
    (spd ns xs).getD j 0 = if j + 1 < ns.length ∧ xs.getD j 0 = xs.getD (j + 1) 0 then mnI (ns.getD j 0) ((spd ns xs).getD (j + 1) 0) else ns.getD j 0 := by
  have st := spd_step hl hj
  have e0 : (spd ns xs).getD j 0 = ((spd ns xs).drop j).headD 0 := by
    rw [List.getD_eq_getElem?_getD, List.headD_eq_head?_getD, List.head?_drop]
  rw [e0, spd_at hl hj, st, List.headD_cons, getD_lt hj]
  by_cases h : j + 1 < ns.length
  · rw [dif_pos h, getD_lt (show j < xs.length by omega), getD_lt (show j + 1 < xs.length by omega)]
    have e1 : (spd (ns.drop (j + 1)) (xs.drop (j + 1))).headD 0 = (spd ns xs).getD (j + 1) 0 := by
      rw [← spd_at hl h, List.getD_eq_getElem?_getD, List.headD_eq_head?_getD, List.head?_drop]
    rw [e1]
    by_cases e : xs[j] = xs[j + 1]
    · rw [if_pos e, if_pos ⟨h, e⟩]
    · rw [if_neg e, if_neg (fun z => e z.2)]
  · rw [dif_neg h, if_neg (fun z => h z.1)]
theorem mnI_le_l (p q : Int) : mnI p q ≤ p := by unfold mnI; split <;> omega
theorem mnI_le_r (p q : Int) : mnI p q ≤ q := by unfold mnI; split <;> omega
section
variable {D L : Int} {ns : List Int} {ps : List Rat}
theorem spd_bd (w : Wk D L ns ps) : ∀ {j : Nat}, j < ns.length → 1 ≤ (spd ns ps).getD j 0 ∧ (spd ns ps).getD j 0 ≤ 12 := by
  have key : ∀ k j, j < ns.length → ns.length - j ≤ k → 1 ≤ (spd ns ps).getD j 0 ∧ (spd ns ps).getD j 0 ≤ 12 := by
    intro k
    induction k with
    | zero => intro j h1 h2; omega
    | succ k ih =>
      intro j h1 h2
      have hp := w.pace _ (getD_mem (d := 0) h1)
      rw [spd_rec w.eq h1]
      split
      · rename_i h
        have := ih (j + 1) h.1 (by omega)
        unfold mnI
        split <;> omega
      · exact hp
  intro j h
  exact key _ j h (Nat.le_refl _)
theorem spd_same (w : Wk D L ns ps) {j : Nat} (h : j + 1 < ns.length) (e : ps.getD j 0 = ps.getD (j + 1) 0) : (spd ns ps).getD j 0 ≤ (spd ns ps).getD (j + 1) 0 := by
  rw [spd_rec w.eq (show j < ns.length by omega), if_pos ⟨h, e⟩]
  exact mnI_le_r _ _
theorem spd_last (w : Wk D L ns ps) (h : 0 < ns.length) : (spd ns ps).getD (ns.length - 1) 0 = ns.getD (ns.length - 1) 0 := by
  rw [spd_rec w.eq (by omega), if_neg (fun z => by omega)]
theorem ps_le (w : Wk D L ns ps) {j : Nat} (h : j + 1 < ns.length) : ps.getD j 0 ≤ ps.getD (j + 1) 0 := by
  have h2 : j + 1 < ps.length := by have := w.eq; omega
  rw [getD_lt (show j < ps.length by omega), getD_lt h2]
  exact List.pairwise_iff_getElem.mp w.rise j (j + 1) (by omega) h2 (by omega)
/-- where the one behind is quicker, they are apart -/
theorem apart (w : Wk D L ns ps) {j : Nat} (h : j + 1 < ns.length) (g : (spd ns ps).getD (j + 1) 0 < (spd ns ps).getD j 0) : ps.getD j 0 < ps.getD (j + 1) 0 := by
  have h1 := ps_le w h
  by_cases e : ps.getD j 0 = ps.getD (j + 1) 0
  · have := spd_same w h e
    omega
  · grind
theorem mnR_le_l (a b : Rat) : mnR a b ≤ a := by unfold mnR; split <;> grind
theorem mnR_le_r (a b : Rat) : mnR a b ≤ b := by unfold mnR; split <;> grind
theorem mnR_or (a b : Rat) : mnR a b = a ∨ mnR a b = b := by unfold mnR; split <;> simp
def cand (g : List Int) (ps : List Rat) (j : Nat) : Rat := (ps.getD (j + 1) 0 - ps.getD j 0) / ((g.getD j 0 - g.getD (j + 1) 0 : Int) : Rat)
theorem meetF_or (g : List Int) (ps : List Rat) (h : Rat) : ∀ i, meetF g ps h i = h ∨ ∃ j, j < i ∧ g.getD (j + 1) 0 < g.getD j 0 ∧ meetF g ps h i = cand g ps j
  | 0 => .inl rfl
  | i + 1 => by
    simp only [meetF]
    split
    · rename_i hg
      rcases mnR_or (meetF g ps h i) ((ps.getD (i + 1) 0 - ps.getD i 0) / ((g.getD i 0 - g.getD (i + 1) 0 : Int) : Rat)) with e | e
      · rw [e]
        rcases meetF_or g ps h i with e | ⟨j, hj, hgj, e⟩
        · exact .inl e
        · exact .inr ⟨j, by omega, hgj, e⟩
      · rw [e]
        exact .inr ⟨i, by omega, hg, rfl⟩
    · rcases meetF_or g ps h i with e | ⟨j, hj, hgj, e⟩
      · exact .inl e
      · exact .inr ⟨j, by omega, hgj, e⟩
theorem meetF_le (g : List Int) (ps : List Rat) (h : Rat) : ∀ i, meetF g ps h i ≤ h ∧ ∀ j, j < i → g.getD (j + 1) 0 < g.getD j 0 → meetF g ps h i ≤ cand g ps j
  | 0 => ⟨by simp only [meetF]; grind, fun j hj => by omega⟩
  | i + 1 => by
    have ih := meetF_le g ps h i
    simp only [meetF]
    split
    · rename_i hg
      have a := mnR_le_l (meetF g ps h i) ((ps.getD (i + 1) 0 - ps.getD i 0) / ((g.getD i 0 - g.getD (i + 1) 0 : Int) : Rat))
      have b := mnR_le_r (meetF g ps h i) ((ps.getD (i + 1) 0 - ps.getD i 0) / ((g.getD i 0 - g.getD (i + 1) 0 : Int) : Rat))
      refine ⟨by grind, fun j hj hgj => ?_⟩
      by_cases e : j = i
      · subst e; exact b
      · have := ih.2 j (by omega) hgj
        grind
    · rename_i hg
      refine ⟨ih.1, fun j hj hgj => ?_⟩
      by_cases e : j = i
      · subst e; exact absurd hgj hg
      · exact ih.2 j (by omega) hgj
theorem lt_div {a b : Rat} {k : Int} (hk : 0 < k) (h : a < b) : 0 < (b - a) / (k : Rat) := (Rat.lt_div_iff (cp hk)).mpr (by rw [Rat.zero_mul]; grind)
theorem div_mul {a : Rat} {k : Int} (hk : 0 < k) : a / (k : Rat) * (k : Rat) = a := Rat.div_mul_cancel (cn (by omega))
theorem div_le1 {a : Rat} {k : Int} (hk : 1 ≤ k) (ha : 0 ≤ a) : a / (k : Rat) ≤ a := by
  have e := div_mul (a := a) (show 0 < k by omega)
  have kp := cp (show 0 < k by omega)
  have h1 : (1 : Rat) ≤ (k : Rat) := Rat.intCast_le_intCast.mpr hk
  by_cases c : a / (k : Rat) < 0
  · have := Rat.mul_lt_mul_of_pos_right c kp
    grind
  · have := Rat.mul_le_mul_of_nonneg_left h1 (Rat.not_lt.mp c)
    grind
/-- the hours up to the i-th step of the search: over one of 1 to 12 parts -/
theorem meetF_ok (w : Wk D L ns ps) (hD : D ≠ 0) (hn : 0 < ns.length) {i : Nat} (hi : i ≤ ns.length - 1) : ∃ k : Int, 1 ≤ k ∧ k ≤ 12 ∧ Fr (D * k) (meetF (spd ns ps) ps (lastH L ns ps) i) ∧ 0 ≤ meetF (spd ns ps) ps (lastH L ns ps) i ∧ meetF (spd ns ps) ps (lastH L ns ps) i ≤ (L : Rat) := by
  have hle := w.eq
  have p0 := w.pace _ (getD_mem (d := 0) (show ns.length - 1 < ns.length by omega))
  have q0 := w.nn _ (getD_mem (d := 0) (show ns.length - 1 < ps.length by omega))
  have q1 := w.fire _ (getD_mem (d := 0) (show ns.length - 1 < ps.length by omega))
  have q2 := w.fr _ (getD_mem (d := 0) (show ns.length - 1 < ps.length by omega))
  have dp := cp (show 0 < ns.getD (ns.length - 1) 0 by omega)
  have em : lastH L ns ps * ((ns.getD (ns.length - 1) 0 : Int) : Rat) = (L : Rat) - ps.getD (ns.length - 1) 0 := div_mul (by omega)
  have h1 : (1 : Rat) ≤ ((ns.getD (ns.length - 1) 0 : Int) : Rat) := Rat.intCast_le_intCast.mpr p0.1
  have l0 : 0 ≤ lastH L ns ps := by
    by_cases c : lastH L ns ps < 0
    · have := Rat.mul_lt_mul_of_pos_right c dp
      grind
    · exact Rat.not_lt.mp c
  have lL : lastH L ns ps ≤ (L : Rat) := by
    have := Rat.mul_le_mul_of_nonneg_left h1 l0
    grind
  rcases meetF_or (spd ns ps) ps (lastH L ns ps) i with e | ⟨j, hj, hg, e⟩
  · rw [e]
    exact ⟨_, p0.1, p0.2, ((Fr.int hD L).sub q2).divI hD (by omega), l0, lL⟩
  · rw [e]
    have hj1 : j + 1 < ns.length := by omega
    have b0 := spd_bd w (show j < ns.length by omega)
    have b1 := spd_bd w hj1
    have ap := apart w hj1 hg
    have r2 := w.fr _ (getD_mem (d := 0) (show j < ps.length by omega))
    have r3 := w.fr _ (getD_mem (d := 0) (show j + 1 < ps.length by omega))
    refine ⟨(spd ns ps).getD j 0 - (spd ns ps).getD (j + 1) 0, by omega, by omega, (r3.sub r2).divI hD (by omega), Rat.le_of_lt (lt_div (by omega) ap), ?_⟩
    rw [← e]
    exact Rat.le_trans (meetF_le (spd ns ps) ps (lastH L ns ps) i).1 lL
theorem meet_pos (w : Wk D L ns ps) (hn : 0 < ns.length) (hf : ∀ p ∈ ps, p < (L : Rat)) : 0 < meetM L ns ps := by
  have hle := w.eq
  unfold meetM
  rcases meetF_or (spd ns ps) ps (lastH L ns ps) (ns.length - 1) with e | ⟨j, hj, hg, e⟩
  · rw [e]
    have p0 := w.pace _ (getD_mem (d := 0) (show ns.length - 1 < ns.length by omega))
    exact lt_div (by omega) (hf _ (getD_mem (d := 0) (show ns.length - 1 < ps.length by omega)))
  · rw [e]
    exact lt_div (by omega) (apart w (by omega) hg)
/-- for so long nobody is beyond the next one -/
theorem meet_order (w : Wk D L ns ps) {t : Rat} (h0 : 0 ≤ t) (ht : t ≤ meetM L ns ps) {j : Nat} (hj : j + 1 < ns.length) :
    ps.getD j 0 + t * (((spd ns ps).getD j 0 : Int) : Rat) ≤ ps.getD (j + 1) 0 + t * (((spd ns ps).getD (j + 1) 0 : Int) : Rat) := by
  have h1 := ps_le w hj
  by_cases g : (spd ns ps).getD (j + 1) 0 < (spd ns ps).getD j 0
  · have c := (meetF_le (spd ns ps) ps (lastH L ns ps) (ns.length - 1)).2 j (by omega) g
    have c2 : t ≤ cand (spd ns ps) ps j := Rat.le_trans ht c
    have kp := cp (show 0 < (spd ns ps).getD j 0 - (spd ns ps).getD (j + 1) 0 by omega)
    have e : cand (spd ns ps) ps j * (((spd ns ps).getD j 0 - (spd ns ps).getD (j + 1) 0 : Int) : Rat) = ps.getD (j + 1) 0 - ps.getD j 0 := div_mul (by omega)
    have := Rat.mul_le_mul_of_nonneg_right c2 (Rat.le_of_lt kp)
    rw [e, Rat.intCast_sub] at this
    grind
  · have k : (((spd ns ps).getD j 0 : Int) : Rat) ≤ (((spd ns ps).getD (j + 1) 0 : Int) : Rat) := Rat.intCast_le_intCast.mpr (by omega)
    have := Rat.mul_le_mul_of_nonneg_left k h0
    grind
theorem meet_fire (w : Wk D L ns ps) (hn : 0 < ns.length) {t : Rat} (ht : t ≤ meetM L ns ps) : ps.getD (ns.length - 1) 0 + t * (((spd ns ps).getD (ns.length - 1) 0 : Int) : Rat) ≤ (L : Rat) := by
  have c := (meetF_le (spd ns ps) ps (lastH L ns ps) (ns.length - 1)).1
  have c2 : t ≤ lastH L ns ps := Rat.le_trans ht c
  have p0 := w.pace _ (getD_mem (d := 0) (show ns.length - 1 < ns.length by omega))
  have e : lastH L ns ps * ((ns.getD (ns.length - 1) 0 : Int) : Rat) = (L : Rat) - ps.getD (ns.length - 1) 0 := div_mul (by omega)
  rw [spd_last w hn]
  have := Rat.mul_le_mul_of_nonneg_right c2 (Rat.le_of_lt (cp (show 0 < ns.getD (ns.length - 1) 0 by omega)))
  grind
/-- somebody has come up -/
theorem meet_come (w : Wk D L ns ps) (hn : 0 < ns.length) : (ps.getD (ns.length - 1) 0 + meetM L ns ps * (((spd ns ps).getD (ns.length - 1) 0 : Int) : Rat) = (L : Rat)) ∨
    ∃ j, j + 1 < ns.length ∧ ps.getD j 0 ≠ ps.getD (j + 1) 0 ∧ ps.getD j 0 + meetM L ns ps * (((spd ns ps).getD j 0 : Int) : Rat) = ps.getD (j + 1) 0 + meetM L ns ps * (((spd ns ps).getD (j + 1) 0 : Int) : Rat) := by
  have p0 := w.pace _ (getD_mem (d := 0) (show ns.length - 1 < ns.length by omega))
  unfold meetM
  rcases meetF_or (spd ns ps) ps (lastH L ns ps) (ns.length - 1) with e | ⟨j, hj, hg, e⟩
  · refine .inl ?_
    rw [e, spd_last w hn]
    have e : lastH L ns ps * ((ns.getD (ns.length - 1) 0 : Int) : Rat) = (L : Rat) - ps.getD (ns.length - 1) 0 := div_mul (by omega)
    grind
  · refine .inr ⟨j, by omega, ?_, ?_⟩
    · have := apart w (j := j) (by omega) hg
      grind
    · rw [e]
      have e : cand (spd ns ps) ps j * (((spd ns ps).getD j 0 - (spd ns ps).getD (j + 1) 0 : Int) : Rat) = ps.getD (j + 1) 0 - ps.getD j 0 := div_mul (by omega)
      rw [Rat.intCast_sub] at e
      grind
end

theorem shaped_am (x : Am) : SeqAt.shaped (.tuple [.int x.1, .int x.2]) = true := by
  simp [SeqAt.shaped, PyData.canLay0, PyData.canLayAll0, PyData.depth, PyData.depthAll]
theorem eqv_am (x y : Am) : PyData.eqv (.tuple [.int x.1, .int x.2]) (.tuple [.int y.1, .int y.2]) = decide (x = y) := by
  obtain ⟨a, b⟩ := x
  obtain ⟨c, d⟩ := y
  simp only [PyData.eqv, PyData.eqvAll, Bool.and_true, Prod.mk.injEq]
  by_cases h1 : a = c <;> by_cases h2 : b = d <;> simp [h1, h2]
theorem ne_am {x y : Am} (h : x = y) : (!PyData.eqv (.tuple [.int x.1, .int x.2]) (.tuple [.int y.1, .int y.2])) = false := by rw [eqv_am, decide_eq_true h]; rfl

theorem dpa_ints {K : PySem.W.Frag} {H : Hp} : ∀ ns : List Int, DpAll K H (ns.map V.int) (ns.map PyData.int)
  | [] => .nil
  | n :: ns => .cons (.int n) (dpa_ints ns)
theorem dp_ints {K : PySem.W.Frag} {H : Hp} {a : Addr} {ns : List Int} (h : SqL K H a (ns.map V.int)) : Dp K H (.ref a) (.list (ns.map PyData.int)) := .lst h (dpa_ints ns)
theorem depOk_ints {n : Nat} {ns : List Int} (h : ns.length ≤ 9000) : depOk (n + 1) (.list (ns.map PyData.int)) = true := by
  show (decide ((ns.map PyData.int).length ≤ 9000) && (ns.map PyData.int).all (depOk n)) = true
  rw [List.length_map, decide_eq_true h, Bool.true_and, List.all_map]
  exact List.all_eq_true.mpr fun q _ => by cases n <;> rfl
theorem depOk_amsN {n : Nat} {qs : List Am} (h : qs.length ≤ 9000) : depOk (n + 2) (.list (qs.map amD)) = true := by
  show (decide ((qs.map amD).length ≤ 9000) && (qs.map amD).all (depOk (n + 1))) = true
  rw [List.length_map, decide_eq_true h, Bool.true_and, List.all_map]
  refine List.all_eq_true.mpr fun q _ => ?_
  cases n <;> rfl

theorem ok_PailError {f : Addr} {fd : FuncData} (F : Fun K "__init__" "PailError.__init__" s_p_PailError___init__ f fd) (mV : mg "ValueError" = none) (vV : PySem.W.findCls K (.type "ValueError") (.type "type") "__init__" = some (.val (.builtin "ValueError.__init__"))) :
    FnOk P w K mg base CX0 1 f fd ["self", "word"] (spInit2 K) := by
  refine F.ok sc_p_PailError___init__ (fun vs H Q E h => ?_) (fun cdv A outer s H vs Q E hr h => ?_)
  · obtain ⟨a, C, w, rfl, _⟩ := h
    rfl
  · obtain ⟨a, C, w, rfl, oc, nw, ea, q⟩ := h
    refine ⟨_, (pss_cons (ps_expr (pe_veinit (by rfl) mV vV (pa_cons (pv 0) (pa_cons (pv 1) pa_nil))))
      (pss_one (ps_ost (pv 0) (pv 1)))), ?_⟩
    refine ⟨_, rfl, _, rfl, a, C, [.str w], rfl, by show 1 ≤ 1000; decide, oc, ea, ?_⟩
    exact ⟨_, rfl, _, rfl, a, C, rfl, oc, nw, .inl ⟨ea, fun dx n ne => q dx n ne⟩⟩
theorem ok_BadWay {f fP CP : Addr} {fd fdP : FuncData} {mc : Value} (F : Fun K "__init__" "BadWay.__init__" s_p_BadWay___init__ f fd) (cr : ClX.CRead K CP mc) (hat : PySem.W.findCls K (.ref CP) mc "__init__" = some (.val (.ref fP))) (FP : FnOk P w K mg base CX0 1 fP fdP ["self", "word"] (spInit2 K))
    (gP : mg "PailError" = some (.ref CP)) (kP : PySem.W.keepIn K (.ref fP) = true) (bP : Binds K fdP ["self", "word"] []) : FnOk P w K mg base CX0 2 f fd ["self"] (spInit "bad way" K) := by
  refine F.ok sc_p_BadWay___init__ (fun vs H Q E h => ?_) (fun cdv A outer s H vs Q E hr h => ?_)
  · obtain ⟨a, C, rfl, _⟩ := h
    rfl
  · obtain ⟨a, C, rfl, oc, nw, ea, q⟩ := h
    refine ⟨_, (pss_one (ps_expr (pe_clsfn cr hat FP hr (by rfl) gP kP bP (pa_cons (pv 0) (pa_cons pe_str pa_nil))))), ?_⟩
    exact ⟨_, rfl, a, C, "bad way", rfl, oc, nw, ea, q⟩
theorem ok_BadName {f fP CP : Addr} {fd fdP : FuncData} {mc : Value} (F : Fun K "__init__" "BadName.__init__" s_p_BadName___init__ f fd) (cr : ClX.CRead K CP mc) (hat : PySem.W.findCls K (.ref CP) mc "__init__" = some (.val (.ref fP))) (FP : FnOk P w K mg base CX0 1 fP fdP ["self", "word"] (spInit2 K))
    (gP : mg "PailError" = some (.ref CP)) (kP : PySem.W.keepIn K (.ref fP) = true) (bP : Binds K fdP ["self", "word"] []) : FnOk P w K mg base CX0 2 f fd ["self"] (spInit "bad name" K) := by
  refine F.ok sc_p_BadName___init__ (fun vs H Q E h => ?_) (fun cdv A outer s H vs Q E hr h => ?_)
  · obtain ⟨a, C, rfl, _⟩ := h
    rfl
  · obtain ⟨a, C, rfl, oc, nw, ea, q⟩ := h
    refine ⟨_, (pss_one (ps_expr (pe_clsfn cr hat FP hr (by rfl) gP kP bP (pa_cons (pv 0) (pa_cons pe_str pa_nil))))), ?_⟩
    exact ⟨_, rfl, a, C, "bad name", rfl, oc, nw, ea, q⟩
theorem ok_Taken {f fP CP : Addr} {fd fdP : FuncData} {mc : Value} (F : Fun K "__init__" "Taken.__init__" s_p_Taken___init__ f fd) (cr : ClX.CRead K CP mc) (hat : PySem.W.findCls K (.ref CP) mc "__init__" = some (.val (.ref fP))) (FP : FnOk P w K mg base CX0 1 fP fdP ["self", "word"] (spInit2 K))
    (gP : mg "PailError" = some (.ref CP)) (kP : PySem.W.keepIn K (.ref fP) = true) (bP : Binds K fdP ["self", "word"] []) : FnOk P w K mg base CX0 2 f fd ["self"] (spInit "taken" K) := by
  refine F.ok sc_p_Taken___init__ (fun vs H Q E h => ?_) (fun cdv A outer s H vs Q E hr h => ?_)
  · obtain ⟨a, C, rfl, _⟩ := h
    rfl
  · obtain ⟨a, C, rfl, oc, nw, ea, q⟩ := h
    refine ⟨_, (pss_one (ps_expr (pe_clsfn cr hat FP hr (by rfl) gP kP bP (pa_cons (pv 0) (pa_cons pe_str pa_nil))))), ?_⟩
    exact ⟨_, rfl, a, C, "taken", rfl, oc, nw, ea, q⟩
theorem ok_BadPace {f fP CP : Addr} {fd fdP : FuncData} {mc : Value} (F : Fun K "__init__" "BadPace.__init__" s_p_BadPace___init__ f fd) (cr : ClX.CRead K CP mc) (hat : PySem.W.findCls K (.ref CP) mc "__init__" = some (.val (.ref fP))) (FP : FnOk P w K mg base CX0 1 fP fdP ["self", "word"] (spInit2 K))
    (gP : mg "PailError" = some (.ref CP)) (kP : PySem.W.keepIn K (.ref fP) = true) (bP : Binds K fdP ["self", "word"] []) : FnOk P w K mg base CX0 2 f fd ["self"] (spInit "bad pace" K) := by
  refine F.ok sc_p_BadPace___init__ (fun vs H Q E h => ?_) (fun cdv A outer s H vs Q E hr h => ?_)
  · obtain ⟨a, C, rfl, _⟩ := h
    rfl
  · obtain ⟨a, C, rfl, oc, nw, ea, q⟩ := h
    refine ⟨_, (pss_one (ps_expr (pe_clsfn cr hat FP hr (by rfl) gP kP bP (pa_cons (pv 0) (pa_cons pe_str pa_nil))))), ?_⟩
    exact ⟨_, rfl, a, C, "bad pace", rfl, oc, nw, ea, q⟩
theorem ok_Full {f fP CP : Addr} {fd fdP : FuncData} {mc : Value} (F : Fun K "__init__" "Full.__init__" s_p_Full___init__ f fd) (cr : ClX.CRead K CP mc) (hat : PySem.W.findCls K (.ref CP) mc "__init__" = some (.val (.ref fP))) (FP : FnOk P w K mg base CX0 1 fP fdP ["self", "word"] (spInit2 K))
    (gP : mg "PailError" = some (.ref CP)) (kP : PySem.W.keepIn K (.ref fP) = true) (bP : Binds K fdP ["self", "word"] []) : FnOk P w K mg base CX0 2 f fd ["self"] (spInit "full" K) := by
  refine F.ok sc_p_Full___init__ (fun vs H Q E h => ?_) (fun cdv A outer s H vs Q E hr h => ?_)
  · obtain ⟨a, C, rfl, _⟩ := h
    rfl
  · obtain ⟨a, C, rfl, oc, nw, ea, q⟩ := h
    refine ⟨_, (pss_one (ps_expr (pe_clsfn cr hat FP hr (by rfl) gP kP bP (pa_cons (pv 0) (pa_cons pe_str pa_nil))))), ?_⟩
    exact ⟨_, rfl, a, C, "full", rfl, oc, nw, ea, q⟩
theorem ok_NoHand {f fP CP : Addr} {fd fdP : FuncData} {mc : Value} (F : Fun K "__init__" "NoHand.__init__" s_p_NoHand___init__ f fd) (cr : ClX.CRead K CP mc) (hat : PySem.W.findCls K (.ref CP) mc "__init__" = some (.val (.ref fP))) (FP : FnOk P w K mg base CX0 1 fP fdP ["self", "word"] (spInit2 K))
    (gP : mg "PailError" = some (.ref CP)) (kP : PySem.W.keepIn K (.ref fP) = true) (bP : Binds K fdP ["self", "word"] []) : FnOk P w K mg base CX0 2 f fd ["self"] (spInit "no hand" K) := by
  refine F.ok sc_p_NoHand___init__ (fun vs H Q E h => ?_) (fun cdv A outer s H vs Q E hr h => ?_)
  · obtain ⟨a, C, rfl, _⟩ := h
    rfl
  · obtain ⟨a, C, rfl, oc, nw, ea, q⟩ := h
    refine ⟨_, (pss_one (ps_expr (pe_clsfn cr hat FP hr (by rfl) gP kP bP (pa_cons (pv 0) (pa_cons pe_str pa_nil))))), ?_⟩
    exact ⟨_, rfl, a, C, "no hand", rfl, oc, nw, ea, q⟩
theorem ok_Called {f fP CP : Addr} {fd fdP : FuncData} {mc : Value} (F : Fun K "__init__" "Called.__init__" s_p_Called___init__ f fd) (cr : ClX.CRead K CP mc) (hat : PySem.W.findCls K (.ref CP) mc "__init__" = some (.val (.ref fP))) (FP : FnOk P w K mg base CX0 1 fP fdP ["self", "word"] (spInit2 K))
    (gP : mg "PailError" = some (.ref CP)) (kP : PySem.W.keepIn K (.ref fP) = true) (bP : Binds K fdP ["self", "word"] []) : FnOk P w K mg base CX0 2 f fd ["self"] (spInit "called" K) := by
  refine F.ok sc_p_Called___init__ (fun vs H Q E h => ?_) (fun cdv A outer s H vs Q E hr h => ?_)
  · obtain ⟨a, C, rfl, _⟩ := h
    rfl
  · obtain ⟨a, C, rfl, oc, nw, ea, q⟩ := h
    refine ⟨_, (pss_one (ps_expr (pe_clsfn cr hat FP hr (by rfl) gP kP bP (pa_cons (pv 0) (pa_cons pe_str pa_nil))))), ?_⟩
    exact ⟨_, rfl, a, C, "called", rfl, oc, nw, ea, q⟩
theorem ok_NotCalled {f fP CP : Addr} {fd fdP : FuncData} {mc : Value} (F : Fun K "__init__" "NotCalled.__init__" s_p_NotCalled___init__ f fd) (cr : ClX.CRead K CP mc) (hat : PySem.W.findCls K (.ref CP) mc "__init__" = some (.val (.ref fP))) (FP : FnOk P w K mg base CX0 1 fP fdP ["self", "word"] (spInit2 K))
    (gP : mg "PailError" = some (.ref CP)) (kP : PySem.W.keepIn K (.ref fP) = true) (bP : Binds K fdP ["self", "word"] []) : FnOk P w K mg base CX0 2 f fd ["self"] (spInit "not called" K) := by
  refine F.ok sc_p_NotCalled___init__ (fun vs H Q E h => ?_) (fun cdv A outer s H vs Q E hr h => ?_)
  · obtain ⟨a, C, rfl, _⟩ := h
    rfl
  · obtain ⟨a, C, rfl, oc, nw, ea, q⟩ := h
    refine ⟨_, (pss_one (ps_expr (pe_clsfn cr hat FP hr (by rfl) gP kP bP (pa_cons (pv 0) (pa_cons pe_str pa_nil))))), ?_⟩
    exact ⟨_, rfl, a, C, "not called", rfl, oc, nw, ea, q⟩
theorem ok_NoNext {f fP CP : Addr} {fd fdP : FuncData} {mc : Value} (F : Fun K "__init__" "NoNext.__init__" s_p_NoNext___init__ f fd) (cr : ClX.CRead K CP mc) (hat : PySem.W.findCls K (.ref CP) mc "__init__" = some (.val (.ref fP))) (FP : FnOk P w K mg base CX0 1 fP fdP ["self", "word"] (spInit2 K))
    (gP : mg "PailError" = some (.ref CP)) (kP : PySem.W.keepIn K (.ref fP) = true) (bP : Binds K fdP ["self", "word"] []) : FnOk P w K mg base CX0 2 f fd ["self"] (spInit "no next" K) := by
  refine F.ok sc_p_NoNext___init__ (fun vs H Q E h => ?_) (fun cdv A outer s H vs Q E hr h => ?_)
  · obtain ⟨a, C, rfl, _⟩ := h
    rfl
  · obtain ⟨a, C, rfl, oc, nw, ea, q⟩ := h
    refine ⟨_, (pss_one (ps_expr (pe_clsfn cr hat FP hr (by rfl) gP kP bP (pa_cons (pv 0) (pa_cons pe_str pa_nil))))), ?_⟩
    exact ⟨_, rfl, a, C, "no next", rfl, oc, nw, ea, q⟩
theorem ok_NoPail {f fP CP : Addr} {fd fdP : FuncData} {mc : Value} (F : Fun K "__init__" "NoPail.__init__" s_p_NoPail___init__ f fd) (cr : ClX.CRead K CP mc) (hat : PySem.W.findCls K (.ref CP) mc "__init__" = some (.val (.ref fP))) (FP : FnOk P w K mg base CX0 1 fP fdP ["self", "word"] (spInit2 K))
    (gP : mg "PailError" = some (.ref CP)) (kP : PySem.W.keepIn K (.ref fP) = true) (bP : Binds K fdP ["self", "word"] []) : FnOk P w K mg base CX0 2 f fd ["self"] (spInit "no pail" K) := by
  refine F.ok sc_p_NoPail___init__ (fun vs H Q E h => ?_) (fun cdv A outer s H vs Q E hr h => ?_)
  · obtain ⟨a, C, rfl, _⟩ := h
    rfl
  · obtain ⟨a, C, rfl, oc, nw, ea, q⟩ := h
    refine ⟨_, (pss_one (ps_expr (pe_clsfn cr hat FP hr (by rfl) gP kP bP (pa_cons (pv 0) (pa_cons pe_str pa_nil))))), ?_⟩
    exact ⟨_, rfl, a, C, "no pail", rfl, oc, nw, ea, q⟩

theorem Drawn.get : ∀ {ds qs : List Int} {i : Nat} {q : Int}, Drawn ds qs → qs[i]? = some q → ∃ d, ds[i]? = some d ∧ 0 ≤ d ∧ d < q
  | [], [], i, q, _, e => by simp at e
  | [], _ :: _, _, _, h, _ => h.elim
  | _ :: _, [], _, _, h, _ => h.elim
  | d :: _, _ :: _, 0, q, h, e => by
    obtain rfl := Option.some.inj e
    exact ⟨d, rfl, h.1.1, h.1.2⟩
  | _ :: ds, _ :: qs, i + 1, q, h, e => Drawn.get (ds := ds) (qs := qs) h.2 e
theorem at_map {ds : List Int} {i : Nat} {d z : Int} (hz : z = (i : Int)) (h : ds[i]? = some d) : atI (ds.map V.int) z = some (.int d) := by
  subst hz
  exact at_of (j := i) rfl (by rw [List.getElem?_map, h]; rfl)

theorem am_at {K : PySem.W.Frag} {H : Hp} {us : List V} {ps : List Rat} (hd : DpAll K H us ((ps.map am).map amD)) {i : Nat} (hi : i < ps.length) : ∃ b, us[i]? = some (.ref b) ∧ SqT K H b (tv (am ps[i])) := by
  obtain ⟨v, e1, e2⟩ := dpa_get hd (i := i) (d := amD (am ps[i])) (by rw [List.getElem?_map, List.getElem?_map, List.getElem?_eq_getElem hi]; rfl)
  obtain ⟨b, rfl, hb⟩ := pd_at e2
  exact ⟨b, e1, hb⟩

theorem bd_int {k : Int} (h : k.natAbs < 2 ^ 3900) : Bd 4000 ((k, 1) : Am) := ⟨Nat.lt_trans h (Nat.pow_lt_pow_right (by decide) (by decide)), by show (1 : Int).natAbs < 2 ^ 4000; exact Nat.one_lt_two_pow (by decide)⟩
theorem small {k : Int} (h : k.natAbs < 2 ^ 60) : k.natAbs < 2 ^ 3900 := Nat.lt_trans h (Nat.pow_lt_pow_right (by decide) (by decide))
theorem bd_fr {D k : Int} {r : Rat} (hD : 0 < D) (hd : D.natAbs < 2 ^ 3900) (h1 : 1 ≤ k) (h2 : k ≤ 12) (h : Fr (D * k) r) (h3 : -(1000 : Rat) ≤ r) (h4 : r ≤ 1000) : Bd 4000 (am r) := by
  have e : (2 : Nat) ^ 4000 = 2 ^ 100 * 2 ^ 3900 := by rw [← Nat.pow_add]
  have a1 : (D * k).natAbs ≤ 16 * D.natAbs := by rw [Int.natAbs_mul, Nat.mul_comm]; exact Nat.mul_le_mul_right _ (by omega)
  have a2 : (1000 * (D * k)).natAbs ≤ 16000 * D.natAbs := by rw [Int.natAbs_mul]; show 1000 * _ ≤ _; omega
  have a3 : (2 : Nat) ^ 100 * 2 ^ 3900 ≥ 16000 * 2 ^ 3900 := Nat.mul_le_mul_right _ (by decide)
  exact fr_bd (D := D * k) (B := 1000) (Int.mul_pos hD (by omega)) h h3 h4 (by omega) (by omega)
theorem bd_fr1 {D : Int} {r : Rat} (hD : 0 < D) (hd : D.natAbs < 2 ^ 3900) (h : Fr D r) (h3 : -(1000 : Rat) ≤ r) (h4 : r ≤ 1000) : Bd 4000 (am r) :=
  bd_fr (k := 1) hD hd (by decide) (by decide) (by rw [Int.mul_one]; exact h) h3 h4

theorem bdL {D : Int} {r : Rat} (hD : 0 < D) (hd : D.natAbs < 2 ^ 3900) (h : Fr D r) (h3 : 0 ≤ r) (h4 : r ≤ 1000000) : Bd 4000 (am r) := by
  have e : (2 : Nat) ^ 4000 = 2 ^ 100 * 2 ^ 3900 := by rw [← Nat.pow_add]
  have a2 : (1000000 * D).natAbs ≤ 1000000 * D.natAbs := by rw [Int.natAbs_mul]; exact Nat.le_refl _
  have a3 : (2 : Nat) ^ 100 * 2 ^ 3900 ≥ 1000001 * 2 ^ 3900 := Nat.mul_le_mul_right _ (by decide)
  exact fr_bd (D := D) (B := 1000000) hD h (neg_le h3 (by decide)) h4 (by omega) (by omega)
theorem bdX {D : Int} {r : Rat} (hD : 0 < D) (hd : D.natAbs < 2 ^ 3900) (h : Fr D r) (h3 : 0 ≤ r) (h4 : r ≤ 1000000000) : Bd 4000 (am r) := by
  have e : (2 : Nat) ^ 4000 = 2 ^ 100 * 2 ^ 3900 := by rw [← Nat.pow_add]
  have a2 : (1000000000 * D).natAbs ≤ 1000000000 * D.natAbs := by rw [Int.natAbs_mul]; exact Nat.le_refl _
  have a3 : (2 : Nat) ^ 100 * 2 ^ 3900 ≥ 1000000001 * 2 ^ 3900 := Nat.mul_le_mul_right _ (by decide)
  exact fr_bd (D := D) (B := 1000000000) hD h (neg_le h3 (by decide)) h4 (by omega) (by omega)
theorem mul_rng {m L g : Rat} (h0 : 0 ≤ m) (h1 : m ≤ L) (g0 : 1 ≤ g) (g1 : g ≤ 12) : 0 ≤ m * g ∧ m * g ≤ 12 * L := by
  have a := Rat.mul_le_mul_of_nonneg_left g1 h0
  have b := Rat.mul_le_mul_of_nonneg_left g0 h0
  exact ⟨by grind, by grind⟩
theorem mul_rng0 {m L g : Rat} (h0 : 0 ≤ m) (h1 : m ≤ L) (g0 : 0 ≤ g) (g1 : g ≤ 12) : 0 ≤ m * g ∧ m * g ≤ 12 * L := by
  have a := Rat.mul_le_mul_of_nonneg_left g1 h0
  have b := Rat.mul_nonneg h0 g0
  exact ⟨b, by grind⟩
theorem div_nn {a : Rat} {k : Int} (hk : 1 ≤ k) (ha : 0 ≤ a) : 0 ≤ a / (k : Rat) := by
  have e := div_mul (a := a) (show 0 < k by omega)
  by_cases c : a / (k : Rat) < 0
  · have := Rat.mul_lt_mul_of_pos_right c (cp (show 0 < k by omega))
    grind
  · exact Rat.not_lt.mp c
/-- lists of amounts -/
def AmL (K : PySem.W.Frag) (H : Hp) (us : List V) (rs : List Rat) : Prop := DpAll K H us ((rs.map am).map amD)
theorem AmL.len {K : PySem.W.Frag} {H : Hp} {us : List V} {rs : List Rat} (h : AmL K H us rs) : us.length = rs.length := by rw [dpa_len h, List.length_map, List.length_map]
theorem AmL.at {K : PySem.W.Frag} {H : Hp} {us : List V} {rs : List Rat} (h : AmL K H us rs) {i : Nat} (hi : i < rs.length) : ∃ b, us[i]? = some (.ref b) ∧ SqT K H b (tv (am (rs.getD i 0))) := by
  rw [getD_lt hi]
  exact am_at h hi
theorem AmL.keep {T : Tb} {K : PySem.W.Frag} {H H' : Hp} {us : List V} {rs : List Rat} (h : AmL K H us rs) (s : Sm T H H') : AmL K H' us rs := dpa_same s _ _ h
theorem AmL.push {K : PySem.W.Frag} {H : Hp} {us : List V} {rs : List Rat} {D b : Addr} {xs : List V} {o : HO} {r : Rat} (h : AmL K H us rs) (hD : H D = some (.lst xs)) (hb : SqT K H b (tv (am r))) : AmL K (upd H D o) (us ++ [.ref b]) (rs ++ [r]) := by
  unfold AmL
  rw [List.map_append, List.map_append]
  exact dpa_app (pds_mut hD h) (.cons (pd_mut (amD_dp hb) hD) .nil)
theorem AmL.mut {K : PySem.W.Frag} {H : Hp} {us : List V} {rs : List Rat} {D : Addr} {xs : List V} {o : HO} (h : AmL K H us rs) (hD : H D = some (.lst xs)) : AmL K (upd H D o) us rs := pds_mut hD h
theorem AmL.dp {K : PySem.W.Frag} {H : Hp} {us : List V} {rs : List Rat} {a : Addr} (h : AmL K H us rs) (ha : SqL K H a us) : Dp K H (.ref a) (.list ((rs.map am).map amD)) := .lst ha h
theorem take_range {α : Type} {f : Nat → α} {i : Nat} : ((List.range (i + 1)).map f) = (List.range i).map f ++ [f i] := by rw [List.range_succ, List.map_append]; rfl

theorem at_neg1 {α : Type} {xs : List α} {v : α} (h : 0 < xs.length) (e : xs[xs.length - 1]? = some v) : atI xs (-1) = some v := by
  have hne : xs ≠ [] := by intro c; rw [c] at h; exact Nat.lt_irrefl _ h
  obtain ⟨ys, z, rfl⟩ : ∃ ys z, xs = ys ++ [z] := ⟨xs.dropLast, xs.getLast hne, (List.dropLast_concat_getLast hne).symm⟩
  rw [List.length_append, show ys.length + [z].length - 1 = ys.length by simp, List.getElem?_append_right (Nat.le_refl _), Nat.sub_self] at e
  obtain rfl : z = v := Option.some.inj e
  exact atI_last _ _

def sp_l_cell (K : PySem.W.Frag) (T : Tb) : Sp := fun vs H Q _ => ∃ (a : Addr) (ns : List Int) (k : Int), vs = [.ref a, .int k] ∧ SqL K H a (ns.map V.int) ∧ 0 ≤ k ∧ ∀ z : Int, Q (.int z) H
theorem ok_l_cell {f : Addr} {fd : FuncData} (F : Fun K "_law_cell" "_law_cell" s_l_cell f fd) (B : Bn mg) : FnOk P w K mg base CX0 1 f fd ["_law_script", "_law_k"] (sp_l_cell K T) := by
  refine F.ok sc_l_cell (fun vs H Q E h => ?_) (fun cdv A outer s H vs Q E hr h => ?_)
  · obtain ⟨a, ns, k, rfl, _⟩ := h
    rfl
  · obtain ⟨a, ns, k, rfl, hS, hk, q⟩ := h
    refine ⟨_, (pss_cons (ps_if (pt_cmpR op_lt (pv 1) (pe_callB call_len_seq (by rfl) B.len_ (by decide +kernel) (pa_cons (pv 0) pa_nil)) (nomark _)) (pss_one (ps_ret (pe_ix ix_list (pv 0) (pv 1) (fun _ _ => rfl)))) pss_nil)
      (pss_one (ps_ret (pe_op op_add (pe_op op_add (pe_op op_mul (pe_op op_mod (pe_callB (cr_sum rfl) (by rfl) B.sum_ (by decide +kernel) (pa_cons (pv 0) pa_nil)) pe_int) pe_int) (pe_op op_mul (pe_callB call_len_seq (by rfl) B.len_ (by decide +kernel) (pa_cons (pv 0) pa_nil)) pe_int)) (pe_op op_mul (pv 1) pe_int))))), ?_⟩
    refine ⟨_, rfl, _, rfl, a, _, rfl, .inl hS, _, _, rfl, rfl, _, rfl, ite2 (fun e => ?_) (fun e => ?_)⟩
    · have e' : k < ((ns.map V.int).length : Int) := of_decide_eq_true e
      rw [List.length_map] at e'
      obtain ⟨j, rfl⟩ : ∃ j : Nat, k = (j : Int) := ⟨k.toNat, by omega⟩
      have hj : j < ns.length := by omega
      refine ⟨_, rfl, _, rfl, a, _, _, .int ns[j], rfl, rfl, hS, atI_nat (by rw [List.getElem?_map, List.getElem?_eq_getElem hj]; rfl), q _⟩
    · refine ⟨_, rfl, a, ns, rfl, hS, ?_⟩
      refine ⟨_, _, rfl, rfl, (by show (0 : Int) < 1000003; decide), _, _, rfl, rfl, .inr ⟨by decide, by decide⟩, ?_⟩
      refine ⟨_, rfl, a, _, rfl, .inl hS, _, _, rfl, rfl, .inr ⟨by decide, by decide⟩, _, _, rfl, rfl, ?_⟩
      refine ⟨_, rfl, _, _, rfl, rfl, .inr ⟨by decide, by decide⟩, _, _, rfl, rfl, q _⟩

def sp_l_draws (K : PySem.W.Frag) (T : Tb) : Sp := fun vs H Q _ => ∃ (c : Int) (a : Addr) (qs : List Int), vs = [.int c, .ref a] ∧ SqL K H a (qs.map V.int) ∧ qs.length ≤ 1000 ∧ (∀ q ∈ qs, 0 < q ∧ q.natAbs < 2 ^ 100) ∧
  ∀ p H' (ds : List Int), Sm T H H' → H p = none → H' p = some (.lst (ds.map V.int)) → Drawn ds qs → Q (.ref p) H'
theorem ok_l_draws {f : Addr} {fd : FuncData} (F : Fun K "_law_draws" "_law_draws" s_l_draws f fd) : FnOk P w K mg base CX0 1 f fd ["_law_cell_here", "_law_parts"] (sp_l_draws K T) := by
  refine F.ok sc_l_draws (fun vs H Q E h => ?_) (fun cdv A outer s H vs Q E hr h => ?_)
  · obtain ⟨c, a, qs, rfl, _⟩ := h
    rfl
  · obtain ⟨c, a, qs, rfl, hS, hlen, hpos, q⟩ := h
    refine ⟨_, (pss_cons (ps_if (pt_cmpR op_lt (pv 0) (pe_op op_pow pe_int pe_int) (nomark _)) (pss_cons (ps_set (i := 2) sc_l_draws.nd rfl (.inl rfl) (pe_op op_mod (pe_op op_add (pe_op op_mul (pv 0) pe_int) pe_int) pe_int))
      (pss_cons (ps_set (i := 3) sc_l_draws.nd rfl (.inl rfl) (pe_op op_mod (pe_op op_add (pe_op op_add (pe_op op_mul (pv 2) (pv 2)) (pe_op op_mul pe_int (pv 2))) (pv 0)) pe_int))
      (pss_cons (ps_set (i := 4) sc_l_draws.nd rfl (.inl rfl) (pe_op op_mod (pe_op op_add (pe_op op_mul (pv 3) pe_int) (pv 2)) pe_int))
      (pss_one (ps_set (i := 0) sc_l_draws.nd rfl (.inl rfl) (pe_op op_add (pv 3) (pe_op op_mul pe_int (pe_op op_add (pv 4) (pe_op op_mul pe_int (pv 2)))))))))) (pss_one (ps_set (i := 0) sc_l_draws.nd rfl (.inl rfl) (pe_op op_sub (pv 0) (pe_op op_pow pe_int pe_int)))))
      (pss_cons (ps_set (i := 5) sc_l_draws.nd rfl (.inl rfl) (pe_lst pa_nil))
      (pss_cons (ps_for PassesOwn.never rfl (pi_list (pv 1)) (pg_name (i := 6) sc_l_draws.nd rfl (.inl rfl))
      (pss_cons (ps_expr (pe_bm PySem.F.plainAttrs_list PySem.F.slot_list_append PySem.F.type_list_append mt_append (pv 5) (pa_cons (pe_op op_mod (pv 0) (pv 6)) pa_nil)))
      (pss_one (ps_set (i := 0) sc_l_draws.nd rfl (.inl rfl) (pe_op op_fdivW (pv 0) (pv 6))))))
      (pss_one (ps_ret (pv 5)))))), ?_⟩
    refine seq_if (fun σ' H' => H' = H ∧ ∃ (c : Int) (x2 x3 x4 : Option V), σ' = [some (.int c), some (.ref a), x2, x3, x4, none, none]) (fun σ' H' p => ?_) (fun k => ?_)
    · obtain ⟨rfl, c, x2, x3, x4, rfl⟩ := p
      refine ⟨Nat.zero_le _, fun o no => ?_⟩
      refine ⟨_, rfl, a, rfl, ⟨_, (same_upd (T := T) no).seq hS⟩, for_list (K := K) (a := a) (xs := qs.map V.int)
        (fun i σ H3 => ∃ (c : Int) (x6 : Option V) (ds : List Int), σ = [some (.int c), some (.ref a), x2, x3, x4, some (.ref o), x6] ∧ Sm T H' H3 ∧ H3 o = some (.lst (ds.map V.int)) ∧ Drawn ds (qs.take i))
        ⟨c, none, [], rfl, same_upd no, upd_same, trivial⟩ (fun i σ H3 _ ⟨_, _, _, _, sm, _⟩ => sm.seq hS) ?_ ?_⟩
      · rintro i y σ H3 hi ⟨c, x6, ds, rfl, sm, eo, hd⟩
        rw [List.getElem?_map] at hi
        obtain ⟨qi, hq, rfl⟩ : ∃ qi, qs[i]? = some qi ∧ V.int qi = y := Option.map_eq_some_iff.mp hi
        have hqm := hpos qi (List.mem_of_getElem? hq)
        have hil : i < qs.length := (List.getElem?_eq_some_iff.mp hq).1
        refine ⟨_, rfl, .inl ⟨rfl, _, SqL.of eo⟩, _, rfl, _, rfl, _, _, rfl, rfl, hqm.1, o, _, _, rfl, rfl, eo, ?_, ?_⟩
        · rw [List.length_map, hd.length, List.length_take]
          exact szl (by omega)
        · refine ⟨_, rfl, _, rfl, _, _, rfl, rfl, wide_div hqm.1 hqm.2 (by decide) (by decide), ?_⟩
          refine ⟨_, _, ds ++ [c % qi], rfl, same_mut sm no eo, ?_, ?_⟩
          · rw [upd_same, List.map_append]
            rfl
          · rw [List.take_add_one, hq]
            exact hd.snoc (Int.emod_nonneg _ (by omega)) (Int.emod_lt_of_pos _ hqm.1)
      · rintro σ H3 ⟨c, x6, ds, rfl, sm, eo, hd⟩
        rw [List.length_map, List.take_length] at hd
        exact ⟨_, rfl, q o H3 ds sm no eo hd⟩
    · have b1 := Int.emod_nonneg (c * 48271 + 11) (show (2147483647 : Int) ≠ 0 by decide)
      have b2 := Int.emod_lt_of_pos (c * 48271 + 11) (show (0 : Int) < 2147483647 by decide)
      refine ⟨_, rfl, _, _, rfl, rfl, ⟨by decide, by decide, by decide⟩, _, _, rfl, rfl, _, rfl, ite2 (fun e => ?_) (fun e => ?_)⟩
      · refine ⟨_, rfl, _, _, rfl, rfl, .inr ⟨by decide, by decide⟩, _, _, rfl, rfl, _, _, rfl, rfl, (by show (0 : Int) < 2147483647; decide), ?_⟩
        refine ⟨_, rfl, _, rfl, _, _, rfl, rfl, .inl ⟨by omega, by omega⟩, ?_⟩
        refine ⟨_, rfl, _, _, rfl, rfl, .inl ⟨by decide, by decide⟩, _, _, rfl, rfl, _, rfl, _, _, rfl, rfl, _, _, rfl, rfl, (by show (0 : Int) < 2147483399; decide), ?_⟩
        refine ⟨_, rfl, _, _, rfl, rfl, .inr ⟨by decide, by decide⟩, _, rfl, _, _, rfl, rfl, _, _, rfl, rfl, (by show (0 : Int) < 1000000007; decide), ?_⟩
        refine ⟨_, rfl, _, rfl, _, rfl, _, _, rfl, rfl, .inl ⟨by decide, by decide⟩, _, _, rfl, rfl, _, _, rfl, rfl, .inl ⟨by decide, by decide⟩, _, _, rfl, rfl, ?_⟩
        exact k _ _ ⟨rfl, _, _, _, _, rfl⟩
      · refine ⟨_, rfl, _, _, rfl, rfl, ⟨by decide, by decide, by decide⟩, _, _, rfl, rfl, ?_⟩
        exact k _ _ ⟨rfl, _, _, _, _, rfl⟩

def sp_l_many (K : PySem.W.Frag) (T : Tb) : Sp := fun vs H Q _ => ∃ (a : Addr) (ns : List Int) (k : Int), vs = [.ref a, .int k] ∧ SqL K H a (ns.map V.int) ∧ 0 ≤ k ∧ k ≤ 63 ∧ ∀ m : Nat, m ≤ 63 → Q (.int m) H
theorem ok_l_many {f : Addr} {fd : FuncData} (F : Fun K "_law_many" "_law_many" s_l_many f fd) (B : Bn mg) : FnOk P w K mg base CX0 1 f fd ["_law_script", "_law_few"] (sp_l_many K T) := by
  refine F.ok sc_l_many (fun vs H Q E h => ?_) (fun cdv A outer s H vs Q E hr h => ?_)
  · obtain ⟨a, ns, k, rfl, _⟩ := h
    rfl
  · obtain ⟨a, ns, k, rfl, hS, h0, h1, q⟩ := h
    refine ⟨_, (pss_one (ps_ret (pe_callB (call_max2 rfl) (by rfl) B.max_ (by decide +kernel) (pa_cons (pv 1) (pa_cons (pe_callB (call_min2 rfl) (by rfl) B.min_ (by decide +kernel) (pa_cons (pe_callB call_len_seq (by rfl) B.len_ (by decide +kernel) (pa_cons (pv 0) pa_nil)) (pa_cons pe_int pa_nil))) pa_nil))))), ?_⟩
    refine ⟨_, rfl, _, rfl, a, _, rfl, .inl hS, _, _, rfl, _, _, rfl, ?_⟩
    rw [List.length_map]
    have e : ∃ m : Nat, m ≤ 63 ∧ (if (if (63 : Int) < (ns.length : Int) then 63 else (ns.length : Int)) > k then (if (63 : Int) < (ns.length : Int) then 63 else (ns.length : Int)) else k) = (m : Int) := by
      refine ⟨(if (if (63 : Int) < (ns.length : Int) then 63 else (ns.length : Int)) > k then (if (63 : Int) < (ns.length : Int) then 63 else (ns.length : Int)) else k).toNat, ?_, ?_⟩ <;> (split <;> (try split) <;> omega)
    obtain ⟨m, hm, em⟩ := e
    rw [em]
    exact q m hm

/-! ### chains in the heap -/
structure Ad where
  dx : Addr
  st : Addr
  nw : Addr
  rw : Addr
  ld : Addr
  sp : Addr
  tm : Addr
  lv : Addr
  lg : Addr
  mr : Addr
  pr : Addr
def FLD : List Str := ["fire", "stretches", "now", "row", "loads", "spots", "tempos", "leaving", "ledgers", "marks", "poured"]
def flds (L : Int) (A : Ad) : List (Str × V) := [("fire", .int L), ("stretches", .ref A.st), ("now", .ref A.nw), ("row", .ref A.rw), ("loads", .ref A.ld), ("spots", .ref A.sp), ("tempos", .ref A.tm), ("leaving", .ref A.lv), ("ledgers", .ref A.lg), ("marks", .ref A.mr), ("poured", .ref A.pr)]
theorem lookup_no {fs : List (Str × V)} {m : Str} (h : m ∉ fs.map (·.1)) : fs.lookup m = none := by
  induction fs with
  | nil => rfl
  | cons a l ih =>
    obtain ⟨k, v⟩ := a
    rw [List.map_cons, List.mem_cons, not_or] at h
    rw [List.lookup_cons]
    have e : (m == k) = false := by
      cases q : (m == k) with
      | false => rfl
      | true => exact absurd (eq_of_beq q) h.1
    rw [e]
    exact ih h.2
theorem fl_no {L : Int} {A : Ad} {m : Str} (h : m ∉ FLD) : (flds L A).lookup m = none := lookup_no h
theorem fl_fire {L : Int} {A : Ad} : (flds L A).lookup ("fire" : Str) = some (.int L) := rfl
theorem fl_st {L : Int} {A : Ad} : (flds L A).lookup ("stretches" : Str) = some (.ref A.st) := rfl
theorem fl_nw {L : Int} {A : Ad} : (flds L A).lookup ("now" : Str) = some (.ref A.nw) := rfl
theorem fl_rw {L : Int} {A : Ad} : (flds L A).lookup ("row" : Str) = some (.ref A.rw) := rfl
theorem fl_ld {L : Int} {A : Ad} : (flds L A).lookup ("loads" : Str) = some (.ref A.ld) := rfl
theorem fl_sp {L : Int} {A : Ad} : (flds L A).lookup ("spots" : Str) = some (.ref A.sp) := rfl
theorem fl_tm {L : Int} {A : Ad} : (flds L A).lookup ("tempos" : Str) = some (.ref A.tm) := rfl
theorem fl_lv {L : Int} {A : Ad} : (flds L A).lookup ("leaving" : Str) = some (.ref A.lv) := rfl
theorem fl_lg {L : Int} {A : Ad} : (flds L A).lookup ("ledgers" : Str) = some (.ref A.lg) := rfl
theorem fl_mk {L : Int} {A : Ad} : (flds L A).lookup ("marks" : Str) = some (.ref A.mr) := rfl
theorem fl_pr {L : Int} {A : Ad} : (flds L A).lookup ("poured" : Str) = some (.ref A.pr) := rfl
theorem pf_nw {L : Int} {A : Ad} {a : Addr} : putF "now" (.ref a) (flds L A) = flds L { A with nw := a } := rfl
theorem pf_rw {L : Int} {A : Ad} {a : Addr} : putF "row" (.ref a) (flds L A) = flds L { A with rw := a } := rfl
theorem pf_ld {L : Int} {A : Ad} {a : Addr} : putF "loads" (.ref a) (flds L A) = flds L { A with ld := a } := rfl
theorem pf_sp {L : Int} {A : Ad} {a : Addr} : putF "spots" (.ref a) (flds L A) = flds L { A with sp := a } := rfl
theorem pf_tm {L : Int} {A : Ad} {a : Addr} : putF "tempos" (.ref a) (flds L A) = flds L { A with tm := a } := rfl
theorem pf_lv {L : Int} {A : Ad} {a : Addr} : putF "leaving" (.ref a) (flds L A) = flds L { A with lv := a } := rfl
theorem pf_lg {L : Int} {A : Ad} {a : Addr} : putF "ledgers" (.ref a) (flds L A) = flds L { A with lg := a } := rfl
theorem pf_mk {L : Int} {A : Ad} {a : Addr} : putF "marks" (.ref a) (flds L A) = flds L { A with mr := a } := rfl
theorem pf_pr {L : Int} {A : Ad} {a : Addr} : putF "poured" (.ref a) (flds L A) = flds L { A with pr := a } := rfl
/-! ### what a deed leaves: all but the objects S -/
def imm : HO → Bool
  | .tup _ => true
  | .frz _ _ => true
  | .own _ => true
  | _ => false
def mutO : HO → Bool
  | .lst _ => true
  | .dK _ => true
  | .ins _ _ _ => true
  | _ => false
structure Sx (T : Tb) (S : List Addr) (H H' : Hp) : Prop where
  keep : ∀ b o, H b = some o → nTbl o → (imm o = true ∨ b ∉ S) → H' b = some o
  ok : Ok T H → Ok T H'
  free : ∀ l, H' l = none → H l = none
theorem Sm.sx {T : Tb} {S : List Addr} {H H' : Hp} (s : Sm T H H') : Sx T S H H' := ⟨fun b o e n _ => s.keep b o e n, s.ok, s.free⟩
theorem Sx.sm {T : Tb} {H H' : Hp} (s : Sx T [] H H') : Sm T H H' := ⟨fun b o e n => s.keep b o e n (.inr (by simp)), s.ok, s.free⟩
theorem Sx.refl {T : Tb} {S : List Addr} {H : Hp} : Sx T S H H := Sm.refl.sx
theorem Sx.trans {T : Tb} {S S2 : List Addr} {H H1 H2 : Hp} (a : Sx T S H H1) (b : Sx T S2 H1 H2) (h : ∀ x ∈ S2, x ∈ S ∨ H x = none) : Sx T S H H2 :=
  ⟨fun c o e n i => b.keep c o (a.keep c o e n i) n (i.imp id fun hc hc2 => (h c hc2).elim hc fun z => by rw [z] at e; cases e), fun k => b.ok (a.ok k), fun l k => a.free l (b.free l k)⟩
theorem Sx.step {T : Tb} {S : List Addr} {H H1 H2 : Hp} (a : Sx T S H H1) (b : Sx T S H1 H2) : Sx T S H H2 := a.trans b fun _ h => .inl h
theorem Sx.sm' {T : Tb} {S : List Addr} {H H1 H2 : Hp} (a : Sx T S H H1) (b : Sm T H1 H2) : Sx T S H H2 := a.trans (S2 := []) b.sx fun _ h => nomatch h
theorem Sx.mono {T : Tb} {S S2 : List Addr} {H H' : Hp} (a : Sx T S H H') (h : ∀ x ∈ S, x ∈ S2 ∨ H x = none) : Sx T S2 H H' := Sx.refl.trans a h
theorem okP_mut2 {H : Hp} {p : Addr × Option Str} {a : Addr} {o u : HO} (h : OkP H p) (ha : H a = some u) (hm : mutO u = true) : OkP (upd H a o) p := by
  have k : ∀ b v, H b = some v → mutO v = false → upd H a o b = some v := fun b v e n => by
    rw [upd_ne (fun z => by rw [z, ha] at e; cases e; rw [hm] at n; cases n)]
    exact e
  obtain ⟨Q, q⟩ := p
  cases q with
  | none =>
    obtain ⟨ps, h1, h2⟩ := (show GxR.TabG H Q from h)
    exact ⟨ps, k _ _ h1 rfl, h2⟩
  | some q =>
    obtain ⟨ps, h1, h2, h3⟩ := (show LamX.TabS H Q q from h)
    refine ⟨ps, k _ _ h1 rfl, h2, fun pos cv hc => ?_⟩
    obtain ⟨c, e1, e2⟩ := h3 pos cv hc
    exact ⟨c, e1, k _ _ e2 (by unfold LamX.CodeO; rfl)⟩
theorem sx_upd {T : Tb} {S : List Addr} {H : Hp} {a : Addr} {o u : HO} (ha : H a = some u) (hm : mutO u = true) (hS : a ∈ S) : Sx T S H (upd H a o) := by
  refine ⟨fun b v e _ i => ?_, fun hk q hq => okP_mut2 (hk q hq) ha hm, fun l hl => ?_⟩
  · rw [upd_ne]
    · exact e
    · rintro rfl
      rcases i with i | i
      · rw [e] at ha
        cases ha
        cases u <;> simp_all [mutO, imm]
      · exact i hS
  · by_cases z : l = a
    · rw [z, upd_same] at hl; cases hl
    · rw [upd_ne z] at hl; exact hl
theorem Sx.tup {T : Tb} {S : List Addr} {K : PySem.W.Frag} {H H' : Hp} {a : Addr} {xs : List V} (e : Sx T S H H') (h : SqT K H a xs) : SqT K H' a xs := by
  rcases h with (h | ⟨o, h⟩) | h
  · exact .inl (.inl (e.keep _ _ h trivial (.inl rfl)))
  · exact .inl (.inr ⟨o, e.keep _ _ h trivial (.inl rfl)⟩)
  · exact .inr h
theorem Sx.lst {T : Tb} {S : List Addr} {H H' : Hp} {a : Addr} {xs : List V} (e : Sx T S H H') (h : H a = some (.lst xs)) (ha : a ∉ S) : H' a = some (.lst xs) := e.keep _ _ h trivial (.inr ha)
theorem Sx.seq {T : Tb} {S : List Addr} {K : PySem.W.Frag} {H H' : Hp} {a : Addr} {xs : List V} (e : Sx T S H H') (h : SqL K H a xs) (ha : a ∉ S) : SqL K H' a xs := by
  rcases h with (h | ⟨o, h⟩) | h
  · exact .inl (.inl (e.keep _ _ h trivial (.inr ha)))
  · exact .inl (.inr ⟨o, e.keep _ _ h trivial (.inl rfl)⟩)
  · exact .inr h
mutual
theorem Sx.dp {T : Tb} {S : List Addr} {K : PySem.W.Frag} {H H' : Hp} (e : Sx T S H H') : ∀ (n : Nat) (d : PyData) (v : V), noL n d = true → Dp K H v d → Dp K H' v d
  | _, .none, _, _, h => by cases h; exact .non
  | _, .bool b, _, _, h => by cases h; exact .bl b
  | _, .int i, _, _, h => by cases h; exact .int i
  | _, .str x, _, _, h => by cases h; exact .str x
  | 0, .tuple _, _, z, _ => by cases z
  | n + 1, .tuple ds, _, z, h => by
    cases h with
    | tup hs hall => exact .tup (e.tup hs) (Sx.dps e n ds _ z hall)
  | 0, .list _, _, z, _ => by cases z
  | _ + 1, .list _, _, z, _ => by cases z
  | 0, .dict _, _, z, _ => by cases z
  | _ + 1, .dict _, _, z, _ => by cases z
theorem Sx.dps {T : Tb} {S : List Addr} {K : PySem.W.Frag} {H H' : Hp} (e : Sx T S H H') : ∀ (n : Nat) (ds : List PyData) (vs : List V), ds.all (noL n) = true → DpAll K H vs ds → DpAll K H' vs ds
  | _, [], _, _, h => by cases h; exact .nil
  | n, d :: ds, _, z, h => by
    cases h with
    | cons h1 h2 =>
      rw [List.all_cons, Bool.and_eq_true] at z
      exact .cons (Sx.dp e n d _ z.1 h1) (Sx.dps e n ds _ z.2 h2)
end
/-! ### a chain, as it stands -/
structure Ch where
  fire : Int
  way : List Am
  now : Rat
  row : List Str
  loads : List Int
  spots : List Rat
  tempos : List (Str × Int)
  leaving : List Str
  ledgers : List (Str × (Rat × Rat × Rat))
  marks : List (List (Str × Rat))
  poured : List Int
def tmV (l : List (Str × Int)) : List (L2.Key × V) := l.map fun x => (Sum.inr x.1, V.int x.2)
def ledD (x : Rat × Rat × Rat) : PyData := .tuple [amD (am x.1), amD (am x.2.1), amD (am x.2.2)]
def mkD (l : List (Str × Rat)) : PyData := .tuple (l.map fun x => .tuple [.str x.1, amD (am x.2)])
def LedL (K : PySem.W.Frag) (H : Hp) (kvs : List (L2.Key × V)) (l : List (Str × (Rat × Rat × Rat))) : Prop := kvs.map (·.1) = l.map (fun x => (Sum.inr x.1 : L2.Key)) ∧ DpAll K H (kvs.map (·.2)) (l.map fun x => ledD x.2)
def ownC (c : Addr) (A : Ad) : List Addr := [c, A.rw, A.ld, A.sp, A.tm, A.lv, A.lg, A.mr, A.pr]
structure ChAt (K : PySem.W.Frag) (C : Addr) (H : Hp) (c : Addr) (A : Ad) (s : Ch) : Prop where
  ins : H c = some (.ins C A.dx (flds s.fire A))
  own : H A.dx = some (.own c)
  st : ∃ us, SqT K H A.st us ∧ DpAll K H us (s.way.map amD)
  nw : SqT K H A.nw (tv (am s.now))
  rw : H A.rw = some (.lst (s.row.map V.str))
  ld : H A.ld = some (.lst (s.loads.map V.int))
  sp : ∃ us, H A.sp = some (.lst us) ∧ AmL K H us s.spots
  tm : H A.tm = some (.dK (tmV s.tempos))
  lv : H A.lv = some (.lst (s.leaving.map V.str))
  lg : ∃ kvs, H A.lg = some (.dK kvs) ∧ LedL K H kvs s.ledgers
  mr : ∃ us, H A.mr = some (.lst us) ∧ DpAll K H us (s.marks.map mkD)
  pr : H A.pr = some (.lst (s.poured.map V.int))
  nd : (ownC c A).Nodup
theorem noL_ams (rs : List Rat) : ((rs.map am).map amD).all (noL 3) = true := by
  rw [List.all_map]
  exact List.all_eq_true.mpr fun _ _ => rfl
theorem noL_way (qs : List Am) : (qs.map amD).all (noL 3) = true := by
  rw [List.all_map]
  exact List.all_eq_true.mpr fun _ _ => rfl
theorem noL_led (l : List (Str × (Rat × Rat × Rat))) : (l.map fun x => ledD x.2).all (noL 3) = true := by
  rw [List.all_map]
  exact List.all_eq_true.mpr fun _ _ => rfl
theorem noL_mk (l : List (Str × Rat)) : noL 4 (mkD l) = true := by
  show (l.map fun x => PyData.tuple [.str x.1, amD (am x.2)]).all (noL 3) = true
  rw [List.all_map]
  exact List.all_eq_true.mpr fun _ _ => rfl
theorem noL_mks (l : List (List (Str × Rat))) : (l.map mkD).all (noL 4) = true := by
  rw [List.all_map]
  exact List.all_eq_true.mpr fun x _ => noL_mk x
theorem Sx.ams {T : Tb} {S : List Addr} {K : PySem.W.Frag} {H H' : Hp} {us : List V} {rs : List Rat} (e : Sx T S H H') (h : AmL K H us rs) : AmL K H' us rs := e.dps 3 _ _ (noL_ams rs) h
theorem Sx.led {T : Tb} {S : List Addr} {K : PySem.W.Frag} {H H' : Hp} {kvs : List (L2.Key × V)} {l : List (Str × (Rat × Rat × Rat))} (e : Sx T S H H') (h : LedL K H kvs l) : LedL K H' kvs l := ⟨h.1, e.dps 3 _ _ (noL_led l) h.2⟩
theorem Sx.mks {T : Tb} {S : List Addr} {K : PySem.W.Frag} {H H' : Hp} {us : List V} {l : List (List (Str × Rat))} (e : Sx T S H H') (h : DpAll K H us (l.map mkD)) : DpAll K H' us (l.map mkD) := e.dps 4 _ _ (noL_mks l) h
theorem nd_set {l : List Addr} (h : l.Nodup) {i : Nat} {x y : Addr} (hi : l[i]? = some x) (hy : y ∉ l) : (l.set i y).Nodup := by
  rw [List.nodup_iff_pairwise_ne, List.pairwise_iff_getElem] at *
  intro a b ha hb hab
  rw [List.length_set] at ha hb
  rw [List.getElem_set, List.getElem_set]
  split
  · split
    · omega
    · intro z; exact hy (by rw [z]; exact List.getElem_mem _)
  · split
    · intro z; exact hy (by rw [← z]; exact List.getElem_mem _)
    · exact h a b ha hb hab
section
variable {K : PySem.W.Frag} {T : Tb} {C : Addr} {H H' : Hp} {c : Addr} {A : Ad} {s : Ch} {S : List Addr}
/-- a chain stays where others are changed -/
theorem ChAt.sx (h : ChAt K C H c A s) (e : Sx T S H H') (hd : ∀ x ∈ ownC c A, x ∉ S) : ChAt K C H' c A s := by
  have m : ∀ x, x ∈ ownC c A → ∀ o, H x = some o → nTbl o → H' x = some o := fun x hx o ho n => e.keep x o ho n (.inr (hd x hx))
  obtain ⟨us, s1, s2⟩ := h.st
  obtain ⟨ps, p1, p2⟩ := h.sp
  obtain ⟨kv, k1, k2⟩ := h.lg
  obtain ⟨ms, m1, m2⟩ := h.mr
  exact ⟨m _ (by simp [ownC]) _ h.ins trivial, e.keep _ _ h.own trivial (.inl rfl), ⟨us, e.tup s1, e.dps 3 _ _ (noL_way _) s2⟩, e.tup h.nw, m _ (by simp [ownC]) _ h.rw trivial, m _ (by simp [ownC]) _ h.ld trivial, ⟨ps, m _ (by simp [ownC]) _ p1 trivial, e.ams p2⟩,
    m _ (by simp [ownC]) _ h.tm trivial, m _ (by simp [ownC]) _ h.lv trivial, ⟨kv, m _ (by simp [ownC]) _ k1 trivial, e.led k2⟩, ⟨ms, m _ (by simp [ownC]) _ m1 trivial, e.mks m2⟩, m _ (by simp [ownC]) _ h.pr trivial, h.nd⟩
theorem ChAt.sm (h : ChAt K C H c A s) (e : Sm T H H') : ChAt K C H' c A s := h.sx (S := []) e.sx fun _ _ => by simp
theorem ChAt.ne (h : ChAt K C H c A s) {i j : Nat} {x y : Addr} (hi : (ownC c A)[i]? = some x) (hj : (ownC c A)[j]? = some y) (hij : i ≠ j) : x ∉ [y] := fun z => by
  rw [List.mem_singleton.mp z] at hi
  exact hij (nd_ix h.nd hi hj)
theorem ChAt.set_rw (h : ChAt K C H c A s) (r : List Str) : ChAt K C (upd H A.rw (.lst (r.map V.str))) c A { s with row := r } := by
  obtain ⟨us0, s1, s2⟩ := h.st
  obtain ⟨ps, p1, p2⟩ := h.sp
  obtain ⟨kv, k1, k2⟩ := h.lg
  obtain ⟨ms, m1, m2⟩ := h.mr
  have e : Sx [] [A.rw] H (upd H A.rw (.lst (r.map V.str))) := sx_upd h.rw rfl List.mem_cons_self
  exact ⟨e.keep _ _ h.ins trivial (.inr (h.ne (i := 0) (j := 1) rfl rfl (by decide))), e.keep _ _ h.own trivial (.inl rfl), ⟨us0, e.tup s1, e.dps 3 _ _ (noL_way _) s2⟩, e.tup h.nw, upd_same, e.keep _ _ h.ld trivial (.inr (h.ne (i := 2) (j := 1) rfl rfl (by decide))), ⟨ps, e.keep _ _ p1 trivial (.inr (h.ne (i := 3) (j := 1) rfl rfl (by decide))), e.ams p2⟩, e.keep _ _ h.tm trivial (.inr (h.ne (i := 4) (j := 1) rfl rfl (by decide))), e.keep _ _ h.lv trivial (.inr (h.ne (i := 5) (j := 1) rfl rfl (by decide))), ⟨kv, e.keep _ _ k1 trivial (.inr (h.ne (i := 6) (j := 1) rfl rfl (by decide))), e.led k2⟩, ⟨ms, e.keep _ _ m1 trivial (.inr (h.ne (i := 7) (j := 1) rfl rfl (by decide))), e.mks m2⟩, e.keep _ _ h.pr trivial (.inr (h.ne (i := 8) (j := 1) rfl rfl (by decide))), h.nd⟩
theorem ChAt.set_ld (h : ChAt K C H c A s) (r : List Int) : ChAt K C (upd H A.ld (.lst (r.map V.int))) c A { s with loads := r } := by
  obtain ⟨us0, s1, s2⟩ := h.st
  obtain ⟨ps, p1, p2⟩ := h.sp
  obtain ⟨kv, k1, k2⟩ := h.lg
  obtain ⟨ms, m1, m2⟩ := h.mr
  have e : Sx [] [A.ld] H (upd H A.ld (.lst (r.map V.int))) := sx_upd h.ld rfl List.mem_cons_self
  exact ⟨e.keep _ _ h.ins trivial (.inr (h.ne (i := 0) (j := 2) rfl rfl (by decide))), e.keep _ _ h.own trivial (.inl rfl), ⟨us0, e.tup s1, e.dps 3 _ _ (noL_way _) s2⟩, e.tup h.nw, e.keep _ _ h.rw trivial (.inr (h.ne (i := 1) (j := 2) rfl rfl (by decide))), upd_same, ⟨ps, e.keep _ _ p1 trivial (.inr (h.ne (i := 3) (j := 2) rfl rfl (by decide))), e.ams p2⟩, e.keep _ _ h.tm trivial (.inr (h.ne (i := 4) (j := 2) rfl rfl (by decide))), e.keep _ _ h.lv trivial (.inr (h.ne (i := 5) (j := 2) rfl rfl (by decide))), ⟨kv, e.keep _ _ k1 trivial (.inr (h.ne (i := 6) (j := 2) rfl rfl (by decide))), e.led k2⟩, ⟨ms, e.keep _ _ m1 trivial (.inr (h.ne (i := 7) (j := 2) rfl rfl (by decide))), e.mks m2⟩, e.keep _ _ h.pr trivial (.inr (h.ne (i := 8) (j := 2) rfl rfl (by decide))), h.nd⟩
theorem ChAt.set_sp (h : ChAt K C H c A s) {us : List V} {r : List Rat} (hu : AmL K H us r) : ChAt K C (upd H A.sp (.lst us)) c A { s with spots := r } := by
  obtain ⟨us0, s1, s2⟩ := h.st
  obtain ⟨ps, p1, p2⟩ := h.sp
  obtain ⟨kv, k1, k2⟩ := h.lg
  obtain ⟨ms, m1, m2⟩ := h.mr
  have e : Sx [] [A.sp] H (upd H A.sp (.lst us)) := sx_upd p1 rfl List.mem_cons_self
  exact ⟨e.keep _ _ h.ins trivial (.inr (h.ne (i := 0) (j := 3) rfl rfl (by decide))), e.keep _ _ h.own trivial (.inl rfl), ⟨us0, e.tup s1, e.dps 3 _ _ (noL_way _) s2⟩, e.tup h.nw, e.keep _ _ h.rw trivial (.inr (h.ne (i := 1) (j := 3) rfl rfl (by decide))), e.keep _ _ h.ld trivial (.inr (h.ne (i := 2) (j := 3) rfl rfl (by decide))), ⟨us, upd_same, e.ams hu⟩, e.keep _ _ h.tm trivial (.inr (h.ne (i := 4) (j := 3) rfl rfl (by decide))), e.keep _ _ h.lv trivial (.inr (h.ne (i := 5) (j := 3) rfl rfl (by decide))), ⟨kv, e.keep _ _ k1 trivial (.inr (h.ne (i := 6) (j := 3) rfl rfl (by decide))), e.led k2⟩, ⟨ms, e.keep _ _ m1 trivial (.inr (h.ne (i := 7) (j := 3) rfl rfl (by decide))), e.mks m2⟩, e.keep _ _ h.pr trivial (.inr (h.ne (i := 8) (j := 3) rfl rfl (by decide))), h.nd⟩
theorem ChAt.set_tm (h : ChAt K C H c A s) (r : List (Str × Int)) : ChAt K C (upd H A.tm (.dK (tmV r))) c A { s with tempos := r } := by
  obtain ⟨us0, s1, s2⟩ := h.st
  obtain ⟨ps, p1, p2⟩ := h.sp
  obtain ⟨kv, k1, k2⟩ := h.lg
  obtain ⟨ms, m1, m2⟩ := h.mr
  have e : Sx [] [A.tm] H (upd H A.tm (.dK (tmV r))) := sx_upd h.tm rfl List.mem_cons_self
  exact ⟨e.keep _ _ h.ins trivial (.inr (h.ne (i := 0) (j := 4) rfl rfl (by decide))), e.keep _ _ h.own trivial (.inl rfl), ⟨us0, e.tup s1, e.dps 3 _ _ (noL_way _) s2⟩, e.tup h.nw, e.keep _ _ h.rw trivial (.inr (h.ne (i := 1) (j := 4) rfl rfl (by decide))), e.keep _ _ h.ld trivial (.inr (h.ne (i := 2) (j := 4) rfl rfl (by decide))), ⟨ps, e.keep _ _ p1 trivial (.inr (h.ne (i := 3) (j := 4) rfl rfl (by decide))), e.ams p2⟩, upd_same, e.keep _ _ h.lv trivial (.inr (h.ne (i := 5) (j := 4) rfl rfl (by decide))), ⟨kv, e.keep _ _ k1 trivial (.inr (h.ne (i := 6) (j := 4) rfl rfl (by decide))), e.led k2⟩, ⟨ms, e.keep _ _ m1 trivial (.inr (h.ne (i := 7) (j := 4) rfl rfl (by decide))), e.mks m2⟩, e.keep _ _ h.pr trivial (.inr (h.ne (i := 8) (j := 4) rfl rfl (by decide))), h.nd⟩
theorem ChAt.set_lv (h : ChAt K C H c A s) (r : List Str) : ChAt K C (upd H A.lv (.lst (r.map V.str))) c A { s with leaving := r } := by
  obtain ⟨us0, s1, s2⟩ := h.st
  obtain ⟨ps, p1, p2⟩ := h.sp
  obtain ⟨kv, k1, k2⟩ := h.lg
  obtain ⟨ms, m1, m2⟩ := h.mr
  have e : Sx [] [A.lv] H (upd H A.lv (.lst (r.map V.str))) := sx_upd h.lv rfl List.mem_cons_self
  exact ⟨e.keep _ _ h.ins trivial (.inr (h.ne (i := 0) (j := 5) rfl rfl (by decide))), e.keep _ _ h.own trivial (.inl rfl), ⟨us0, e.tup s1, e.dps 3 _ _ (noL_way _) s2⟩, e.tup h.nw, e.keep _ _ h.rw trivial (.inr (h.ne (i := 1) (j := 5) rfl rfl (by decide))), e.keep _ _ h.ld trivial (.inr (h.ne (i := 2) (j := 5) rfl rfl (by decide))), ⟨ps, e.keep _ _ p1 trivial (.inr (h.ne (i := 3) (j := 5) rfl rfl (by decide))), e.ams p2⟩, e.keep _ _ h.tm trivial (.inr (h.ne (i := 4) (j := 5) rfl rfl (by decide))), upd_same, ⟨kv, e.keep _ _ k1 trivial (.inr (h.ne (i := 6) (j := 5) rfl rfl (by decide))), e.led k2⟩, ⟨ms, e.keep _ _ m1 trivial (.inr (h.ne (i := 7) (j := 5) rfl rfl (by decide))), e.mks m2⟩, e.keep _ _ h.pr trivial (.inr (h.ne (i := 8) (j := 5) rfl rfl (by decide))), h.nd⟩
theorem ChAt.set_lg (h : ChAt K C H c A s) {kvs : List (L2.Key × V)} {r : List (Str × (Rat × Rat × Rat))} (hu : LedL K H kvs r) : ChAt K C (upd H A.lg (.dK kvs)) c A { s with ledgers := r } := by
  obtain ⟨us0, s1, s2⟩ := h.st
  obtain ⟨ps, p1, p2⟩ := h.sp
  obtain ⟨kv, k1, k2⟩ := h.lg
  obtain ⟨ms, m1, m2⟩ := h.mr
  have e : Sx [] [A.lg] H (upd H A.lg (.dK kvs)) := sx_upd k1 rfl List.mem_cons_self
  exact ⟨e.keep _ _ h.ins trivial (.inr (h.ne (i := 0) (j := 6) rfl rfl (by decide))), e.keep _ _ h.own trivial (.inl rfl), ⟨us0, e.tup s1, e.dps 3 _ _ (noL_way _) s2⟩, e.tup h.nw, e.keep _ _ h.rw trivial (.inr (h.ne (i := 1) (j := 6) rfl rfl (by decide))), e.keep _ _ h.ld trivial (.inr (h.ne (i := 2) (j := 6) rfl rfl (by decide))), ⟨ps, e.keep _ _ p1 trivial (.inr (h.ne (i := 3) (j := 6) rfl rfl (by decide))), e.ams p2⟩, e.keep _ _ h.tm trivial (.inr (h.ne (i := 4) (j := 6) rfl rfl (by decide))), e.keep _ _ h.lv trivial (.inr (h.ne (i := 5) (j := 6) rfl rfl (by decide))), ⟨kvs, upd_same, e.led hu⟩, ⟨ms, e.keep _ _ m1 trivial (.inr (h.ne (i := 7) (j := 6) rfl rfl (by decide))), e.mks m2⟩, e.keep _ _ h.pr trivial (.inr (h.ne (i := 8) (j := 6) rfl rfl (by decide))), h.nd⟩
theorem ChAt.set_mr (h : ChAt K C H c A s) {us : List V} {r : List (List (Str × Rat))} (hu : DpAll K H us (r.map mkD)) : ChAt K C (upd H A.mr (.lst us)) c A { s with marks := r } := by
  obtain ⟨us0, s1, s2⟩ := h.st
  obtain ⟨ps, p1, p2⟩ := h.sp
  obtain ⟨kv, k1, k2⟩ := h.lg
  obtain ⟨ms, m1, m2⟩ := h.mr
  have e : Sx [] [A.mr] H (upd H A.mr (.lst us)) := sx_upd m1 rfl List.mem_cons_self
  exact ⟨e.keep _ _ h.ins trivial (.inr (h.ne (i := 0) (j := 7) rfl rfl (by decide))), e.keep _ _ h.own trivial (.inl rfl), ⟨us0, e.tup s1, e.dps 3 _ _ (noL_way _) s2⟩, e.tup h.nw, e.keep _ _ h.rw trivial (.inr (h.ne (i := 1) (j := 7) rfl rfl (by decide))), e.keep _ _ h.ld trivial (.inr (h.ne (i := 2) (j := 7) rfl rfl (by decide))), ⟨ps, e.keep _ _ p1 trivial (.inr (h.ne (i := 3) (j := 7) rfl rfl (by decide))), e.ams p2⟩, e.keep _ _ h.tm trivial (.inr (h.ne (i := 4) (j := 7) rfl rfl (by decide))), e.keep _ _ h.lv trivial (.inr (h.ne (i := 5) (j := 7) rfl rfl (by decide))), ⟨kv, e.keep _ _ k1 trivial (.inr (h.ne (i := 6) (j := 7) rfl rfl (by decide))), e.led k2⟩, ⟨us, upd_same, e.mks hu⟩, e.keep _ _ h.pr trivial (.inr (h.ne (i := 8) (j := 7) rfl rfl (by decide))), h.nd⟩
theorem ChAt.set_pr (h : ChAt K C H c A s) (r : List Int) : ChAt K C (upd H A.pr (.lst (r.map V.int))) c A { s with poured := r } := by
  obtain ⟨us0, s1, s2⟩ := h.st
  obtain ⟨ps, p1, p2⟩ := h.sp
  obtain ⟨kv, k1, k2⟩ := h.lg
  obtain ⟨ms, m1, m2⟩ := h.mr
  have e : Sx [] [A.pr] H (upd H A.pr (.lst (r.map V.int))) := sx_upd h.pr rfl List.mem_cons_self
  exact ⟨e.keep _ _ h.ins trivial (.inr (h.ne (i := 0) (j := 8) rfl rfl (by decide))), e.keep _ _ h.own trivial (.inl rfl), ⟨us0, e.tup s1, e.dps 3 _ _ (noL_way _) s2⟩, e.tup h.nw, e.keep _ _ h.rw trivial (.inr (h.ne (i := 1) (j := 8) rfl rfl (by decide))), e.keep _ _ h.ld trivial (.inr (h.ne (i := 2) (j := 8) rfl rfl (by decide))), ⟨ps, e.keep _ _ p1 trivial (.inr (h.ne (i := 3) (j := 8) rfl rfl (by decide))), e.ams p2⟩, e.keep _ _ h.tm trivial (.inr (h.ne (i := 4) (j := 8) rfl rfl (by decide))), e.keep _ _ h.lv trivial (.inr (h.ne (i := 5) (j := 8) rfl rfl (by decide))), ⟨kv, e.keep _ _ k1 trivial (.inr (h.ne (i := 6) (j := 8) rfl rfl (by decide))), e.led k2⟩, ⟨ms, e.keep _ _ m1 trivial (.inr (h.ne (i := 7) (j := 8) rfl rfl (by decide))), e.mks m2⟩, upd_same, h.nd⟩
theorem ChAt.re_nw (h : ChAt K C H c A s) {n : Addr} {t : Rat} (hn : SqT K H n (tv (am t))) : ChAt K C (upd H c (.ins C A.dx (flds s.fire { A with nw := n }))) c { A with nw := n } { s with now := t } := by
  obtain ⟨us0, s1, s2⟩ := h.st
  obtain ⟨ps, p1, p2⟩ := h.sp
  obtain ⟨kv, k1, k2⟩ := h.lg
  obtain ⟨ms, m1, m2⟩ := h.mr
  have e : Sx [] [c] H (upd H c (.ins C A.dx (flds s.fire { A with nw := n }))) := sx_upd h.ins rfl List.mem_cons_self
  exact ⟨upd_same, e.keep _ _ h.own trivial (.inl rfl), ⟨us0, e.tup s1, e.dps 3 _ _ (noL_way _) s2⟩, e.tup hn, e.keep _ _ h.rw trivial (.inr (h.ne (i := 1) (j := 0) rfl rfl (by decide))), e.keep _ _ h.ld trivial (.inr (h.ne (i := 2) (j := 0) rfl rfl (by decide))), ⟨ps, e.keep _ _ p1 trivial (.inr (h.ne (i := 3) (j := 0) rfl rfl (by decide))), e.ams p2⟩, e.keep _ _ h.tm trivial (.inr (h.ne (i := 4) (j := 0) rfl rfl (by decide))), e.keep _ _ h.lv trivial (.inr (h.ne (i := 5) (j := 0) rfl rfl (by decide))), ⟨kv, e.keep _ _ k1 trivial (.inr (h.ne (i := 6) (j := 0) rfl rfl (by decide))), e.led k2⟩, ⟨ms, e.keep _ _ m1 trivial (.inr (h.ne (i := 7) (j := 0) rfl rfl (by decide))), e.mks m2⟩, e.keep _ _ h.pr trivial (.inr (h.ne (i := 8) (j := 0) rfl rfl (by decide))), h.nd⟩
theorem ChAt.re_rw (h : ChAt K C H c A s) {n : Addr} {r : List Str} (hn : H n = some (.lst (r.map V.str))) (np : n ∉ ownC c A) : ChAt K C (upd H c (.ins C A.dx (flds s.fire { A with rw := n }))) c { A with rw := n } { s with row := r } := by
  obtain ⟨us0, s1, s2⟩ := h.st
  obtain ⟨ps, p1, p2⟩ := h.sp
  obtain ⟨kv, k1, k2⟩ := h.lg
  obtain ⟨ms, m1, m2⟩ := h.mr
  have e : Sx [] [c] H (upd H c (.ins C A.dx (flds s.fire { A with rw := n }))) := sx_upd h.ins rfl List.mem_cons_self
  exact ⟨upd_same, e.keep _ _ h.own trivial (.inl rfl), ⟨us0, e.tup s1, e.dps 3 _ _ (noL_way _) s2⟩, e.tup h.nw, e.keep _ _ hn trivial (.inr (fun z => np (by have e : n = c := List.mem_singleton.mp z; rw [e]; exact List.mem_cons_self))), e.keep _ _ h.ld trivial (.inr (h.ne (i := 2) (j := 0) rfl rfl (by decide))), ⟨ps, e.keep _ _ p1 trivial (.inr (h.ne (i := 3) (j := 0) rfl rfl (by decide))), e.ams p2⟩, e.keep _ _ h.tm trivial (.inr (h.ne (i := 4) (j := 0) rfl rfl (by decide))), e.keep _ _ h.lv trivial (.inr (h.ne (i := 5) (j := 0) rfl rfl (by decide))), ⟨kv, e.keep _ _ k1 trivial (.inr (h.ne (i := 6) (j := 0) rfl rfl (by decide))), e.led k2⟩, ⟨ms, e.keep _ _ m1 trivial (.inr (h.ne (i := 7) (j := 0) rfl rfl (by decide))), e.mks m2⟩, e.keep _ _ h.pr trivial (.inr (h.ne (i := 8) (j := 0) rfl rfl (by decide))), nd_set h.nd (i := 1) rfl np⟩
theorem ChAt.re_ld (h : ChAt K C H c A s) {n : Addr} {r : List Int} (hn : H n = some (.lst (r.map V.int))) (np : n ∉ ownC c A) : ChAt K C (upd H c (.ins C A.dx (flds s.fire { A with ld := n }))) c { A with ld := n } { s with loads := r } := by
  obtain ⟨us0, s1, s2⟩ := h.st
  obtain ⟨ps, p1, p2⟩ := h.sp
  obtain ⟨kv, k1, k2⟩ := h.lg
  obtain ⟨ms, m1, m2⟩ := h.mr
  have e : Sx [] [c] H (upd H c (.ins C A.dx (flds s.fire { A with ld := n }))) := sx_upd h.ins rfl List.mem_cons_self
  exact ⟨upd_same, e.keep _ _ h.own trivial (.inl rfl), ⟨us0, e.tup s1, e.dps 3 _ _ (noL_way _) s2⟩, e.tup h.nw, e.keep _ _ h.rw trivial (.inr (h.ne (i := 1) (j := 0) rfl rfl (by decide))), e.keep _ _ hn trivial (.inr (fun z => np (by have e : n = c := List.mem_singleton.mp z; rw [e]; exact List.mem_cons_self))), ⟨ps, e.keep _ _ p1 trivial (.inr (h.ne (i := 3) (j := 0) rfl rfl (by decide))), e.ams p2⟩, e.keep _ _ h.tm trivial (.inr (h.ne (i := 4) (j := 0) rfl rfl (by decide))), e.keep _ _ h.lv trivial (.inr (h.ne (i := 5) (j := 0) rfl rfl (by decide))), ⟨kv, e.keep _ _ k1 trivial (.inr (h.ne (i := 6) (j := 0) rfl rfl (by decide))), e.led k2⟩, ⟨ms, e.keep _ _ m1 trivial (.inr (h.ne (i := 7) (j := 0) rfl rfl (by decide))), e.mks m2⟩, e.keep _ _ h.pr trivial (.inr (h.ne (i := 8) (j := 0) rfl rfl (by decide))), nd_set h.nd (i := 2) rfl np⟩
theorem ChAt.re_sp (h : ChAt K C H c A s) {n : Addr} {us : List V} {r : List Rat} (hn : H n = some (.lst us)) (hu : AmL K H us r) (np : n ∉ ownC c A) : ChAt K C (upd H c (.ins C A.dx (flds s.fire { A with sp := n }))) c { A with sp := n } { s with spots := r } := by
  obtain ⟨us0, s1, s2⟩ := h.st
  obtain ⟨ps, p1, p2⟩ := h.sp
  obtain ⟨kv, k1, k2⟩ := h.lg
  obtain ⟨ms, m1, m2⟩ := h.mr
  have e : Sx [] [c] H (upd H c (.ins C A.dx (flds s.fire { A with sp := n }))) := sx_upd h.ins rfl List.mem_cons_self
  exact ⟨upd_same, e.keep _ _ h.own trivial (.inl rfl), ⟨us0, e.tup s1, e.dps 3 _ _ (noL_way _) s2⟩, e.tup h.nw, e.keep _ _ h.rw trivial (.inr (h.ne (i := 1) (j := 0) rfl rfl (by decide))), e.keep _ _ h.ld trivial (.inr (h.ne (i := 2) (j := 0) rfl rfl (by decide))), ⟨us, e.keep _ _ hn trivial (.inr (fun z => np (by have e : n = c := List.mem_singleton.mp z; rw [e]; exact List.mem_cons_self))), e.ams hu⟩, e.keep _ _ h.tm trivial (.inr (h.ne (i := 4) (j := 0) rfl rfl (by decide))), e.keep _ _ h.lv trivial (.inr (h.ne (i := 5) (j := 0) rfl rfl (by decide))), ⟨kv, e.keep _ _ k1 trivial (.inr (h.ne (i := 6) (j := 0) rfl rfl (by decide))), e.led k2⟩, ⟨ms, e.keep _ _ m1 trivial (.inr (h.ne (i := 7) (j := 0) rfl rfl (by decide))), e.mks m2⟩, e.keep _ _ h.pr trivial (.inr (h.ne (i := 8) (j := 0) rfl rfl (by decide))), nd_set h.nd (i := 3) rfl np⟩
theorem ChAt.re_tm (h : ChAt K C H c A s) {n : Addr} {r : List (Str × Int)} (hn : H n = some (.dK (tmV r))) (np : n ∉ ownC c A) : ChAt K C (upd H c (.ins C A.dx (flds s.fire { A with tm := n }))) c { A with tm := n } { s with tempos := r } := by
  obtain ⟨us0, s1, s2⟩ := h.st
  obtain ⟨ps, p1, p2⟩ := h.sp
  obtain ⟨kv, k1, k2⟩ := h.lg
  obtain ⟨ms, m1, m2⟩ := h.mr
  have e : Sx [] [c] H (upd H c (.ins C A.dx (flds s.fire { A with tm := n }))) := sx_upd h.ins rfl List.mem_cons_self
  exact ⟨upd_same, e.keep _ _ h.own trivial (.inl rfl), ⟨us0, e.tup s1, e.dps 3 _ _ (noL_way _) s2⟩, e.tup h.nw, e.keep _ _ h.rw trivial (.inr (h.ne (i := 1) (j := 0) rfl rfl (by decide))), e.keep _ _ h.ld trivial (.inr (h.ne (i := 2) (j := 0) rfl rfl (by decide))), ⟨ps, e.keep _ _ p1 trivial (.inr (h.ne (i := 3) (j := 0) rfl rfl (by decide))), e.ams p2⟩, e.keep _ _ hn trivial (.inr (fun z => np (by have e : n = c := List.mem_singleton.mp z; rw [e]; exact List.mem_cons_self))), e.keep _ _ h.lv trivial (.inr (h.ne (i := 5) (j := 0) rfl rfl (by decide))), ⟨kv, e.keep _ _ k1 trivial (.inr (h.ne (i := 6) (j := 0) rfl rfl (by decide))), e.led k2⟩, ⟨ms, e.keep _ _ m1 trivial (.inr (h.ne (i := 7) (j := 0) rfl rfl (by decide))), e.mks m2⟩, e.keep _ _ h.pr trivial (.inr (h.ne (i := 8) (j := 0) rfl rfl (by decide))), nd_set h.nd (i := 4) rfl np⟩
theorem ChAt.re_lv (h : ChAt K C H c A s) {n : Addr} {r : List Str} (hn : H n = some (.lst (r.map V.str))) (np : n ∉ ownC c A) : ChAt K C (upd H c (.ins C A.dx (flds s.fire { A with lv := n }))) c { A with lv := n } { s with leaving := r } := by
  obtain ⟨us0, s1, s2⟩ := h.st
  obtain ⟨ps, p1, p2⟩ := h.sp
  obtain ⟨kv, k1, k2⟩ := h.lg
  obtain ⟨ms, m1, m2⟩ := h.mr
  have e : Sx [] [c] H (upd H c (.ins C A.dx (flds s.fire { A with lv := n }))) := sx_upd h.ins rfl List.mem_cons_self
  exact ⟨upd_same, e.keep _ _ h.own trivial (.inl rfl), ⟨us0, e.tup s1, e.dps 3 _ _ (noL_way _) s2⟩, e.tup h.nw, e.keep _ _ h.rw trivial (.inr (h.ne (i := 1) (j := 0) rfl rfl (by decide))), e.keep _ _ h.ld trivial (.inr (h.ne (i := 2) (j := 0) rfl rfl (by decide))), ⟨ps, e.keep _ _ p1 trivial (.inr (h.ne (i := 3) (j := 0) rfl rfl (by decide))), e.ams p2⟩, e.keep _ _ h.tm trivial (.inr (h.ne (i := 4) (j := 0) rfl rfl (by decide))), e.keep _ _ hn trivial (.inr (fun z => np (by have e : n = c := List.mem_singleton.mp z; rw [e]; exact List.mem_cons_self))), ⟨kv, e.keep _ _ k1 trivial (.inr (h.ne (i := 6) (j := 0) rfl rfl (by decide))), e.led k2⟩, ⟨ms, e.keep _ _ m1 trivial (.inr (h.ne (i := 7) (j := 0) rfl rfl (by decide))), e.mks m2⟩, e.keep _ _ h.pr trivial (.inr (h.ne (i := 8) (j := 0) rfl rfl (by decide))), nd_set h.nd (i := 5) rfl np⟩
theorem ChAt.re_lg (h : ChAt K C H c A s) {n : Addr} {kvs : List (L2.Key × V)} {r : List (Str × (Rat × Rat × Rat))} (hn : H n = some (.dK kvs)) (hu : LedL K H kvs r) (np : n ∉ ownC c A) : ChAt K C (upd H c (.ins C A.dx (flds s.fire { A with lg := n }))) c { A with lg := n } { s with ledgers := r } := by
  obtain ⟨us0, s1, s2⟩ := h.st
  obtain ⟨ps, p1, p2⟩ := h.sp
  obtain ⟨kv, k1, k2⟩ := h.lg
  obtain ⟨ms, m1, m2⟩ := h.mr
  have e : Sx [] [c] H (upd H c (.ins C A.dx (flds s.fire { A with lg := n }))) := sx_upd h.ins rfl List.mem_cons_self
  exact ⟨upd_same, e.keep _ _ h.own trivial (.inl rfl), ⟨us0, e.tup s1, e.dps 3 _ _ (noL_way _) s2⟩, e.tup h.nw, e.keep _ _ h.rw trivial (.inr (h.ne (i := 1) (j := 0) rfl rfl (by decide))), e.keep _ _ h.ld trivial (.inr (h.ne (i := 2) (j := 0) rfl rfl (by decide))), ⟨ps, e.keep _ _ p1 trivial (.inr (h.ne (i := 3) (j := 0) rfl rfl (by decide))), e.ams p2⟩, e.keep _ _ h.tm trivial (.inr (h.ne (i := 4) (j := 0) rfl rfl (by decide))), e.keep _ _ h.lv trivial (.inr (h.ne (i := 5) (j := 0) rfl rfl (by decide))), ⟨kvs, e.keep _ _ hn trivial (.inr (fun z => np (by have e : n = c := List.mem_singleton.mp z; rw [e]; exact List.mem_cons_self))), e.led hu⟩, ⟨ms, e.keep _ _ m1 trivial (.inr (h.ne (i := 7) (j := 0) rfl rfl (by decide))), e.mks m2⟩, e.keep _ _ h.pr trivial (.inr (h.ne (i := 8) (j := 0) rfl rfl (by decide))), nd_set h.nd (i := 6) rfl np⟩
theorem ChAt.re_mr (h : ChAt K C H c A s) {n : Addr} {us : List V} {r : List (List (Str × Rat))} (hn : H n = some (.lst us)) (hu : DpAll K H us (r.map mkD)) (np : n ∉ ownC c A) : ChAt K C (upd H c (.ins C A.dx (flds s.fire { A with mr := n }))) c { A with mr := n } { s with marks := r } := by
  obtain ⟨us0, s1, s2⟩ := h.st
  obtain ⟨ps, p1, p2⟩ := h.sp
  obtain ⟨kv, k1, k2⟩ := h.lg
  obtain ⟨ms, m1, m2⟩ := h.mr
  have e : Sx [] [c] H (upd H c (.ins C A.dx (flds s.fire { A with mr := n }))) := sx_upd h.ins rfl List.mem_cons_self
  exact ⟨upd_same, e.keep _ _ h.own trivial (.inl rfl), ⟨us0, e.tup s1, e.dps 3 _ _ (noL_way _) s2⟩, e.tup h.nw, e.keep _ _ h.rw trivial (.inr (h.ne (i := 1) (j := 0) rfl rfl (by decide))), e.keep _ _ h.ld trivial (.inr (h.ne (i := 2) (j := 0) rfl rfl (by decide))), ⟨ps, e.keep _ _ p1 trivial (.inr (h.ne (i := 3) (j := 0) rfl rfl (by decide))), e.ams p2⟩, e.keep _ _ h.tm trivial (.inr (h.ne (i := 4) (j := 0) rfl rfl (by decide))), e.keep _ _ h.lv trivial (.inr (h.ne (i := 5) (j := 0) rfl rfl (by decide))), ⟨kv, e.keep _ _ k1 trivial (.inr (h.ne (i := 6) (j := 0) rfl rfl (by decide))), e.led k2⟩, ⟨us, e.keep _ _ hn trivial (.inr (fun z => np (by have e : n = c := List.mem_singleton.mp z; rw [e]; exact List.mem_cons_self))), e.mks hu⟩, e.keep _ _ h.pr trivial (.inr (h.ne (i := 8) (j := 0) rfl rfl (by decide))), nd_set h.nd (i := 7) rfl np⟩
theorem ChAt.re_pr (h : ChAt K C H c A s) {n : Addr} {r : List Int} (hn : H n = some (.lst (r.map V.int))) (np : n ∉ ownC c A) : ChAt K C (upd H c (.ins C A.dx (flds s.fire { A with pr := n }))) c { A with pr := n } { s with poured := r } := by
  obtain ⟨us0, s1, s2⟩ := h.st
  obtain ⟨ps, p1, p2⟩ := h.sp
  obtain ⟨kv, k1, k2⟩ := h.lg
  obtain ⟨ms, m1, m2⟩ := h.mr
  have e : Sx [] [c] H (upd H c (.ins C A.dx (flds s.fire { A with pr := n }))) := sx_upd h.ins rfl List.mem_cons_self
  exact ⟨upd_same, e.keep _ _ h.own trivial (.inl rfl), ⟨us0, e.tup s1, e.dps 3 _ _ (noL_way _) s2⟩, e.tup h.nw, e.keep _ _ h.rw trivial (.inr (h.ne (i := 1) (j := 0) rfl rfl (by decide))), e.keep _ _ h.ld trivial (.inr (h.ne (i := 2) (j := 0) rfl rfl (by decide))), ⟨ps, e.keep _ _ p1 trivial (.inr (h.ne (i := 3) (j := 0) rfl rfl (by decide))), e.ams p2⟩, e.keep _ _ h.tm trivial (.inr (h.ne (i := 4) (j := 0) rfl rfl (by decide))), e.keep _ _ h.lv trivial (.inr (h.ne (i := 5) (j := 0) rfl rfl (by decide))), ⟨kv, e.keep _ _ k1 trivial (.inr (h.ne (i := 6) (j := 0) rfl rfl (by decide))), e.led k2⟩, ⟨ms, e.keep _ _ m1 trivial (.inr (h.ne (i := 7) (j := 0) rfl rfl (by decide))), e.mks m2⟩, e.keep _ _ hn trivial (.inr (fun z => np (by have e : n = c := List.mem_singleton.mp z; rw [e]; exact List.mem_cons_self))), nd_set h.nd (i := 8) rfl np⟩
theorem ChAt.some (h : ChAt K C H c A s) {x : Addr} (hx : x ∈ ownC c A) : ∃ o, H x = some o ∧ mutO o = true := by
  obtain ⟨ps, p1, p2⟩ := h.sp
  obtain ⟨kv, k1, k2⟩ := h.lg
  obtain ⟨ms, m1, m2⟩ := h.mr
  simp only [ownC, List.mem_cons, List.not_mem_nil, or_false] at hx
  rcases hx with rfl | rfl | rfl | rfl | rfl | rfl | rfl | rfl | rfl
  · exact ⟨_, h.ins, rfl⟩
  · exact ⟨_, h.rw, rfl⟩
  · exact ⟨_, h.ld, rfl⟩
  · exact ⟨_, p1, rfl⟩
  · exact ⟨_, h.tm, rfl⟩
  · exact ⟨_, h.lv, rfl⟩
  · exact ⟨_, k1, rfl⟩
  · exact ⟨_, m1, rfl⟩
  · exact ⟨_, h.pr, rfl⟩
theorem ChAt.new (h : ChAt K C H c A s) {n : Addr} (hn : H n = none) : n ∉ ownC c A := fun hx => by
  obtain ⟨o, ho, _⟩ := h.some hx
  rw [hn] at ho
  cases ho
end

structure Kl (K : PySem.W.Frag) (C : Addr) : Prop where
  cl : Cls K C
  no : ∀ f ∈ FLD, NoAttr K C f

/-! ### dicts by names -/
def getL {α : Type} (l : List (Str × α)) (n : Str) : Option α := (l.find? fun x => decide (x.1 = n)).map (·.2)
def putL {α : Type} (l : List (Str × α)) (n : Str) (a : α) : List (Str × α) := if (l.any fun x => decide (x.1 = n)) = true then l.map (fun x => if x.1 = n then (x.1, a) else x) else l ++ [(n, a)]
theorem inr_eq {a b : Str} : ((Sum.inr a : L2.Key) = Sum.inr b) ↔ a = b := ⟨fun h => Sum.inr.inj h, fun h => by rw [h]⟩
theorem val_tm (l : List (Str × Int)) (n : Str) : valV (tmV l) (Sum.inr n) = (getL l n).map V.int := by
  unfold valV getL tmV
  induction l with
  | nil => rfl
  | cons x l ih =>
    rw [List.map_cons, List.find?_cons, List.find?_cons]
    by_cases h : x.1 = n
    · rw [decide_eq_true h, decide_eq_true (inr_eq.mpr h)]
      rfl
    · rw [decide_eq_false h, decide_eq_false (fun z => h (inr_eq.mp z))]
      exact ih
theorem any_tm (l : List (Str × Int)) (n : Str) : ((tmV l).any fun kv => decide (kv.1 = Sum.inr n)) = l.any fun x => decide (x.1 = n) := by
  unfold tmV
  rw [List.any_map]
  congr 1
  funext x
  show decide ((Sum.inr x.1 : L2.Key) = Sum.inr n) = decide (x.1 = n)
  exact decide_eq_decide.mpr inr_eq
theorem put_tm (l : List (Str × Int)) (n : Str) (p : Int) : putK (tmV l) (Sum.inr n) (V.int p) = tmV (putL l n p) := by
  unfold putK putL
  rw [any_tm]
  split
  · unfold tmV
    rw [List.map_map, List.map_map]
    refine List.map_congr_left fun x _ => ?_
    show (if (Sum.inr x.1 : L2.Key) = Sum.inr n then _ else _) = _
    by_cases h : x.1 = n
    · rw [if_pos (inr_eq.mpr h)]
      simp only [Function.comp, if_pos h]
    · rw [if_neg (fun z => h (inr_eq.mp z))]
      simp only [Function.comp, if_neg h]
  · unfold tmV
    rw [List.map_append]
    rfl
theorem led_val {K : PySem.W.Frag} {H : Hp} : ∀ {kvs : List (L2.Key × V)} {l : List (Str × (Rat × Rat × Rat))}, LedL K H kvs l → ∀ n : Str,
    (getL l n = none ∧ valV kvs (Sum.inr n) = none) ∨ ∃ x v, getL l n = some x ∧ valV kvs (Sum.inr n) = some v ∧ Dp K H v (ledD x)
  | [], [], _, n => .inl ⟨rfl, rfl⟩
  | [], _ :: _, h, n => by cases h.1
  | _ :: _, [], h, n => by cases h.1
  | kv :: kvs, x :: l, h, n => by
    obtain ⟨h1, h2⟩ := h
    rw [List.map_cons, List.map_cons] at h1 h2
    have e1 := (List.cons.inj h1).1
    have e2 := (List.cons.inj h1).2
    cases h2 with
    | cons d1 d2 =>
      unfold getL valV
      rw [List.find?_cons, List.find?_cons]
      by_cases hn : x.1 = n
      · rw [decide_eq_true hn, decide_eq_true (by rw [e1, hn])]
        exact .inr ⟨x.2, kv.2, rfl, rfl, d1⟩
      · rw [decide_eq_false hn, decide_eq_false (fun z => by rw [e1] at z; exact hn (inr_eq.mp z))]
        exact led_val ⟨e2, d2⟩ n
theorem led_any {K : PySem.W.Frag} {H : Hp} : ∀ {kvs : List (L2.Key × V)} {l : List (Str × (Rat × Rat × Rat))}, LedL K H kvs l → ∀ n : Str, (kvs.any fun kv => decide (kv.1 = Sum.inr n)) = l.any fun x => decide (x.1 = n)
  | [], [], _, n => rfl
  | [], _ :: _, h, n => by cases h.1
  | _ :: _, [], h, n => by cases h.1
  | kv :: kvs, x :: l, h, n => by
    obtain ⟨h1, h2⟩ := h
    rw [List.map_cons, List.map_cons] at h1 h2
    cases h2 with
    | cons d1 d2 =>
      rw [List.any_cons, List.any_cons, led_any ⟨(List.cons.inj h1).2, d2⟩ n, (List.cons.inj h1).1]
      congr 1
      exact decide_eq_decide.mpr inr_eq
theorem led_map {K : PySem.W.Frag} {H : Hp} {n : Str} {v : V} {x : Rat × Rat × Rat} (hv : Dp K H v (ledD x)) : ∀ {kvs : List (L2.Key × V)} {l : List (Str × (Rat × Rat × Rat))}, LedL K H kvs l →
    LedL K H (kvs.map fun kv => if kv.1 = Sum.inr n then (kv.1, v) else kv) (l.map fun y => if y.1 = n then (y.1, x) else y)
  | [], [], _ => ⟨rfl, .nil⟩
  | [], _ :: _, h => by cases h.1
  | _ :: _, [], h => by cases h.1
  | kv :: kvs, y :: l, h => by
    obtain ⟨h1, h2⟩ := h
    rw [List.map_cons, List.map_cons] at h1 h2
    have e1 := (List.cons.inj h1).1
    cases h2 with
    | cons d1 d2 =>
      have ih := led_map hv (n := n) ⟨(List.cons.inj h1).2, d2⟩
      by_cases hn : y.1 = n
      · have hk : kv.1 = Sum.inr n := by rw [e1, hn]
        refine ⟨?_, ?_⟩
        · rw [List.map_cons, List.map_cons, List.map_cons, List.map_cons, if_pos hk, if_pos hn, ih.1]
          exact congrArg (· :: _) e1
        · simp only [List.map_cons, if_pos hk, if_pos hn]
          exact .cons hv ih.2
      · have hk : kv.1 ≠ Sum.inr n := fun z => hn (inr_eq.mp (e1.symm.trans z))
        refine ⟨?_, ?_⟩
        · rw [List.map_cons, List.map_cons, List.map_cons, List.map_cons, if_neg hk, if_neg hn, ih.1]
          exact congrArg (· :: _) e1
        · simp only [List.map_cons, if_neg hk, if_neg hn]
          exact .cons d1 ih.2
theorem led_put {K : PySem.W.Frag} {H : Hp} {kvs : List (L2.Key × V)} {l : List (Str × (Rat × Rat × Rat))} (h : LedL K H kvs l) {n : Str} {v : V} {x : Rat × Rat × Rat} (hv : Dp K H v (ledD x)) : LedL K H (putK kvs (Sum.inr n) v) (putL l n x) := by
  unfold putK putL
  rw [led_any h]
  split
  · exact led_map hv h
  · refine ⟨?_, ?_⟩
    · rw [List.map_append, List.map_append, h.1]
      rfl
    · rw [List.map_append, List.map_append]
      exact dpa_app h.2 (.cons hv .nil)
theorem led_len {K : PySem.W.Frag} {H : Hp} {kvs : List (L2.Key × V)} {l : List (Str × (Rat × Rat × Rat))} (h : LedL K H kvs l) : kvs.length = l.length := by
  have := congrArg List.length h.1
  rw [List.length_map, List.length_map] at this
  exact this
theorem getL_put {α : Type} (l : List (Str × α)) (n m : Str) (a : α) : getL (putL l n a) m = if n = m then some a else getL l m := by
  unfold putL
  split
  · rename_i h
    unfold getL
    induction l with
    | nil => cases h
    | cons x l ih =>
      rw [List.map_cons, List.find?_cons, List.find?_cons]
      by_cases hx : x.1 = n
      · rw [if_pos hx]
        by_cases hm : n = m
        · rw [if_pos hm, decide_eq_true (show x.1 = m by rw [hx, hm])]
          rfl
        · rw [if_neg hm, decide_eq_false (show ¬ x.1 = m by rw [hx]; exact hm)]
          dsimp only
          by_cases ha : (l.any fun x => decide (x.1 = n)) = true
          · have := ih ha
            rw [if_neg hm] at this
            exact this
          · have e : l.map (fun x => if x.1 = n then (x.1, a) else x) = l := by
              refine (List.map_congr_left fun y hy => ?_).trans (List.map_id l)
              refine if_neg fun z => ha (List.any_eq_true.mpr ⟨y, hy, decide_eq_true z⟩)
            rw [e]
      · rw [if_neg hx]
        rw [List.any_cons, decide_eq_false hx, Bool.false_or] at h
        by_cases hm : x.1 = m
        · rw [decide_eq_true hm]
          by_cases hnm : n = m
          · exact absurd (hm.trans hnm.symm) hx
          · rw [if_neg hnm]
        · rw [decide_eq_false hm]
          exact ih h
  · rename_i h
    unfold getL
    rw [List.find?_append]
    by_cases hm : n = m
    · rw [if_pos hm]
      have e : l.find? (fun x => decide (x.1 = m)) = none := by
        rw [List.find?_eq_none]
        intro y hy z
        exact h (List.any_eq_true.mpr ⟨y, hy, by rw [hm]; exact z⟩)
      rw [e, Option.none_or, List.find?_cons, decide_eq_true (show (n, a).1 = m from hm)]
      rfl
    · rw [if_neg hm]
      cases e : l.find? (fun x => decide (x.1 = m)) with
      | some y => rfl
      | none =>
        rw [Option.none_or, List.find?_cons, decide_eq_false (show ¬ (n, a).1 = m from hm)]
        rfl
theorem putL_len {α : Type} (l : List (Str × α)) (n : Str) (a : α) : (putL l n a).length ≤ l.length + 1 := by
  unfold putL
  split
  · rw [List.length_map]; omega
  · rw [List.length_append]; exact Nat.le_refl _
theorem putL_has {α : Type} {l : List (Str × α)} {n : Str} {a b : α} (h : getL l n = some b) : (putL l n a).length = l.length := by
  unfold putL
  rw [if_pos, List.length_map]
  unfold getL at h
  cases e : l.find? (fun x => decide (x.1 = n)) with
  | none => rw [e] at h; cases h
  | some y => exact List.any_eq_true.mpr ⟨y, List.mem_of_find?_eq_some e, by have := List.find?_some e; simpa using this⟩
theorem flat_strs (l : List Str) : (l.map V.str).all flatV = true := by
  rw [List.all_map]
  exact List.all_eq_true.mpr fun _ _ => rfl
theorem inV_strs (n : Str) (l : List Str) : inV (.str n) (l.map V.str) = decide (n ∈ l) := by
  unfold inV
  induction l with
  | nil => simp
  | cons x l ih =>
    rw [List.map_cons, List.any_cons, ih]
    show ((x == n) || _) = _
    by_cases h : x = n
    · subst h
      simp
    · have e : (x == n) = false := by simpa using h
      rw [e, Bool.false_or]
      refine decide_eq_decide.mpr ?_
      rw [List.mem_cons]
      exact ⟨.inr, fun z => z.resolve_left fun y => h y.symm⟩

theorem dpa_dropLast {K : PySem.W.Frag} {H : Hp} {vs : List V} {ds : List PyData} (h : DpAll K H vs ds) : DpAll K H vs.dropLast ds.dropLast := by
  rw [List.dropLast_eq_take, List.dropLast_eq_take, dpa_len h]
  exact dpa_take _ h
theorem AmL.dropLast {K : PySem.W.Frag} {H : Hp} {us : List V} {xs : List Rat} (h : AmL K H us xs) : AmL K H us.dropLast xs.dropLast := by
  have := dpa_dropLast h
  unfold AmL
  rw [List.map_dropLast, List.map_dropLast]
  exact this

def sp_p_is_number (K : PySem.W.Frag) (T : Tb) : Sp := fun vs H Q _ => ∃ i : Int, vs = [.int i] ∧ Q (.bl true) H
theorem ok_p_is_number {f : Addr} {fd : FuncData} (F : Fun K "is_number" "is_number" s_p_is_number f fd) (B : Bn mg) : FnOk P w K mg base CX0 1 f fd ["thing"] (sp_p_is_number K T) := by
  refine F.ok sc_p_is_number (fun vs H Q E h => ?_) (fun cdv A outer s H vs Q E hr h => ?_)
  · obtain ⟨i, rfl, _⟩ := h
    rfl
  · obtain ⟨i, rfl, q⟩ := h
    refine ⟨_, (pss_one (ps_ret (pe_and (pe_callB call_isi (by rfl) B.isinstance_ (by decide +kernel) (pa_cons (pv 0) (pa_cons (pe_bltn (v := .ty "int") (by rfl) B.int_ (by decide +kernel) rfl) pa_nil))) (pe_one (pe_not (pe_callB call_isi (by rfl) B.isinstance_ (by decide +kernel) (pa_cons (pv 0) (pa_cons (pe_bltn (v := .ty "bool") (by rfl) B.bool_ (by decide +kernel) rfl) pa_nil)))))))), ?_⟩
    refine ⟨_, rfl, _, _, _, _, true, rfl, .ty "int", .base (.int i), kit_ty kb_int_int, _, rfl, iteT ?_⟩
    exact ⟨_, rfl, _, _, _, _, false, rfl, .ty "bool", .base (.int i), kit_ty kb_int_bool, _, rfl, q⟩
def sp_p_is_within (K : PySem.W.Frag) (T : Tb) : Sp := fun vs H Q _ => ∃ i l m : Int, vs = [.int i, .int l, .int m] ∧ Q (.bl (decide (l ≤ i) && decide (i ≤ m))) H
theorem ok_p_is_within {f : Addr} {fd : FuncData} (F : Fun K "is_within" "is_within" s_p_is_within f fd) (F_p_is_number : Fn P w K mg base 1 "is_number" ["thing"] (sp_p_is_number K T)) : FnOk P w K mg base CX0 2 f fd ["thing", "least", "most"] (sp_p_is_within K T) := by
  refine F.ok sc_p_is_within (fun vs H Q E h => ?_) (fun cdv A outer s H vs Q E hr h => ?_)
  · obtain ⟨i, l, m, rfl, _⟩ := h
    rfl
  · obtain ⟨i, l, m, rfl, q⟩ := h
    refine ⟨_, (pss_one (ps_ret (pe_and (pe_fn F_p_is_number (hr.mono (by decide)) (pa_cons (pv 0) pa_nil)) (pe_one (pe_chain op_le op_le (pv 1) (pv 0) (pv 2)))))), ?_⟩
    refine ⟨_, rfl, i, rfl, _, rfl, iteT ?_⟩
    refine ⟨_, rfl, _, rfl, _, _, rfl, rfl, _, rfl, ?_⟩
    by_cases h : l ≤ i
    · rw [decide_eq_true h, Bool.true_and] at q
      rw [decide_eq_true h]
      exact iteT ⟨_, rfl, _, _, rfl, rfl, q⟩
    · rw [decide_eq_false h, Bool.false_and] at q
      rw [decide_eq_false h]
      exact iteF q
def paceB (z : Int) : Bool := decide (1 ≤ z) && decide (z ≤ 12)
def sp_p_check_pace (K : PySem.W.Frag) (T : Tb) (CP : Addr) : Sp := fun vs H Q E => ∃ z : Int, vs = [.int z] ∧ (paceB z = true → Q .non H) ∧ (paceB z = false → ∀ cls d H', Sm T H H' → Rf K CP "bad pace" cls d H' → E cls d H')
theorem ok_p_check_pace {f : Addr} {fd : FuncData} {u_MOST_PACE : Value} (F : Fun K "check_pace" "check_pace" s_p_check_pace f fd) (C_MOST_PACE : RelV (.int 12) u_MOST_PACE ∧ mg "MOST_PACE" = some u_MOST_PACE) {CP : Addr} (R_BadPace : Err P w K mg base CP "BadPace" "bad pace") (F_p_is_within : Fn P w K mg base 2 "is_within" ["thing", "least", "most"] (sp_p_is_within K T)) : FnOk P w K mg base (L2.CX P w) 4 f fd ["pace"] (sp_p_check_pace K T CP) := by
  obtain ⟨⟨tM, rfl⟩, gM⟩ := id C_MOST_PACE
  refine F.okX sc_p_check_pace (fun vs H Q E h => ?_) (fun cdv A outer s H vs Q E hr h => ?_)
  · obtain ⟨z, rfl, _⟩ := h
    rfl
  · obtain ⟨z, rfl, k1, k2⟩ := h
    refine ⟨_, (pss_one (ps_if (pt_not (pt_val (pe_fn F_p_is_within (hr.mono (by decide)) (pa_cons (pv 0) (pa_cons pe_int (pa_cons (pe_glob (by rfl) C_MOST_PACE.2 C_MOST_PACE.1) pa_nil)))))) (pss_one (ps_raise rfl (takes_of rfl rfl rfl rfl) (pmk_err R_BadPace (hr.mono (by decide)) (by rfl)))) pss_nil)), ?_⟩
    refine ⟨_, rfl, z, 1, 12, rfl, _, rfl, ?_⟩
    show if (!(paceB z)) = true then _ else _
    cases hz : paceB z with
    | true => exact iteF (k1 hz)
    | false => exact iteT fun cls dd hn rf => k2 hz cls (some dd) _ (same_upd hn) rf

theorem elt_rng {prog : Program} {w : World} {scope : Scope} {x lo hi : Str} {j1 j2 : Nat} {p1 p2 p3 p4 : Pos} (hk : scope.kind = .function) (hl : scope.names.lookup x = some .local) (hd : (x == ("__debug__" : Str)) = false := by decide) :
    GxR.EltP prog w scope x (.Compare (.Constant (.str lo) j1 p1) [.LtE, .LtE] [.Name x p2, .Constant (.str hi) j2 p3] p4) (fun c => !decide ([c] < lo.cps.toList) && !decide (hi.cps.toList < [c])) := by
  intro cenv A' E' c t s₂ m₂ hs hn hm
  refine Compare_chain ?_ (by with_unfolding_all rfl)
  refine Calls.Constant_str (chain_link ?_)
  refine wpAny_Name (wpAny_loadName_local (by rw [hs]; exact hk) (show cenv.scope.names.lookup x = some .local by rw [hs]; exact hl) (hn.keeps fun _ _ e => e) hm ?_) hd
  refine PySem.P.le_str (wpAny_truthy_bool ?_)
  show (if (!decide ([c] < lo.cps.toList)) = true then _ else _)
  cases h1 : (!decide ([c] < lo.cps.toList)) with
  | false =>
    refine ite_ff ⟨?_, GxR.keeps_tok _ _⟩
    show Value.bool false = Value.bool (!decide ([c] < lo.cps.toList) && !decide (hi.cps.toList < [c]))
    rw [h1, Bool.false_and]
  | true =>
    refine ite_tt (chain_last (Calls.Constant_str (PySem.P.le_str ⟨?_, GxR.keeps_tok _ _⟩)))
    show Value.bool (!decide (hi.cps.toList < [c])) = Value.bool (!decide ([c] < lo.cps.toList) && !decide (hi.cps.toList < [c]))
    rw [h1, Bool.true_and]
def letB (c : Nat) : Bool := !decide ([c] < (("a" : Str)).cps.toList) && !decide ((("z" : Str)).cps.toList < [c])
def nameB (n : Str) : Bool := (decide (1 ≤ n.length) && decide (n.length ≤ 8)) && n.cps.toList.all letB
def sp_p_is_name (K : PySem.W.Frag) (T : Tb) : Sp := fun vs H Q _ => ∃ n : Str, vs = [.str n] ∧ n.length ≤ sizeLine ∧ Ok T H ∧ ∀ H', Sm T H H' → Q (.bl (nameB n)) H'
theorem ok_p_is_name {f : Addr} {fd : FuncData} {u_MOST_LETTERS : Value} {c PT : Addr} (F : FunC K "is_name" "is_name" s_p_is_name f fd c) (hnT : (T.map (·.1)).Nodup) (hPT : (PT, (none : Option Str)) ∈ T) (TB : GxR.TabB base mg c PT) (B : Bn mg) (C_MOST_LETTERS : RelV (.int 8) u_MOST_LETTERS ∧ mg "MOST_LETTERS" = some u_MOST_LETTERS) : FnOk P w K mg base CX0 1 f fd ["text"] (sp_p_is_name K T) := by
  obtain ⟨⟨tM, rfl⟩, gM⟩ := id C_MOST_LETTERS
  refine F.ok sc_p_is_name (fun vs H Q E h => ?_) (fun A outer s H vs Q E hr h => ?_)
  · obtain ⟨n, rfl, _⟩ := h
    rfl
  · obtain ⟨n, rfl, hsz, hok, q⟩ := h
    refine ⟨_, (pss_one (ps_ret (pe_and (pe_chain op_le op_le pe_int (pe_callB call_len_str (by rfl) B.len_ (by decide +kernel) (pa_cons (pv 0) pa_nil)) (pe_glob (by rfl) C_MOST_LETTERS.2 C_MOST_LETTERS.1)) (pe_one (GxR.pe_allS hr (by rfl) B.all_ (by decide +kernel) TB rfl (gens_by (by decide +kernel)) (pv 0) (elt_rng rfl rfl) (fun _ => rfl)))))), ?_⟩
    refine ⟨_, rfl, n, rfl, hsz, _, _, rfl, rfl, _, rfl, ?_⟩
    have q0 := fun H' (s : Sm T H H') => q H' s
    unfold nameB at q0
    by_cases h1 : 1 ≤ n.length
    · rw [decide_eq_true (show (1 : Int) ≤ (n.length : Int) by omega)]
      refine iteT ⟨_, _, rfl, rfl, _, rfl, ?_⟩
      by_cases h2 : n.length ≤ 8
      · rw [decide_eq_true (show (n.length : Int) ≤ 8 by omega)]
        refine iteT ⟨_, rfl, n, rfl, hok _ hPT, fun H2 ht => ?_⟩
        have r := q0 H2 (sm_tabbed hnT hPT (hok _ hPT) ht)
        rw [decide_eq_true h1, decide_eq_true h2, Bool.true_and, Bool.true_and] at r
        exact r
      · rw [decide_eq_false (show ¬ (n.length : Int) ≤ 8 by omega)]
        have r := q0 H Sm.refl
        rw [decide_eq_false h2, Bool.and_false, Bool.false_and] at r
        exact iteF r
    · rw [decide_eq_false (show ¬ (1 : Int) ≤ (n.length : Int) by omega)]
      have r := q0 H Sm.refl
      rw [decide_eq_false h1, Bool.false_and, Bool.false_and] at r
      exact iteF ⟨_, rfl, iteF r⟩
def sp_p_check_name (K : PySem.W.Frag) (T : Tb) (CP : Addr) : Sp := fun vs H Q E => ∃ n : Str, vs = [.str n] ∧ n.length ≤ sizeLine ∧ Ok T H ∧ (nameB n = true → ∀ H', Sm T H H' → Q .non H') ∧ (nameB n = false → ∀ cls d H', Sm T H H' → Rf K CP "bad name" cls d H' → E cls d H')
theorem ok_p_check_name {f : Addr} {fd : FuncData} (F : Fun K "check_name" "check_name" s_p_check_name f fd) {CP : Addr} (R_BadName : Err P w K mg base CP "BadName" "bad name") (F_p_is_name : Fn P w K mg base 1 "is_name" ["text"] (sp_p_is_name K T)) : FnOk P w K mg base (L2.CX P w) 4 f fd ["name"] (sp_p_check_name K T CP) := by
  refine F.okX sc_p_check_name (fun vs H Q E h => ?_) (fun cdv A outer s H vs Q E hr h => ?_)
  · obtain ⟨n, rfl, _⟩ := h
    rfl
  · obtain ⟨n, rfl, hsz, hok, k1, k2⟩ := h
    refine ⟨_, (pss_one (ps_if (pt_not (pt_val (pe_fn F_p_is_name (hr.mono (by decide)) (pa_cons (pv 0) pa_nil)))) (pss_one (ps_raise rfl (takes_of rfl rfl rfl rfl) (pmk_err R_BadName (hr.mono (by decide)) (by rfl)))) pss_nil)), ?_⟩
    refine ⟨_, rfl, n, rfl, hsz, hok, fun H1 s1 => ⟨_, rfl, ?_⟩⟩
    cases hz : nameB n with
    | true => exact iteF (k1 hz H1 s1)
    | false => exact iteT fun cls dd hn rf => k2 hz cls (some dd) _ (s1.trans (same_upd hn)) rf

def takeS (s : Ch) : Ch := { s with marks := s.marks ++ [[]], loads := (s.marks.length : Int) :: s.loads, spots := 0 :: s.spots }
def sp_p_Chain_take_pail (K : PySem.W.Frag) (T : Tb) (CC : Addr) : Sp := fun vs H Q _ => ∃ (c : Addr) (A : Ad) (s : Ch), vs = [.ref c] ∧ ChAt K CC H c A s ∧ (s.marks.length < 5000 ∧ s.loads.length < 100 ∧ s.spots.length < 100) ∧
  ∀ H', Sx T (ownC c A) H H' → ChAt K CC H' c A (takeS s) → Q (.int s.marks.length) H'
theorem ok_p_Chain_take_pail {f : Addr} {fd : FuncData} {a_NOUGHT : Addr} (F : Fun K "take_pail" "Chain.take_pail" s_p_Chain_take_pail f fd) (B : Bn mg) (g_NOUGHT : mg "NOUGHT" = some (.ref a_NOUGHT)) (s_NOUGHT : ∀ H, SqT K H a_NOUGHT [.int 0, .int 1]) {CC : Addr} (TC : Kl K CC) : FnOk P w K mg base CX0 1 f fd ["self"] (sp_p_Chain_take_pail K T CC) := by
  refine F.ok sc_p_Chain_take_pail (fun vs H Q E h => ?_) (fun cdv A outer s H vs Q E hr h => ?_)
  · obtain ⟨c, A, s, rfl, _⟩ := h
    rfl
  · obtain ⟨c, A, s, rfl, h, ⟨l1, l2, l3⟩, q⟩ := h
    refine ⟨_, (pss_cons (ps_set (i := 1) sc_p_Chain_take_pail.nd rfl (.inl rfl) (pe_callB call_len_seq (by rfl) B.len_ (by decide +kernel) (pa_cons (pe_fc TC.cl (TC.no "marks" (by decide +kernel)) (pv 0)) pa_nil)))
      (pss_cons (ps_expr (pe_bm PySem.F.plainAttrs_list PySem.F.slot_list_append PySem.F.type_list_append mt_append (pe_fc TC.cl (TC.no "marks" (by decide +kernel)) (pv 0)) (pa_cons (pe_tup pa_nil) pa_nil)))
      (pss_cons (ps_expr (pe_bm PySem.F.plainAttrs_list PySem.F.slot_list_insert PySem.F.type_list_insert mt_insert (pe_fc TC.cl (TC.no "loads" (by decide +kernel)) (pv 0)) (pa_cons pe_int (pa_cons (pv 1) pa_nil))))
      (pss_cons (ps_expr (pe_bm PySem.F.plainAttrs_list PySem.F.slot_list_insert PySem.F.type_list_insert mt_insert (pe_fc TC.cl (TC.no "spots" (by decide +kernel)) (pv 0)) (pa_cons pe_int (pa_cons (pe_glob (v := .ref a_NOUGHT) (by rfl) g_NOUGHT rfl) pa_nil))))
      (pss_one (ps_ret (pv 1))))))), ?_⟩
    obtain ⟨ms, m1, m2⟩ := h.mr
    have lm : ms.length = s.marks.length := by rw [dpa_len m2, List.length_map]
    refine ⟨_, rfl, c, _, _, _, rfl, h.ins, fl_mk, A.mr, ms, rfl, .inl (SqL.of m1), ?_⟩
    refine ⟨_, rfl, c, _, _, _, rfl, h.ins, fl_mk, .inl ⟨rfl, _, SqL.of m1⟩, by show 0 ≤ sizeLine; decide, fun t nt => ?_⟩
    have u1 := same_upd (T := T) (o := .tup []) nt
    have h1 := h.sm u1
    refine ⟨A.mr, ms, _, rfl, rfl, u1.k m1, szl (by omega), ?_⟩
    have d2 : DpAll K (upd H t (.tup [])) (ms ++ [.ref t]) ((s.marks ++ [[]]).map mkD) := by
      rw [List.map_append]
      exact dpa_app (dpa_same u1 _ _ m2) (.cons (.tup (SqT.of upd_same) .nil) .nil)
    have h2 := h1.set_mr d2
    have x2 : Sx T (ownC c A) H _ := u1.sx.step (sx_upd (o := .lst (ms ++ [.ref t])) (u1.k m1) rfl (by simp [ownC]))
    refine ⟨_, rfl, c, _, _, _, rfl, h2.ins, fl_ld, .inl ⟨rfl, _, SqL.of h2.ld⟩, _, rfl, A.ld, _, 0, _, rfl, rfl, h2.ld, by rw [List.length_map]; exact szl (by show s.loads.length < _; omega), by decide, by decide, ?_⟩
    have h3 := h2.set_ld ((s.marks.length : Int) :: s.loads)
    have x3 := x2.step (sx_upd (o := .lst (((s.marks.length : Int) :: s.loads).map V.int)) h2.ld rfl (by simp [ownC]))
    obtain ⟨ps, p1, p2⟩ := h3.sp
    have lp := p2.len
    rw [lm]
    refine ⟨_, rfl, c, _, _, _, rfl, h3.ins, fl_sp, .inl ⟨rfl, _, SqL.of p1⟩, A.sp, _, 0, _, rfl, rfl, p1, szl (by have : s.spots.length < 100 := l3; have e : ps.length = s.spots.length := lp; omega), by decide, by decide, ?_⟩
    have d4 : AmL K (upd (upd (upd H t (.tup [])) A.mr (.lst (ms ++ [.ref t]))) A.ld (.lst (((s.marks.length : Int) :: s.loads).map V.int))) (.ref a_NOUGHT :: ps) (0 :: s.spots) := .cons (amD_dp (by rw [am_zero]; exact s_NOUGHT _)) p2
    have h4 := h3.set_sp d4
    have x4 := x3.step (sx_upd (o := .lst (.ref a_NOUGHT :: ps)) p1 rfl (by simp [ownC]))
    exact ⟨_, rfl, q _ x4 h4⟩

def enterW (s : Ch) (n : Str) (p : Int) : Option Str := if nameB n = true then (if n ∈ s.row then some "taken" else if paceB p = true then (if s.row.length < 8 then none else some "full") else some "bad pace") else some "bad name"
def enterS (s : Ch) (n : Str) (p : Int) : Ch := takeS { s with row := n :: s.row, tempos := putL s.tempos n p, ledgers := if (getL s.ledgers n).isSome = true then s.ledgers else putL s.ledgers n (0, 0, 0) }
theorem led0 {K : PySem.W.Frag} {H : Hp} {t a : Addr} (h : SqT K H t [.ref a, .ref a, .ref a]) (ha : SqT K H a (tv ((0, 1) : Am))) : Dp K H (.ref t) (ledD (0, 0, 0)) := by
  have d : Dp K H (.ref a) (amD (am 0)) := amD_dp (by rw [am_zero]; exact ha)
  exact .tup h (.cons d (.cons d (.cons d .nil)))
def sp_p_Chain_enter (K : PySem.W.Frag) (T : Tb) (CP CC : Addr) : Sp := fun vs H Q E => ∃ (c : Addr) (A : Ad) (s : Ch) (n : Str) (p : Int), vs = [.ref c, .str n, .int p] ∧ ChAt K CC H c A s ∧ n.length ≤ sizeLine ∧ Ok T H ∧ (s.marks.length < 5000 ∧ s.loads.length < 100 ∧ s.spots.length < 100 ∧ s.row.length < 100 ∧ s.tempos.length < 1000 ∧ s.ledgers.length < 1000) ∧
  (enterW s n p = none → ∀ H', Sx T (ownC c A) H H' → ChAt K CC H' c A (enterS s n p) → Q (.int s.marks.length) H') ∧ (∀ wd, enterW s n p = some wd → ∀ cls d H', Sm T H H' → Rf K CP wd cls d H' → E cls d H')
theorem ok_p_Chain_enter {f : Addr} {fd : FuncData} {u_MOST_HANDS : Value} {a_NOUGHT : Addr} (F : Fun K "enter" "Chain.enter" s_p_Chain_enter f fd) (B : Bn mg) (C_MOST_HANDS : RelV (.int 8) u_MOST_HANDS ∧ mg "MOST_HANDS" = some u_MOST_HANDS) (g_NOUGHT : mg "NOUGHT" = some (.ref a_NOUGHT)) (s_NOUGHT : ∀ H, SqT K H a_NOUGHT [.int 0, .int 1]) {CP : Addr} (R_Taken : Err P w K mg base CP "Taken" "taken") (R_Full : Err P w K mg base CP "Full" "full") {CC : Addr} (TC : Kl K CC) (F_p_check_pace : Fx P w K mg base 4 "check_pace" ["pace"] (sp_p_check_pace K T CP)) (F_p_check_name : Fx P w K mg base 4 "check_name" ["name"] (sp_p_check_name K T CP)) (M_take_pail : Mt P w K mg base CC 1 "take_pail" ["self"] (sp_p_Chain_take_pail K T CC)) : FnOk P w K mg base (L2.CX P w) 5 f fd ["self", "name", "pace"] (sp_p_Chain_enter K T CP CC) := by
  obtain ⟨⟨tM, rfl⟩, gM⟩ := id C_MOST_HANDS
  refine F.okX sc_p_Chain_enter (fun vs H Q E h => ?_) (fun cdv A outer s H vs Q E hr h => ?_)
  · obtain ⟨c, A, s, n, p, rfl, _⟩ := h
    rfl
  · obtain ⟨c, A, s, n, p, rfl, h, hsz, hok, ⟨l1, l2, l3, l4, l5, l6⟩, k1, k2⟩ := h
    refine ⟨_, (pss_cons (ps_expr (pe_fx F_p_check_name (hr.mono (by decide)) (takes_of rfl rfl rfl rfl) (pa_cons (pv 1) pa_nil)))
      (pss_cons (ps_if (pt_cmpR op_in_seq (pv 1) (pe_fc TC.cl (TC.no "row" (by decide +kernel)) (pv 0)) (by rfl)) (pss_one (ps_raise rfl (takes_of rfl rfl rfl rfl) (pmk_err R_Taken (hr.mono (by decide)) (by rfl)))) pss_nil)
      (pss_cons (ps_expr (pe_fx F_p_check_pace (hr.mono (by decide)) (takes_of rfl rfl rfl rfl) (pa_cons (pv 2) pa_nil)))
      (pss_cons (ps_if (pt_cmpR op_ge (pe_callB call_len_seq (by rfl) B.len_ (by decide +kernel) (pa_cons (pe_fc TC.cl (TC.no "row" (by decide +kernel)) (pv 0)) pa_nil)) (pe_glob (by rfl) C_MOST_HANDS.2 C_MOST_HANDS.1) (nomark _)) (pss_one (ps_raise rfl (takes_of rfl rfl rfl rfl) (pmk_err R_Full (hr.mono (by decide)) (by rfl)))) pss_nil)
      (pss_cons (ps_expr (pe_bm PySem.F.plainAttrs_list PySem.F.slot_list_insert PySem.F.type_list_insert mt_insert (pe_fc TC.cl (TC.no "row" (by decide +kernel)) (pv 0)) (pa_cons pe_int (pa_cons (pv 1) pa_nil))))
      (pss_cons (ps_dput (hu_of hr) (pe_fc TC.cl (TC.no "tempos" (by decide +kernel)) (pv 0)) (pv 1) (pv 2) rfl)
      (pss_cons (ps_if (pt_cmp (pc_dnotin (hu_of hr) (pv 1) (pe_fc TC.cl (TC.no "ledgers" (by decide +kernel)) (pv 0)))) (pss_one (ps_dput (hu_of hr) (pe_fc TC.cl (TC.no "ledgers" (by decide +kernel)) (pv 0)) (pv 1) (pe_tup (pa_cons (pe_glob (v := .ref a_NOUGHT) (by rfl) g_NOUGHT rfl) (pa_cons (pe_glob (v := .ref a_NOUGHT) (by rfl) g_NOUGHT rfl) (pa_cons (pe_glob (v := .ref a_NOUGHT) (by rfl) g_NOUGHT rfl) pa_nil)))) rfl)) pss_nil)
      (pss_one (ps_ret (pe_mt0 M_take_pail TC.cl (hr.mono (by decide)) (pv 0) )))))))))), ?_⟩
    refine ⟨_, rfl, n, rfl, hsz, hok, fun hn H1 s1 => ?_, fun hn cls d H' s' rf => k2 "bad name" (by unfold enterW; rw [hn]; rfl) cls d H' s' rf⟩
    have h1 := h.sm s1
    refine ⟨_, rfl, _, rfl, c, _, _, _, rfl, h1.ins, fl_rw, A.rw, _, rfl, .inl (SqL.of h1.rw), rfl, flat_strs _, _, rfl, ?_⟩
    show if (inV (.str n) (s.row.map V.str)) = true then _ else _
    rw [inV_strs]
    refine ite2 (fun e => ?_) (fun e => ?_)
    · have hm : n ∈ s.row := of_decide_eq_true e
      exact fun cls dd hn' rf => k2 "taken" (by unfold enterW; rw [if_pos hn, if_pos hm]) cls (some dd) _ (s1.trans (same_upd hn')) rf
    · have hm : n ∉ s.row := fun z => e (decide_eq_true z)
      refine ⟨_, rfl, p, rfl, fun hp => ?_, fun hp cls d H' s' rf => k2 "bad pace" (by unfold enterW; rw [if_pos hn, if_neg hm, hp]; rfl) cls d H' (s1.trans s') rf⟩
      refine ⟨_, rfl, c, _, _, _, rfl, h1.ins, fl_rw, A.rw, _, rfl, .inl (SqL.of h1.rw), _, _, rfl, rfl, _, rfl, ?_⟩
      rw [List.length_map]
      refine ite2 (fun e => ?_) (fun e => ?_)
      · have hl : ¬ s.row.length < 8 := by have := of_decide_eq_true e; omega
        exact fun cls dd hn' rf => k2 "full" (by unfold enterW; rw [if_pos hn, if_neg hm, if_pos hp, if_neg hl]) cls (some dd) _ (s1.trans (same_upd hn')) rf
      · have hl : s.row.length < 8 := by
          have e' : ¬ ((s.row.length : Int) ≥ 8) := fun z => e (decide_eq_true z)
          omega
        have k1 := k1 (by unfold enterW; rw [if_pos hn, if_neg hm, if_pos hp, if_pos hl])
        refine ⟨_, rfl, c, _, _, _, rfl, h1.ins, fl_rw, .inl ⟨rfl, _, SqL.of h1.rw⟩, _, rfl, A.rw, _, 0, _, rfl, rfl, h1.rw, by rw [List.length_map]; exact szl (by omega), by decide, by decide, ?_⟩
        have h2 := h1.set_rw (n :: s.row)
        have x2 : Sx T (ownC c A) H _ := s1.sx.step (sx_upd (o := .lst ((n :: s.row).map V.str)) h1.rw rfl (by simp [ownC]))
        refine ⟨_, rfl, _, rfl, c, _, _, _, rfl, h2.ins, fl_tm, _, rfl, A.tm, _, rfl, DPut.k (k := Sum.inr n) h2.tm (by unfold tmV; rw [List.length_map]; exact szl (by show s.tempos.length < _; omega)), ?_⟩
        rw [put_tm]
        have h3 := h2.set_tm (putL s.tempos n p)
        have x3 := x2.step (sx_upd (o := .dK (tmV (putL s.tempos n p))) h2.tm rfl (by simp [ownC]))
        dsimp only
        refine seq_if (fun σ' H4 => Sx T (ownC c A) H H4 ∧ ∃ x1 x2, σ' = [some (.ref c), x1, x2] ∧ ChAt K CC H4 c A { s with row := n :: s.row, tempos := putL s.tempos n p, ledgers := if (getL s.ledgers n).isSome = true then s.ledgers else putL s.ledgers n (0, 0, 0) }) (fun σ' H4 pp => ?_) (fun k => ?_)
        · obtain ⟨x4, y1, y2, rfl, h4⟩ := pp
          refine ⟨_, rfl, c, _, _, rfl, h4.ins, fl_no (by decide +kernel), c, A, _, rfl, h4, ⟨l1, l2, l3⟩, fun H5 x5 h5 => k1 H5 (x4.step x5) h5⟩
        · obtain ⟨kv, g1, g2⟩ := h3.lg
          refine ⟨_, rfl, _, rfl, c, _, _, _, rfl, h3.ins, fl_lg, A.lg, _, rfl, DGet.k (k := Sum.inr n) g1, _, rfl, ?_⟩
          rcases led_val g2 n with ⟨e1, e2⟩ | ⟨x, v, e1, e2, e3⟩
          · have e1 : getL s.ledgers n = none := e1
            rw [e2]
            refine iteT ⟨by show 3 ≤ sizeLine; decide, fun t nt => ?_⟩
            have u := same_upd (T := T) (o := .tup [.ref a_NOUGHT, .ref a_NOUGHT, .ref a_NOUGHT]) nt
            have h4 := h3.sm u
            have g3 := u.k g1
            refine ⟨_, rfl, c, _, _, _, rfl, h4.ins, fl_lg, _, rfl, A.lg, _, rfl, DPut.k (k := Sum.inr n) g3 (by rw [led_len g2]; exact szl (by show s.ledgers.length < _; omega)), ?_⟩
            have g4 : LedL K (upd (upd (upd H1 A.rw (.lst ((n :: s.row).map V.str))) A.tm (.dK (tmV (putL s.tempos n p)))) t (.tup [.ref a_NOUGHT, .ref a_NOUGHT, .ref a_NOUGHT])) (putK kv (Sum.inr n) (.ref t)) (putL s.ledgers n (0, 0, 0)) := led_put (u.sx (S := []) |>.led g2) (led0 (SqT.of upd_same) (s_NOUGHT _))
            have h5 := h4.set_lg g4
            have x5 := (x3.sm' u).step (sx_upd (o := .dK (putK kv (Sum.inr n) (.ref t))) g3 rfl (by simp [ownC]))
            refine k _ _ ⟨x5, _, _, rfl, ?_⟩
            rw [e1]
            exact h5
          · have e1 : getL s.ledgers n = some x := e1
            rw [e2]
            refine iteF (k _ _ ⟨x3, _, _, rfl, ?_⟩)
            rw [e1]
            exact h3

def sp_p_Chain_hands (K : PySem.W.Frag) (T : Tb) (CC : Addr) : Sp := fun vs H Q _ => ∃ (c : Addr) (A : Ad) (s : Ch), vs = [.ref c] ∧ ChAt K CC H c A s ∧ ∀ p H', Sm T H H' → H p = none → H' p = some (.lst (s.row.map V.str)) → Q (.ref p) H'
theorem ok_p_Chain_hands {f : Addr} {fd : FuncData} (F : Fun K "hands" "Chain.hands" s_p_Chain_hands f fd) (B : Bn mg) {CC : Addr} (TC : Kl K CC) : FnOk P w K mg base CX0 1 f fd ["self"] (sp_p_Chain_hands K T CC) := by
  refine F.ok sc_p_Chain_hands (fun vs H Q E h => ?_) (fun cdv A outer s H vs Q E hr h => ?_)
  · obtain ⟨c, A, s, rfl, _⟩ := h
    rfl
  · obtain ⟨c, A, s, rfl, h, q⟩ := h
    refine ⟨_, (pss_one (ps_ret (pe_callTy call_list_of (by rfl) B.list_ (by decide +kernel) (pa_cons (pe_fc TC.cl (TC.no "row" (by decide +kernel)) (pv 0)) pa_nil)))), ?_⟩
    exact ⟨_, rfl, c, _, _, _, rfl, h.ins, fl_rw, A.rw, _, rfl, .inl (SqL.of h.rw), fun p np => q p _ (same_upd np) np upd_same⟩
def sp_p_Chain_emptied (K : PySem.W.Frag) (T : Tb) (CC : Addr) : Sp := fun vs H Q _ => ∃ (c : Addr) (A : Ad) (s : Ch), vs = [.ref c] ∧ ChAt K CC H c A s ∧ ∀ p H', Sm T H H' → H p = none → H' p = some (.lst (s.poured.map V.int)) → Q (.ref p) H'
theorem ok_p_Chain_emptied {f : Addr} {fd : FuncData} (F : Fun K "emptied" "Chain.emptied" s_p_Chain_emptied f fd) (B : Bn mg) {CC : Addr} (TC : Kl K CC) : FnOk P w K mg base CX0 1 f fd ["self"] (sp_p_Chain_emptied K T CC) := by
  refine F.ok sc_p_Chain_emptied (fun vs H Q E h => ?_) (fun cdv A outer s H vs Q E hr h => ?_)
  · obtain ⟨c, A, s, rfl, _⟩ := h
    rfl
  · obtain ⟨c, A, s, rfl, h, q⟩ := h
    refine ⟨_, (pss_one (ps_ret (pe_callTy call_list_of (by rfl) B.list_ (by decide +kernel) (pa_cons (pe_fc TC.cl (TC.no "poured" (by decide +kernel)) (pv 0)) pa_nil)))), ?_⟩
    exact ⟨_, rfl, c, _, _, _, rfl, h.ins, fl_pr, A.pr, _, rfl, .inl (SqL.of h.pr), fun p np => q p _ (same_upd np) np upd_same⟩
def sp_p_Chain_pails (K : PySem.W.Frag) (T : Tb) (CC : Addr) : Sp := fun vs H Q _ => ∃ (c : Addr) (A : Ad) (s : Ch), vs = [.ref c] ∧ ChAt K CC H c A s ∧ Q (.int s.marks.length) H
theorem ok_p_Chain_pails {f : Addr} {fd : FuncData} (F : Fun K "pails" "Chain.pails" s_p_Chain_pails f fd) (B : Bn mg) {CC : Addr} (TC : Kl K CC) : FnOk P w K mg base CX0 1 f fd ["self"] (sp_p_Chain_pails K T CC) := by
  refine F.ok sc_p_Chain_pails (fun vs H Q E h => ?_) (fun cdv A outer s H vs Q E hr h => ?_)
  · obtain ⟨c, A, s, rfl, _⟩ := h
    rfl
  · obtain ⟨c, A, s, rfl, h, q⟩ := h
    refine ⟨_, (pss_one (ps_ret (pe_callB call_len_seq (by rfl) B.len_ (by decide +kernel) (pa_cons (pe_fc TC.cl (TC.no "marks" (by decide +kernel)) (pv 0)) pa_nil)))), ?_⟩
    obtain ⟨ms, m1, m2⟩ := h.mr
    have e : ms.length = s.marks.length := by rw [dpa_len m2, List.length_map]
    refine ⟨_, rfl, c, _, _, _, rfl, h.ins, fl_mk, A.mr, ms, rfl, .inl (SqL.of m1), ?_⟩
    rw [e]
    exact q
theorem strs_ix {l : List Str} {n : Str} (h : n ∈ l) : (l.map V.str)[l.idxOf n]? = some (.str n) ∧ ∀ (m : Nat) (z : V), m < l.idxOf n → (l.map V.str)[m]? = some z → eqV z (.str n) = false := by
  have hl := List.idxOf_lt_length_of_mem h
  refine ⟨?_, fun m z hm hz => ?_⟩
  · rw [List.getElem?_map, List.getElem?_eq_getElem hl, List.getElem_idxOf]
    rfl
  · rw [List.getElem?_map, List.getElem?_eq_getElem (by omega)] at hz
    cases hz
    have := List.not_of_lt_findIdx (p := (· == n)) (xs := l) (i := m) hm
    show (l[m] == n) = false
    simpa using this
def sp_p_Chain_number_of (K : PySem.W.Frag) (T : Tb) (CP CC : Addr) : Sp := fun vs H Q E => ∃ (c : Addr) (A : Ad) (s : Ch) (n : Str), vs = [.ref c, .str n] ∧ ChAt K CC H c A s ∧ (n ∈ s.row → Q (.int (s.row.idxOf n : Nat)) H) ∧ (n ∉ s.row → ∀ cls d H', Sm T H H' → Rf K CP "no hand" cls d H' → E cls d H')
theorem ok_p_Chain_number_of {f : Addr} {fd : FuncData} (F : Fun K "number_of" "Chain.number_of" s_p_Chain_number_of f fd) {CP : Addr} (R_NoHand : Err P w K mg base CP "NoHand" "no hand") {CC : Addr} (TC : Kl K CC) : FnOk P w K mg base (L2.CX P w) 4 f fd ["self", "name"] (sp_p_Chain_number_of K T CP CC) := by
  refine F.okX sc_p_Chain_number_of (fun vs H Q E h => ?_) (fun cdv A outer s H vs Q E hr h => ?_)
  · obtain ⟨c, A, s, n, rfl, _⟩ := h
    rfl
  · obtain ⟨c, A, s, n, rfl, h, k1, k2⟩ := h
    refine ⟨_, (pss_cons (ps_if (pt_cmpR op_notIn_seq (pv 1) (pe_fc TC.cl (TC.no "row" (by decide +kernel)) (pv 0)) (by rfl)) (pss_one (ps_raise rfl (takes_of rfl rfl rfl rfl) (pmk_err R_NoHand (hr.mono (by decide)) (by rfl)))) pss_nil)
      (pss_one (ps_ret (pe_bm PySem.F.plainAttrs_list PySem.F.slot_list_index PySem.F.type_list_index mt_index (pe_fc TC.cl (TC.no "row" (by decide +kernel)) (pv 0)) (pa_cons (pv 1) pa_nil))))), ?_⟩
    refine ⟨_, rfl, _, rfl, c, _, _, _, rfl, h.ins, fl_rw, A.rw, _, rfl, .inl (SqL.of h.rw), rfl, flat_strs _, _, rfl, ?_⟩
    show if (!inV (.str n) (s.row.map V.str)) = true then _ else _
    rw [inV_strs]
    by_cases hm : n ∈ s.row
    · rw [decide_eq_true hm]
      have e := strs_ix hm
      refine iteF ⟨_, rfl, c, _, _, _, rfl, h.ins, fl_rw, .inl ⟨rfl, _, SqL.of h.rw⟩, _, rfl, A.rw, _, _, s.row.idxOf n, .str n, rfl, rfl, SqL.of h.rw, rfl, flat_strs _, e.1, ?_, e.2, k1 hm⟩
      show (n == n) = true
      simp
    · rw [decide_eq_false hm]
      exact iteT fun cls dd hn' rf => k2 hm cls (some dd) _ (same_upd hn') rf
def sp_p_Chain_place (K : PySem.W.Frag) (T : Tb) (CP CC : Addr) : Sp := fun vs H Q E => ∃ (c : Addr) (A : Ad) (s : Ch) (n : Str), vs = [.ref c, .str n] ∧ ChAt K CC H c A s ∧ s.spots.length = s.row.length ∧ (n ∈ s.row → ∀ q, SqT K H q (tv (am (s.spots.getD (s.row.idxOf n) 0))) → Q (.ref q) H) ∧ (n ∉ s.row → ∀ cls d H', Sm T H H' → Rf K CP "no hand" cls d H' → E cls d H')
theorem ok_p_Chain_place {f : Addr} {fd : FuncData} (F : Fun K "place" "Chain.place" s_p_Chain_place f fd) {CP : Addr} {CC : Addr} (TC : Kl K CC) (M_number_of : Mx P w K mg base CC 4 "number_of" ["self", "name"] (sp_p_Chain_number_of K T CP CC)) : FnOk P w K mg base (L2.CX P w) 5 f fd ["self", "name"] (sp_p_Chain_place K T CP CC) := by
  refine F.okX sc_p_Chain_place (fun vs H Q E h => ?_) (fun cdv A outer s H vs Q E hr h => ?_)
  · obtain ⟨c, A, s, n, rfl, _⟩ := h
    rfl
  · obtain ⟨c, A, s, n, rfl, h, hl, k1, k2⟩ := h
    refine ⟨_, (pss_one (ps_ret (pe_ix ix_list (pe_fc TC.cl (TC.no "spots" (by decide +kernel)) (pv 0)) (pe_mx M_number_of TC.cl (hr.mono (by decide)) (takes_of rfl rfl rfl rfl) (pv 0) (pa_cons (pv 1) pa_nil)) (fun _ _ => rfl)))), ?_⟩
    obtain ⟨ps, p1, p2⟩ := h.sp
    refine ⟨_, rfl, c, _, _, _, rfl, h.ins, fl_sp, _, rfl, c, _, _, rfl, h.ins, fl_no (by decide +kernel), _, rfl, c, A, s, n, rfl, h, fun hm => ?_, k2⟩
    have hi : s.row.idxOf n < s.spots.length := by rw [hl]; exact List.idxOf_lt_length_of_mem hm
    obtain ⟨b, g, q⟩ := p2.at hi
    exact ⟨A.sp, ps, _, .ref b, rfl, rfl, SqL.of p1, at_of (j := s.row.idxOf n) rfl g, k1 hm b q⟩
def sp_p_Chain_ledger (K : PySem.W.Frag) (T : Tb) (CP CC : Addr) : Sp := fun vs H Q E => ∃ (c : Addr) (A : Ad) (s : Ch) (n : Str), vs = [.ref c, .str n] ∧ ChAt K CC H c A s ∧ (∀ x, getL s.ledgers n = some x → ∀ v, Dp K H v (ledD x) → Q v H) ∧ (getL s.ledgers n = none → ∀ cls d H', Sm T H H' → Rf K CP "no hand" cls d H' → E cls d H')
theorem ok_p_Chain_ledger {f : Addr} {fd : FuncData} (F : Fun K "ledger" "Chain.ledger" s_p_Chain_ledger f fd) {CP : Addr} (R_NoHand : Err P w K mg base CP "NoHand" "no hand") {CC : Addr} (TC : Kl K CC) : FnOk P w K mg base (L2.CX P w) 4 f fd ["self", "name"] (sp_p_Chain_ledger K T CP CC) := by
  refine F.okX sc_p_Chain_ledger (fun vs H Q E h => ?_) (fun cdv A outer s H vs Q E hr h => ?_)
  · obtain ⟨c, A, s, n, rfl, _⟩ := h
    rfl
  · obtain ⟨c, A, s, n, rfl, h, k1, k2⟩ := h
    refine ⟨_, (pss_cons (ps_if (pt_cmp (pc_dnotin (hu_of hr) (pv 1) (pe_fc TC.cl (TC.no "ledgers" (by decide +kernel)) (pv 0)))) (pss_one (ps_raise rfl (takes_of rfl rfl rfl rfl) (pmk_err R_NoHand (hr.mono (by decide)) (by rfl)))) pss_nil)
      (pss_one (ps_ret (pe_dget (hu_of hr) (pe_fc TC.cl (TC.no "ledgers" (by decide +kernel)) (pv 0)) (pv 1) (fun _ _ => rfl))))), ?_⟩
    obtain ⟨kv, g1, g2⟩ := h.lg
    refine ⟨_, rfl, _, rfl, c, _, _, _, rfl, h.ins, fl_lg, A.lg, _, rfl, DGet.k (k := Sum.inr n) g1, _, rfl, ?_⟩
    rcases led_val g2 n with ⟨e1, e2⟩ | ⟨x, v, e1, e2, e3⟩
    · rw [e2]
      exact iteT fun cls dd hn' rf => k2 e1 cls (some dd) _ (same_upd hn') rf
    · rw [e2]
      refine iteF ⟨_, rfl, c, _, _, _, rfl, h.ins, fl_lg, _, rfl, A.lg, _, rfl, ?_, k1 x e1 v e3⟩
      rw [← e2]
      exact DGet.k (k := Sum.inr n) g1
/-- the paces of the row -/
def pcs (s : Ch) : List Int := s.row.map fun n => (getL s.tempos n).getD 1

def sp_p_Chain_hour (K : PySem.W.Frag) (T : Tb) (CC : Addr) : Sp := fun vs H Q _ => ∃ (c : Addr) (A : Ad) (s : Ch), vs = [.ref c] ∧ ChAt K CC H c A s ∧ ∀ q, SqT K H q (tv (am s.now)) → Q (.ref q) H
theorem ok_p_Chain_hour {f : Addr} {fd : FuncData} (F : Fun K "hour" "Chain.hour" s_p_Chain_hour f fd) {CC : Addr} (TC : Kl K CC) : FnOk P w K mg base CX0 1 f fd ["self"] (sp_p_Chain_hour K T CC) := by
  refine F.ok sc_p_Chain_hour (fun vs H Q E h => ?_) (fun cdv A outer s H vs Q E hr h => ?_)
  · obtain ⟨c, A, s, rfl, _⟩ := h
    rfl
  · obtain ⟨c, A, s, rfl, h, q⟩ := h
    refine ⟨_, (pss_one (ps_ret (pe_fc TC.cl (TC.no "now" (by decide +kernel)) (pv 0)))), ?_⟩
    exact ⟨_, rfl, c, _, _, _, rfl, h.ins, fl_nw, q _ h.nw⟩

def wOk (q : Am) : Bool := (decide (1 ≤ q.1) && decide (q.1 ≤ 9)) && (decide (1 ≤ q.2) && decide (q.2 ≤ 9))
def wayB (qs : List Am) : Bool := (decide (1 ≤ qs.length) && decide (qs.length ≤ 6)) && qs.all wOk
def labourM (qs : List Am) : Int := (qs.map fun (q : Int × Int) => q.1 * q.2).sum
def stepsM (qs : List Am) : Int := (qs.map fun (q : Int × Int) => q.1).sum
theorem wOk_b {q : Am} (h : wOk q = true) : 1 ≤ q.1 ∧ q.1 ≤ 9 ∧ 1 ≤ q.2 ∧ q.2 ≤ 9 := by
  unfold wOk at h
  simp only [Bool.and_eq_true, decide_eq_true_eq] at h
  exact ⟨h.1.1, h.1.2, h.2.1, h.2.2⟩
theorem wayB_b {qs : List Am} (h : wayB qs = true) : 1 ≤ qs.length ∧ qs.length ≤ 6 ∧ ∀ q ∈ qs, 1 ≤ q.1 ∧ q.1 ≤ 9 ∧ 1 ≤ q.2 ∧ q.2 ≤ 9 := by
  unfold wayB at h
  simp only [Bool.and_eq_true, decide_eq_true_eq, List.all_eq_true] at h
  exact ⟨h.1.1, h.1.2, fun q hq => wOk_b (h.2 q hq)⟩
theorem sum_bd {c : Int} (hc : 0 ≤ c) : ∀ (l : List Int), (∀ z ∈ l, 0 ≤ z ∧ z ≤ c) → 0 ≤ l.sum ∧ l.sum ≤ c * (l.length : Int)
  | [], _ => by simp
  | z :: l, h => by
    have i := sum_bd hc l fun y hy => h y (List.mem_cons_of_mem _ hy)
    have j := h z List.mem_cons_self
    rw [List.sum_cons, List.length_cons]
    have e : c * ((l.length + 1 : Nat) : Int) = c * (l.length : Int) + c := by rw [Int.natCast_add, Int.mul_add]; simp
    rw [e]
    omega
theorem long_of {l : List Int} (h : ∀ z ∈ l, 0 ≤ z ∧ z ≤ 81) (hl : l.length ≤ 6) : ∀ j, j < l.length → InLong (l.getD j 0) ∧ InLong ((l.take (j + 1)).sum) := fun j hj => by
  constructor
  · rw [List.getD_eq_getElem?_getD, List.getElem?_eq_getElem hj]
    have := h _ (List.getElem_mem hj)
    show -(2 ^ 63) ≤ l[j] ∧ l[j] < 2 ^ 63
    omega
  · have s := sum_bd (c := 81) (by decide) (l.take (j + 1)) fun z hz => h z (List.mem_of_mem_take hz)
    have : ((l.take (j + 1)).length : Int) ≤ 6 := by rw [List.length_take]; omega
    show -(2 ^ 63) ≤ (l.take (j + 1)).sum ∧ (l.take (j + 1)).sum < 2 ^ 63
    omega
theorem pairs_of {K : PySem.W.Frag} {H : Hp} {a : Addr} {vs : List V} {qs : List Am} (hS : SqL K H a vs) (hd : DpAll K H vs (qs.map amD)) : Pairs K H a qs := by
  refine ⟨vs, hS, ?_, fun i p e => ?_⟩
  · rw [dpa_len hd, List.length_map]
  · obtain ⟨v, e1, e2⟩ := dpa_get hd (i := i) (d := amD p) (by rw [List.getElem?_map, e]; rfl)
    obtain ⟨b, rfl, hb⟩ := pd_at e2
    exact ⟨b, e1, hb⟩
def sp_p_is_stretch (K : PySem.W.Frag) (T : Tb) : Sp := fun vs H Q _ => ∃ b q, vs = [.ref b] ∧ SqT K H b (tv q) ∧ Ok T H ∧ ∀ H', Sm T H H' → Q (.bl (wOk q)) H'
theorem ok_p_is_stretch {f : Addr} {fd : FuncData} {u_MOST_STEPS_OR_TOIL : Value} {c PT : Addr} (F : FunC K "is_stretch" "is_stretch" s_p_is_stretch f fd c) (hnT : (T.map (·.1)).Nodup) (hPT : (PT, (none : Option Str)) ∈ T) (TB : GxR.TabB base mg c PT) (B : Bn mg) (C_MOST_STEPS_OR_TOIL : RelV (.int 9) u_MOST_STEPS_OR_TOIL ∧ mg "MOST_STEPS_OR_TOIL" = some u_MOST_STEPS_OR_TOIL) {fW fN : Addr} (Wt : WithAt K fW) (kW : PySem.W.keepIn K (.ref fW) = true) (gW : mg "is_within" = some (.ref fW)) (N : NumAt K fN) (kN : PySem.W.keepIn K (.ref fN) = true) (gN : mg "is_number" = some (.ref fN)) : FnOk P w K mg base CX0 1 f fd ["thing"] (sp_p_is_stretch K T) := by
  obtain ⟨⟨tM, rfl⟩, gM⟩ := C_MOST_STEPS_OR_TOIL
  refine F.ok sc_p_is_stretch (fun vs H Q E h => ?_) (fun A outer s H vs Q E hr h => ?_)
  · obtain ⟨b, q, rfl, _⟩ := h
    rfl
  · obtain ⟨b, q, rfl, hS, hok, k⟩ := h
    refine ⟨_, (pss_cons (ps_if (PW.pt (pw_or (pt_not (pt_val (pe_callB call_isi (by rfl) B.isinstance_ (by decide +kernel) (pa_cons (pv 0) (pa_cons (pe_bltn (v := .ty "tuple") (by rfl) B.tuple_ (by decide +kernel) rfl) pa_nil))))) (pw_or1 (pt_cmpR op_ne (pe_callB call_len_seq (by rfl) B.len_ (by decide +kernel) (pa_cons (pv 0) pa_nil)) pe_int (nomark _))))) (pss_one (ps_ret pe_bl)) pss_nil)
      (pss_one (ps_ret (pe_allI hnT hPT hr (by rfl) B.all_ (by decide +kernel) TB rfl (gens_by (by decide +kernel)) (pv 0) (elt_num hr Wt kW gW N kN gN gM rfl B.isinstance_ B.int_ B.bool_ rfl rfl rfl rfl) (fun _ => rfl))))), ?_⟩
    refine ⟨_, rfl, _, _, _, _, true, rfl, .ty "tuple", tyx_of (amD_dp hS), kit_ty kb_tuple_tuple, _, rfl, iteF ?_⟩
    refine ⟨_, rfl, b, _, rfl, .inr hS, rfl, _, rfl, iteF ?_⟩
    refine ⟨_, rfl, b, [q.1, q.2], rfl, hS, hok _ hPT, hok, fun H2 s2 => ?_⟩
    have e : ([q.1, q.2].all fun i => decide (1 ≤ i) && decide (i ≤ 9)) = wOk q := by
      unfold wOk
      rw [List.all_cons, List.all_cons, List.all_nil, Bool.and_true]
    rw [e]
    exact k H2 s2
def sp_p_check_way (K : PySem.W.Frag) (T : Tb) (CP : Addr) : Sp := fun vs H Q E => ∃ a us qs, vs = [.ref a] ∧ SqL K H a us ∧ DpAll K H us (qs.map amD) ∧ qs.length ≤ 1000 ∧ Ok T H ∧ (wayB qs = true → ∀ H', Sm T H H' → Q .non H') ∧
  (wayB qs = false → ∀ cls d H', Sm T H H' → Rf K CP "bad way" cls d H' → E cls d H')
theorem ok_p_check_way {f : Addr} {fd : FuncData} {u_MOST_STRETCHES : Value} (F : Fun K "check_way" "check_way" s_p_check_way f fd) (B : Bn mg) (C_MOST_STRETCHES : RelV (.int 6) u_MOST_STRETCHES ∧ mg "MOST_STRETCHES" = some u_MOST_STRETCHES) {CP : Addr} (R_BadWay : Err P w K mg base CP "BadWay" "bad way") (F_p_is_stretch : Fn P w K mg base 1 "is_stretch" ["thing"] (sp_p_is_stretch K T)) : FnOk P w K mg base (L2.CX P w) 4 f fd ["way"] (sp_p_check_way K T CP) := by
  refine F.okX sc_p_check_way (fun vs H Q E h => ?_) (fun cdv A outer s H vs Q E hr h => ?_)
  · obtain ⟨a, us, qs, rfl, _⟩ := h
    rfl
  · obtain ⟨a, us, qs, rfl, hS, hd, hl, hok, k1, k2⟩ := h
    obtain ⟨⟨tM, rfl⟩, gM⟩ := id C_MOST_STRETCHES
    refine ⟨_, (pss_cons (ps_if (pt_not (pt_chain op_le op_le pe_int (pe_callB call_len_seq (by rfl) B.len_ (by decide +kernel) (pa_cons (pv 0) pa_nil)) (pe_glob (by rfl) C_MOST_STRETCHES.2 C_MOST_STRETCHES.1))) (pss_one (ps_raise rfl (takes_of rfl rfl rfl rfl) (pmk_err R_BadWay (hr.mono (by decide)) (by rfl)))) pss_nil)
      (pss_one (ps_for (passes_of rfl) rfl (pi_list (pv 0)) (pg_name (i := 1) sc_p_check_way.nd rfl (.inl rfl))
      (pss_one (ps_if (pt_not (pt_val (pe_fn F_p_is_stretch (hr.mono (by decide)) (pa_cons (pv 1) pa_nil)))) (pss_one (ps_raise rfl (takes_of rfl rfl rfl rfl) (pmk_err R_BadWay (hr.mono (by decide)) (by rfl)))) pss_nil))))), ?_⟩
    have el : us.length = qs.length := by rw [dpa_len hd, List.length_map]
    have bad : wayB qs = false → ∀ (H1 : Hp), Sm T H H1 → tErr K CP "bad way" [] H1 (fun cls d H' => E cls d H') := fun hb H1 s1 cls dd hn rf => k2 hb cls (some dd) _ (s1.trans (same_upd hn)) rf
    refine ⟨_, rfl, a, us, rfl, .inl hS, _, _, rfl, rfl, _, rfl, ?_⟩
    by_cases h1 : (1 : Int) ≤ (us.length : Int)
    · rw [decide_eq_true h1]
      refine iteT ?_
      refine ⟨_, _, rfl, rfl, _, rfl, ?_⟩
      by_cases h2 : (us.length : Int) ≤ 6
      · rw [decide_eq_true h2]
        refine iteF ?_
        refine ⟨_, rfl, a, rfl, ⟨_, hS⟩, for_list (K := K) (a := a) (xs := us) (fun i σ H3 => Sm T H H3 ∧ (qs.take i).all wOk = true ∧ ∃ x, σ = [some (.ref a), x]) ⟨Sm.refl, by rw [List.take_zero]; rfl, _, rfl⟩ (fun i σ H3 _ ⟨s3, _⟩ => s3.seq hS) ?_ ?_⟩
        · rintro i v σ H3 hi ⟨s3, ha, x, rfl⟩
          have hil : i < qs.length := by rw [← el]; exact (List.getElem?_eq_some_iff.mp hi).1
          obtain ⟨v', e1, e2⟩ := dpa_get hd (i := i) (d := amD qs[i]) (by rw [List.getElem?_map, List.getElem?_eq_getElem hil]; rfl)
          rw [hi] at e1
          cases e1
          obtain ⟨b, rfl, hb⟩ := pd_at e2
          refine ⟨_, rfl, b, qs[i], rfl, same_tup s3 hb, s3.ok hok, fun H4 s4 => ⟨_, rfl, ?_⟩⟩
          cases hw : wOk qs[i] with
          | true =>
            refine iteF ?_
            refine ⟨s3.trans s4, ?_, _, rfl⟩
            rw [List.take_add_one, List.all_append, ha, List.getElem?_eq_getElem hil]
            show (true && ([qs[i]].all wOk)) = true
            rw [List.all_cons, hw]
            rfl
          | false =>
            refine iteT ?_
            refine bad ?_ H4 (s3.trans s4)
            unfold wayB
            rw [Bool.and_eq_false_iff]
            refine .inr ?_
            rw [List.all_eq_false]
            exact ⟨_, List.getElem_mem hil, by rw [hw]; decide⟩
        · rintro σ H3 ⟨s3, ha, x, rfl⟩
          refine k1 ?_ H3 s3
          rw [el, List.take_length] at ha
          unfold wayB
          rw [ha, Bool.and_true, Bool.and_eq_true]
          exact ⟨decide_eq_true (by omega), decide_eq_true (by omega)⟩
      · rw [decide_eq_false h2]
        refine iteT ?_
        refine bad ?_ H Sm.refl
        unfold wayB
        rw [Bool.and_eq_false_iff, Bool.and_eq_false_iff]
        exact .inl (.inr (decide_eq_false (by omega)))
    · rw [decide_eq_false h1]
      refine iteF ?_
      refine ⟨_, rfl, iteT ?_⟩
      refine bad ?_ H Sm.refl
      unfold wayB
      rw [Bool.and_eq_false_iff, Bool.and_eq_false_iff]
      exact .inl (.inl (decide_eq_false (by omega)))
def sp_p_labour (K : PySem.W.Frag) (T : Tb) (CP : Addr) : Sp := fun vs H Q E => ∃ a us qs, vs = [.ref a] ∧ SqL K H a us ∧ DpAll K H us (qs.map amD) ∧ qs.length ≤ 1000 ∧ Ok T H ∧ (wayB qs = true → ∀ H', Sm T H H' → Q (.int (labourM qs)) H') ∧
  (wayB qs = false → ∀ cls d H', Sm T H H' → Rf K CP "bad way" cls d H' → E cls d H')
theorem ok_p_labour {f : Addr} {fd : FuncData} {c PT : Addr} (F : FunC K "labour" "labour" s_p_labour f fd c) (hnT : (T.map (·.1)).Nodup) (hPT : (PT, (none : Option Str)) ∈ T) (TB : GxR.TabB base mg c PT) (B : Bn mg) {CP : Addr} (F_p_check_way : Fx P w K mg base 4 "check_way" ["way"] (sp_p_check_way K T CP)) : FnOk P w K mg base (L2.CX P w) 5 f fd ["way"] (sp_p_labour K T CP) := by
  refine F.okX sc_p_labour (fun vs H Q E h => ?_) (fun A outer s H vs Q E hr h => ?_)
  · obtain ⟨a, us, qs, rfl, _⟩ := h
    rfl
  · obtain ⟨a, us, qs, rfl, hS, hd, hl, hok, k1, k2⟩ := h
    refine ⟨_, (pss_cons (ps_expr (pe_fx F_p_check_way (hr.mono (by decide)) (takes_of rfl rfl rfl rfl) (pa_cons (pv 0) pa_nil)))
      (pss_one (ps_ret (pe_sumP hnT hPT hr (by rfl) B.sum_ (by decide +kernel) TB rfl (gens_by (by decide +kernel)) rfl (by decide) (pv 0) (elt_mul rfl rfl rfl) (fun _ => rfl))))), ?_⟩
    refine ⟨_, rfl, a, us, qs, rfl, hS, hd, hl, hok, fun hw H1 s1 => ?_, k2⟩
    have hb := wayB_b hw
    refine ⟨_, rfl, a, qs, rfl, (pairs_of hS hd).keep s1, fun q hq => by have := hb.2.2 q hq; omega, s1.ok hok _ hPT, ⟨s1.ok hok, ?_⟩, fun H2 s2 => k1 hw H2 (s1.trans s2)⟩
    have := long_of (l := qs.map fun (q : Int × Int) => q.1 * q.2) (fun z hz => ?_) (by rw [List.length_map]; exact hb.2.1)
    · rw [List.length_map] at this
      exact this
    · obtain ⟨q, hq, rfl⟩ := List.mem_map.mp hz
      have c := hb.2.2 q hq
      exact ⟨Int.mul_nonneg (by omega) (by omega), (Int.mul_le_mul c.2.1 c.2.2.2 (by omega) (by omega) : q.1 * q.2 ≤ 9 * 9)⟩

theorem pairs_ofT {K : PySem.W.Frag} {H : Hp} {a : Addr} {vs : List V} {qs : List Am} (hS : SqT K H a vs) (hd : DpAll K H vs (qs.map amD)) : PairsT K H a qs := by
  refine ⟨vs, hS, by rw [dpa_len hd, List.length_map], fun i p e => ?_⟩
  obtain ⟨v, e1, e2⟩ := dpa_get hd (i := i) (d := amD p) (by rw [List.getElem?_map, e]; rfl)
  obtain ⟨b, rfl, hb⟩ := pd_at e2
  exact ⟨b, e1, hb⟩
def sp_p_check_way_t (K : PySem.W.Frag) (T : Tb) (CP : Addr) : Sp := fun vs H Q E => ∃ a us qs, vs = [.ref a] ∧ SqT K H a us ∧ DpAll K H us (qs.map amD) ∧ qs.length ≤ 1000 ∧ Ok T H ∧ (wayB qs = true → ∀ H', Sm T H H' → Q .non H') ∧
  (wayB qs = false → ∀ cls d H', Sm T H H' → Rf K CP "bad way" cls d H' → E cls d H')
theorem ok_p_check_way_t {f : Addr} {fd : FuncData} {u_MOST_STRETCHES : Value} (F : Fun K "check_way" "check_way" s_p_check_way_t f fd) (B : Bn mg) (C_MOST_STRETCHES : RelV (.int 6) u_MOST_STRETCHES ∧ mg "MOST_STRETCHES" = some u_MOST_STRETCHES) {CP : Addr} (R_BadWay : Err P w K mg base CP "BadWay" "bad way") (F_p_is_stretch : Fn P w K mg base 1 "is_stretch" ["thing"] (sp_p_is_stretch K T)) : FnOk P w K mg base (L2.CX P w) 4 f fd ["way"] (sp_p_check_way_t K T CP) := by
  refine F.okX sc_p_check_way_t (fun vs H Q E h => ?_) (fun cdv A outer s H vs Q E hr h => ?_)
  · obtain ⟨a, us, qs, rfl, _⟩ := h
    rfl
  · obtain ⟨a, us, qs, rfl, hS, hd, hl, hok, k1, k2⟩ := h
    obtain ⟨⟨tM, rfl⟩, gM⟩ := id C_MOST_STRETCHES
    refine ⟨_, (pss_cons (ps_if (pt_not (pt_chain op_le op_le pe_int (pe_callB call_len_seq (by rfl) B.len_ (by decide +kernel) (pa_cons (pv 0) pa_nil)) (pe_glob (by rfl) C_MOST_STRETCHES.2 C_MOST_STRETCHES.1))) (pss_one (ps_raise rfl (takes_of rfl rfl rfl rfl) (pmk_err R_BadWay (hr.mono (by decide)) (by rfl)))) pss_nil)
      (pss_one (ps_for (passes_of rfl) rfl (pi_tup (pv 0)) (pg_name (i := 1) sc_p_check_way_t.nd rfl (.inl rfl))
      (pss_one (ps_if (pt_not (pt_val (pe_fn F_p_is_stretch (hr.mono (by decide)) (pa_cons (pv 1) pa_nil)))) (pss_one (ps_raise rfl (takes_of rfl rfl rfl rfl) (pmk_err R_BadWay (hr.mono (by decide)) (by rfl)))) pss_nil))))), ?_⟩
    have el : us.length = qs.length := by rw [dpa_len hd, List.length_map]
    have bad : wayB qs = false → ∀ (H1 : Hp), Sm T H H1 → tErr K CP "bad way" [] H1 (fun cls d H' => E cls d H') := fun hb H1 s1 cls dd hn rf => k2 hb cls (some dd) _ (s1.trans (same_upd hn)) rf
    refine ⟨_, rfl, a, us, rfl, .inr hS, _, _, rfl, rfl, _, rfl, ?_⟩
    by_cases h1 : (1 : Int) ≤ (us.length : Int)
    · rw [decide_eq_true h1]
      refine iteT ?_
      refine ⟨_, _, rfl, rfl, _, rfl, ?_⟩
      by_cases h2 : (us.length : Int) ≤ 6
      · rw [decide_eq_true h2]
        refine iteF ?_
        refine ⟨_, rfl, a, rfl, ⟨_, hS⟩, for_it (walk_tup (K := K) (a := a) (xs := us)) (fun i σ H3 => Sm T H H3 ∧ (qs.take i).all wOk = true ∧ ∃ x, σ = [some (.ref a), x]) ⟨Sm.refl, by rw [List.take_zero]; rfl, _, rfl⟩ (fun i σ H3 _ ⟨s3, _⟩ => same_tup s3 hS) ?_ ?_⟩
        · rintro i v σ H2' H3 hi' ⟨s3, ha, x, rfl⟩ ⟨eH, hi⟩
          subst eH
          have hil : i < qs.length := by rw [← el]; exact (List.getElem?_eq_some_iff.mp hi).1
          obtain ⟨v', e1, e2⟩ := dpa_get hd (i := i) (d := amD qs[i]) (by rw [List.getElem?_map, List.getElem?_eq_getElem hil]; rfl)
          rw [hi] at e1
          cases e1
          obtain ⟨b, rfl, hb⟩ := pd_at e2
          refine ⟨_, rfl, b, qs[i], rfl, same_tup s3 hb, s3.ok hok, fun H4 s4 => ⟨_, rfl, ?_⟩⟩
          cases hw : wOk qs[i] with
          | true =>
            refine iteF ?_
            refine ⟨s3.trans s4, ?_, _, rfl⟩
            rw [List.take_add_one, List.all_append, ha, List.getElem?_eq_getElem hil]
            show (true && ([qs[i]].all wOk)) = true
            rw [List.all_cons, hw]
            rfl
          | false =>
            refine iteT ?_
            refine bad ?_ H4 (s3.trans s4)
            unfold wayB
            rw [Bool.and_eq_false_iff]
            refine .inr ?_
            rw [List.all_eq_false]
            exact ⟨_, List.getElem_mem hil, by rw [hw]; decide⟩
        · rintro σ H3 ⟨s3, ha, x, rfl⟩
          refine k1 ?_ H3 s3
          rw [el, List.take_length] at ha
          unfold wayB
          rw [ha, Bool.and_true, Bool.and_eq_true]
          exact ⟨decide_eq_true (by omega), decide_eq_true (by omega)⟩
      · rw [decide_eq_false h2]
        refine iteT ?_
        refine bad ?_ H Sm.refl
        unfold wayB
        rw [Bool.and_eq_false_iff, Bool.and_eq_false_iff]
        exact .inl (.inr (decide_eq_false (by omega)))
    · rw [decide_eq_false h1]
      refine iteF ?_
      refine ⟨_, rfl, iteT ?_⟩
      refine bad ?_ H Sm.refl
      unfold wayB
      rw [Bool.and_eq_false_iff, Bool.and_eq_false_iff]
      exact .inl (.inl (decide_eq_false (by omega)))
def sp_p_labour_t (K : PySem.W.Frag) (T : Tb) (CP : Addr) : Sp := fun vs H Q E => ∃ a us qs, vs = [.ref a] ∧ SqT K H a us ∧ DpAll K H us (qs.map amD) ∧ qs.length ≤ 1000 ∧ Ok T H ∧ (wayB qs = true → ∀ H', Sm T H H' → Q (.int (labourM qs)) H') ∧
  (wayB qs = false → ∀ cls d H', Sm T H H' → Rf K CP "bad way" cls d H' → E cls d H')
theorem ok_p_labour_t {f : Addr} {fd : FuncData} {c PT : Addr} (F : FunC K "labour" "labour" s_p_labour_t f fd c) (hnT : (T.map (·.1)).Nodup) (hPT : (PT, (none : Option Str)) ∈ T) (TB : GxR.TabB base mg c PT) (B : Bn mg) {CP : Addr} (F_p_check_way_t : Fx P w K mg base 4 "check_way" ["way"] (sp_p_check_way_t K T CP)) : FnOk P w K mg base (L2.CX P w) 5 f fd ["way"] (sp_p_labour_t K T CP) := by
  refine F.okX sc_p_labour_t (fun vs H Q E h => ?_) (fun A outer s H vs Q E hr h => ?_)
  · obtain ⟨a, us, qs, rfl, _⟩ := h
    rfl
  · obtain ⟨a, us, qs, rfl, hS, hd, hl, hok, k1, k2⟩ := h
    refine ⟨_, (pss_cons (ps_expr (pe_fx F_p_check_way_t (hr.mono (by decide)) (takes_of rfl rfl rfl rfl) (pa_cons (pv 0) pa_nil)))
      (pss_one (ps_ret (pe_sumPT hnT hPT hr (by rfl) B.sum_ (by decide +kernel) TB rfl (gens_by (by decide +kernel)) rfl (by decide) (pv 0) (elt_mul rfl rfl rfl) (fun _ => rfl))))), ?_⟩
    refine ⟨_, rfl, a, us, qs, rfl, hS, hd, hl, hok, fun hw H1 s1 => ?_, k2⟩
    have hb := wayB_b hw
    refine ⟨_, rfl, a, qs, rfl, (pairs_ofT hS hd).keep s1, fun q hq => by have := hb.2.2 q hq; omega, s1.ok hok _ hPT, ⟨s1.ok hok, ?_⟩, fun H2 s2 => k1 hw H2 (s1.trans s2)⟩
    have := long_of (l := qs.map fun (q : Int × Int) => q.1 * q.2) (fun z hz => ?_) (by rw [List.length_map]; exact hb.2.1)
    · rw [List.length_map] at this
      exact this
    · obtain ⟨q, hq, rfl⟩ := List.mem_map.mp hz
      have c := hb.2.2 q hq
      exact ⟨Int.mul_nonneg (by omega) (by omega), (Int.mul_le_mul c.2.1 c.2.2.2 (by omega) (by omega) : q.1 * q.2 ≤ 9 * 9)⟩

def newS (L : Int) (qs : List Am) : Ch := { fire := L, way := qs, now := 0, row := [], loads := [], spots := [], tempos := [], leaving := [], ledgers := [], marks := [], poured := [] }

def sp_init (sq : PySem.W.Frag → Hp → Addr → List V → Prop) (K : PySem.W.Frag) (T : Tb) (CP CC : Addr) : Sp := fun vs H Q E => ∃ (H0 : Hp) (c dx a : Addr) (us : List V) (qs : List Am), vs = [.ref c, .ref a] ∧ H = upd (upd H0 dx (.own c)) c (.ins CC dx []) ∧ H0 c = none ∧ H0 dx = none ∧ dx ≠ c ∧ sq K H0 a us ∧ DpAll K H0 us (qs.map amD) ∧ qs.length ≤ 1000 ∧ Ok T H0 ∧
  (wayB qs = true → ∀ H' A, Sm T H0 H' → ChAt K CC H' c A (newS (labourM qs) qs) → (∀ x ∈ ownC c A, H0 x = none) → Q .non H') ∧ (wayB qs = false → ∀ cls d H', Sm T H0 H' → Rf K CP "bad way" cls d H' → E cls d H')
abbrev sp_p_Chain___init__ : PySem.W.Frag → Tb → Addr → Addr → Sp := sp_init SqL
abbrev sp_p_Chain___init___t : PySem.W.Frag → Tb → Addr → Addr → Sp := sp_init SqT
/-- an instance that is being made -/
structure Mkg (T : Tb) (CC : Addr) (H0 H : Hp) (c dx : Addr) (fs : List (Str × V)) (L : List (Addr × HO)) : Prop where
  sm : Sm T H0 H
  ins : H c = some (.ins CC dx fs)
  own : H dx = some (.own c)
  at_ : ∀ x ∈ L, H x.1 = some x.2 ∧ H0 x.1 = none
  nd : (c :: L.map (·.1)).Nodup
theorem Mkg.val {T : Tb} {CC : Addr} {H0 H : Hp} {c dx : Addr} {fs : List (Str × V)} {L : List (Addr × HO)} (m : Mkg T CC H0 H c dx fs L) (nc : H0 c = none) (hd : dx ≠ c) (f : Str) (y : V) : Mkg T CC H0 (upd H c (.ins CC dx (putF f y fs))) c dx (putF f y fs) L := by
  refine ⟨⟨fun b o e n => ?_, fun hk q hq' => okP_mut2 (m.sm.ok hk q hq') m.ins rfl, fun l hl => ?_⟩, upd_same, by rw [upd_ne hd]; exact m.own, fun x hx => ?_, m.nd⟩
  · rw [upd_ne (fun z => by rw [z, nc] at e; cases e)]
    exact m.sm.keep b o e n
  · by_cases z : l = c
    · rw [z]; exact nc
    · rw [upd_ne z] at hl; exact m.sm.free l hl
  · have h := m.at_ x hx
    have hn : x.1 ≠ c := fun z => (List.nodup_cons.mp m.nd).1 (by rw [← z]; exact List.mem_map.mpr ⟨x, hx, rfl⟩)
    rw [upd_ne hn]
    exact h
theorem Mkg.sm' {T : Tb} {CC : Addr} {H0 H H' : Hp} {c dx : Addr} {fs : List (Str × V)} {L : List (Addr × HO)} (m : Mkg T CC H0 H c dx fs L) (s : Sm T H H') (hL : ∀ x ∈ L, nTbl x.2) : Mkg T CC H0 H' c dx fs L :=
  ⟨m.sm.trans s, s.k m.ins, s.k m.own, fun x hx => ⟨s.keep _ _ (m.at_ x hx).1 (hL x hx), (m.at_ x hx).2⟩, m.nd⟩
theorem Mkg.new {T : Tb} {CC : Addr} {H0 H : Hp} {c dx : Addr} {fs : List (Str × V)} {L : List (Addr × HO)} (m : Mkg T CC H0 H c dx fs L) (nc : H0 c = none) (hd : dx ≠ c) (f : Str) {p : Addr} {o : HO} (np : H p = none) (hL : ∀ x ∈ L, nTbl x.2) :
    Mkg T CC H0 (upd (upd H p o) c (.ins CC dx (putF f (.ref p) fs))) c dx (putF f (.ref p) fs) ((p, o) :: L) := by
  have u := same_upd (T := T) (o := o) np
  have m1 := m.sm' u hL
  have m2 : Mkg T CC H0 (upd H p o) c dx fs ((p, o) :: L) := by
    refine ⟨m1.sm, m1.ins, m1.own, fun x hx => ?_, ?_⟩
    · rcases List.mem_cons.mp hx with z | z
      · rw [z]; exact ⟨upd_same, m.sm.free _ np⟩
      · exact m1.at_ x z
    · rw [List.map_cons]
      have hpc : p ≠ c := fun z => by rw [z, m.ins] at np; cases np
      have hpL : p ∉ L.map (·.1) := fun z => by
        obtain ⟨x, hx, e⟩ := List.mem_map.mp z
        have := (m.at_ x hx).1
        rw [e, np] at this
        cases this
      have nd := List.nodup_cons.mp m.nd
      exact List.nodup_cons.mpr ⟨fun z => (List.mem_cons.mp z).elim (fun e => hpc e.symm) nd.1, List.nodup_cons.mpr ⟨hpL, nd.2⟩⟩
  exact m2.val nc hd f (.ref p)
theorem nt1 {L : List (Addr × HO)} (h : L.all (fun x => mutO x.2) = true) : ∀ x ∈ L, nTbl x.2 := fun x hx => by
  have := List.all_eq_true.mp h x hx
  cases e : x.2 <;> rw [e] at this <;> first | trivial | cases this
theorem nd_perm {l l' : List Addr} (h : l.Nodup) (p : l.Perm l') : l'.Nodup := p.nodup_iff.mp h
theorem ok_p_Chain___init__ {f : Addr} {fd : FuncData} {a_NOUGHT : Addr} (F : Fun K "__init__" "Chain.__init__" s_p_Chain___init__ f fd) (B : Bn mg) (g_NOUGHT : mg "NOUGHT" = some (.ref a_NOUGHT)) (s_NOUGHT : ∀ H, SqT K H a_NOUGHT [.int 0, .int 1]) {CP : Addr} {CC : Addr} (TC : Kl K CC) (F_p_labour : Fx P w K mg base 5 "labour" ["way"] (sp_p_labour K T CP)) : FnOk P w K mg base (L2.CX P w) 6 f fd ["self", "way"] (sp_p_Chain___init__ K T CP CC) := by
  refine F.okX sc_p_Chain___init__ (fun vs H Q E h => ?_) (fun cdv A outer s H vs Q E hr h => ?_)
  · obtain ⟨H0, c, dx, a, us, qs, rfl, _⟩ := h
    rfl
  · obtain ⟨H0, c, dx, a, us, qs, rfl, rfl, nc, nd, ncd, ha, hd, hq, hok, k1, k2⟩ := h
    refine ⟨_, (pss_cons (ps_fc TC.cl (TC.no "fire" (by decide +kernel)) (pv 0) (pe_fx F_p_labour (hr.mono (by decide)) (takes_of rfl rfl rfl rfl) (pa_cons (pv 1) pa_nil)))
      (pss_cons (ps_fc TC.cl (TC.no "stretches" (by decide +kernel)) (pv 0) (pe_callTy call_tuple_of (by rfl) B.tuple_ (by decide +kernel) (pa_cons (pv 1) pa_nil)))
      (pss_cons (ps_fc TC.cl (TC.no "now" (by decide +kernel)) (pv 0) (pe_glob (v := .ref a_NOUGHT) (by rfl) g_NOUGHT rfl))
      (pss_cons (ps_fc TC.cl (TC.no "row" (by decide +kernel)) (pv 0) (pe_lst pa_nil))
      (pss_cons (ps_fc TC.cl (TC.no "loads" (by decide +kernel)) (pv 0) (pe_lst pa_nil))
      (pss_cons (ps_fc TC.cl (TC.no "spots" (by decide +kernel)) (pv 0) (pe_lst pa_nil))
      (pss_cons (ps_fc TC.cl (TC.no "tempos" (by decide +kernel)) (pv 0) pe_dnewK)
      (pss_cons (ps_fc TC.cl (TC.no "leaving" (by decide +kernel)) (pv 0) (pe_lst pa_nil))
      (pss_cons (ps_fc TC.cl (TC.no "ledgers" (by decide +kernel)) (pv 0) pe_dnewK)
      (pss_cons (ps_fc TC.cl (TC.no "marks" (by decide +kernel)) (pv 0) (pe_lst pa_nil))
      (pss_one (ps_fc TC.cl (TC.no "poured" (by decide +kernel)) (pv 0) (pe_lst pa_nil))))))))))))), ?_⟩
    have v1 := same_upd (T := T) (o := .own c) nd
    have nc1 : upd H0 dx (.own c) c = none := by rw [upd_ne (Ne.symm ncd)]; exact nc
    have v2 := same_upd (T := T) (o := .ins CC dx []) nc1
    have s00 := v1.trans v2
    refine ⟨_, rfl, a, us, qs, rfl, Sm.seq s00 ha, dpa_same s00 _ _ hd, hq, s00.ok hok, fun hw H1 s1 => ?_, fun hw cls d H' s' rf => k2 hw cls d H' (s00.trans s') rf⟩
    have m0 : Mkg T CC H0 H1 c dx [] [] := ⟨s00.trans s1, s1.k (b := c) (o := .ins CC dx []) upd_same, (v2.trans s1).k (b := dx) (o := .own c) upd_same, (fun _ h => nomatch h), by simp⟩
    refine ⟨_, rfl, c, _, _, rfl, m0.ins, by show 0 < 1000; decide, ?_⟩
    have m1 := m0.val nc ncd "fire" (.int (labourM qs))
    generalize upd H1 c (.ins CC dx (putF "fire" (.int (labourM qs)) [])) = H2 at *
    refine ⟨_, rfl, a, us, rfl, .inl ⟨m1.sm.seq ha, fun pst nst => ?_⟩⟩
    have u2 := same_upd (T := T) (o := .tup us) nst
    have m2 := m1.sm' u2 (fun _ h => nomatch h)
    refine ⟨_, rfl, c, _, _, rfl, m2.ins, by show 1 < 1000; decide, ?_⟩
    have hst : SqT K (upd H2 pst (.tup us)) pst us := SqT.of upd_same
    have m3 := m2.val nc ncd "stretches" (.ref pst)
    have x3 : Sx [] [c] (upd H2 pst (.tup us)) _ := sx_upd (o := .ins CC dx (putF "stretches" (.ref pst) (putF "fire" (.int (labourM qs)) []))) m2.ins rfl List.mem_cons_self
    have hst3 := x3.tup hst
    generalize upd (upd H2 pst (.tup us)) c (.ins CC dx (putF "stretches" (.ref pst) (putF "fire" (.int (labourM qs)) []))) = H3 at *
    refine ⟨_, rfl, c, _, _, rfl, m3.ins, by show 2 < 1000; decide, ?_⟩
    have m4 := m3.val nc ncd "now" (.ref a_NOUGHT)
    have x4 : Sx [] [c] H3 _ := sx_upd (o := .ins CC dx (putF "now" (.ref a_NOUGHT) (putF "stretches" (.ref pst) (putF "fire" (.int (labourM qs)) [])))) m3.ins rfl List.mem_cons_self
    have hst4 := x4.tup hst3
    generalize upd H3 c (.ins CC dx (putF "now" (.ref a_NOUGHT) (putF "stretches" (.ref pst) (putF "fire" (.int (labourM qs)) [])))) = H4 at *
    refine ⟨Nat.zero_le _, fun prw nprw => ?_⟩
    have u4 := same_upd (T := T) (o := .lst []) nprw
    have w4 := m4.sm' u4 (nt1 rfl)
    refine ⟨_, rfl, c, _, _, rfl, w4.ins, by show 3 < 1000; decide, ?_⟩
    have m5 := m4.new nc ncd "row" (o := .lst []) nprw (nt1 rfl)
    have hst5 := (sx_upd (T := []) (S := [c]) (o := .ins CC dx (putF "row" (.ref prw) (putF "now" (.ref a_NOUGHT) (putF "stretches" (.ref pst) (putF "fire" (.int (labourM qs)) []))))) w4.ins rfl List.mem_cons_self).tup (same_tup u4 hst4)
    generalize upd (upd H4 prw (.lst [])) c (.ins CC dx (putF "row" (.ref prw) (putF "now" (.ref a_NOUGHT) (putF "stretches" (.ref pst) (putF "fire" (.int (labourM qs)) []))))) = H5 at *
    clear u4 w4
    refine ⟨Nat.zero_le _, fun pld npld => ?_⟩
    have u5 := same_upd (T := T) (o := .lst []) npld
    have w5 := m5.sm' u5 (nt1 rfl)
    refine ⟨_, rfl, c, _, _, rfl, w5.ins, by show 4 < 1000; decide, ?_⟩
    have m6 := m5.new nc ncd "loads" (o := .lst []) npld (nt1 rfl)
    have hst6 := (sx_upd (T := []) (S := [c]) (o := .ins CC dx (putF "loads" (.ref pld) (putF "row" (.ref prw) (putF "now" (.ref a_NOUGHT) (putF "stretches" (.ref pst) (putF "fire" (.int (labourM qs)) [])))))) w5.ins rfl List.mem_cons_self).tup (same_tup u5 hst5)
    generalize upd (upd H5 pld (.lst [])) c (.ins CC dx (putF "loads" (.ref pld) (putF "row" (.ref prw) (putF "now" (.ref a_NOUGHT) (putF "stretches" (.ref pst) (putF "fire" (.int (labourM qs)) [])))))) = H6 at *
    clear u5 w5
    refine ⟨Nat.zero_le _, fun psp npsp => ?_⟩
    have u6 := same_upd (T := T) (o := .lst []) npsp
    have w6 := m6.sm' u6 (nt1 rfl)
    refine ⟨_, rfl, c, _, _, rfl, w6.ins, by show 5 < 1000; decide, ?_⟩
    have m7 := m6.new nc ncd "spots" (o := .lst []) npsp (nt1 rfl)
    have hst7 := (sx_upd (T := []) (S := [c]) (o := .ins CC dx (putF "spots" (.ref psp) (putF "loads" (.ref pld) (putF "row" (.ref prw) (putF "now" (.ref a_NOUGHT) (putF "stretches" (.ref pst) (putF "fire" (.int (labourM qs)) []))))))) w6.ins rfl List.mem_cons_self).tup (same_tup u6 hst6)
    generalize upd (upd H6 psp (.lst [])) c (.ins CC dx (putF "spots" (.ref psp) (putF "loads" (.ref pld) (putF "row" (.ref prw) (putF "now" (.ref a_NOUGHT) (putF "stretches" (.ref pst) (putF "fire" (.int (labourM qs)) []))))))) = H7 at *
    clear u6 w6
    intro ptm nptm
    have u7 := same_upd (T := T) (o := .dK []) nptm
    have w7 := m7.sm' u7 (nt1 rfl)
    refine ⟨_, rfl, c, _, _, rfl, w7.ins, by show 6 < 1000; decide, ?_⟩
    have m8 := m7.new nc ncd "tempos" (o := .dK []) nptm (nt1 rfl)
    have hst8 := (sx_upd (T := []) (S := [c]) (o := .ins CC dx (putF "tempos" (.ref ptm) (putF "spots" (.ref psp) (putF "loads" (.ref pld) (putF "row" (.ref prw) (putF "now" (.ref a_NOUGHT) (putF "stretches" (.ref pst) (putF "fire" (.int (labourM qs)) [])))))))) w7.ins rfl List.mem_cons_self).tup (same_tup u7 hst7)
    generalize upd (upd H7 ptm (.dK [])) c (.ins CC dx (putF "tempos" (.ref ptm) (putF "spots" (.ref psp) (putF "loads" (.ref pld) (putF "row" (.ref prw) (putF "now" (.ref a_NOUGHT) (putF "stretches" (.ref pst) (putF "fire" (.int (labourM qs)) [])))))))) = H8 at *
    clear u7 w7
    refine ⟨Nat.zero_le _, fun plv nplv => ?_⟩
    have u8 := same_upd (T := T) (o := .lst []) nplv
    have w8 := m8.sm' u8 (nt1 rfl)
    refine ⟨_, rfl, c, _, _, rfl, w8.ins, by show 7 < 1000; decide, ?_⟩
    have m9 := m8.new nc ncd "leaving" (o := .lst []) nplv (nt1 rfl)
    have hst9 := (sx_upd (T := []) (S := [c]) (o := .ins CC dx (putF "leaving" (.ref plv) (putF "tempos" (.ref ptm) (putF "spots" (.ref psp) (putF "loads" (.ref pld) (putF "row" (.ref prw) (putF "now" (.ref a_NOUGHT) (putF "stretches" (.ref pst) (putF "fire" (.int (labourM qs)) []))))))))) w8.ins rfl List.mem_cons_self).tup (same_tup u8 hst8)
    generalize upd (upd H8 plv (.lst [])) c (.ins CC dx (putF "leaving" (.ref plv) (putF "tempos" (.ref ptm) (putF "spots" (.ref psp) (putF "loads" (.ref pld) (putF "row" (.ref prw) (putF "now" (.ref a_NOUGHT) (putF "stretches" (.ref pst) (putF "fire" (.int (labourM qs)) []))))))))) = H9 at *
    clear u8 w8
    intro plg nplg
    have u9 := same_upd (T := T) (o := .dK []) nplg
    have w9 := m9.sm' u9 (nt1 rfl)
    refine ⟨_, rfl, c, _, _, rfl, w9.ins, by show 8 < 1000; decide, ?_⟩
    have m10 := m9.new nc ncd "ledgers" (o := .dK []) nplg (nt1 rfl)
    have hst10 := (sx_upd (T := []) (S := [c]) (o := .ins CC dx (putF "ledgers" (.ref plg) (putF "leaving" (.ref plv) (putF "tempos" (.ref ptm) (putF "spots" (.ref psp) (putF "loads" (.ref pld) (putF "row" (.ref prw) (putF "now" (.ref a_NOUGHT) (putF "stretches" (.ref pst) (putF "fire" (.int (labourM qs)) [])))))))))) w9.ins rfl List.mem_cons_self).tup (same_tup u9 hst9)
    generalize upd (upd H9 plg (.dK [])) c (.ins CC dx (putF "ledgers" (.ref plg) (putF "leaving" (.ref plv) (putF "tempos" (.ref ptm) (putF "spots" (.ref psp) (putF "loads" (.ref pld) (putF "row" (.ref prw) (putF "now" (.ref a_NOUGHT) (putF "stretches" (.ref pst) (putF "fire" (.int (labourM qs)) [])))))))))) = H10 at *
    clear u9 w9
    refine ⟨Nat.zero_le _, fun pmr npmr => ?_⟩
    have u10 := same_upd (T := T) (o := .lst []) npmr
    have w10 := m10.sm' u10 (nt1 rfl)
    refine ⟨_, rfl, c, _, _, rfl, w10.ins, by show 9 < 1000; decide, ?_⟩
    have m11 := m10.new nc ncd "marks" (o := .lst []) npmr (nt1 rfl)
    have hst11 := (sx_upd (T := []) (S := [c]) (o := .ins CC dx (putF "marks" (.ref pmr) (putF "ledgers" (.ref plg) (putF "leaving" (.ref plv) (putF "tempos" (.ref ptm) (putF "spots" (.ref psp) (putF "loads" (.ref pld) (putF "row" (.ref prw) (putF "now" (.ref a_NOUGHT) (putF "stretches" (.ref pst) (putF "fire" (.int (labourM qs)) []))))))))))) w10.ins rfl List.mem_cons_self).tup (same_tup u10 hst10)
    generalize upd (upd H10 pmr (.lst [])) c (.ins CC dx (putF "marks" (.ref pmr) (putF "ledgers" (.ref plg) (putF "leaving" (.ref plv) (putF "tempos" (.ref ptm) (putF "spots" (.ref psp) (putF "loads" (.ref pld) (putF "row" (.ref prw) (putF "now" (.ref a_NOUGHT) (putF "stretches" (.ref pst) (putF "fire" (.int (labourM qs)) []))))))))))) = H11 at *
    clear u10 w10
    refine ⟨Nat.zero_le _, fun ppr nppr => ?_⟩
    have u11 := same_upd (T := T) (o := .lst []) nppr
    have w11 := m11.sm' u11 (nt1 rfl)
    refine ⟨_, rfl, c, _, _, rfl, w11.ins, by show 10 < 1000; decide, ?_⟩
    have m12 := m11.new nc ncd "poured" (o := .lst []) nppr (nt1 rfl)
    have hst12 := (sx_upd (T := []) (S := [c]) (o := .ins CC dx (putF "poured" (.ref ppr) (putF "marks" (.ref pmr) (putF "ledgers" (.ref plg) (putF "leaving" (.ref plv) (putF "tempos" (.ref ptm) (putF "spots" (.ref psp) (putF "loads" (.ref pld) (putF "row" (.ref prw) (putF "now" (.ref a_NOUGHT) (putF "stretches" (.ref pst) (putF "fire" (.int (labourM qs)) [])))))))))))) w11.ins rfl List.mem_cons_self).tup (same_tup u11 hst11)
    generalize upd (upd H11 ppr (.lst [])) c (.ins CC dx (putF "poured" (.ref ppr) (putF "marks" (.ref pmr) (putF "ledgers" (.ref plg) (putF "leaving" (.ref plv) (putF "tempos" (.ref ptm) (putF "spots" (.ref psp) (putF "loads" (.ref pld) (putF "row" (.ref prw) (putF "now" (.ref a_NOUGHT) (putF "stretches" (.ref pst) (putF "fire" (.int (labourM qs)) [])))))))))))) = H12 at *
    clear u11 w11
    have at_ := m12.at_
    refine k1 hw H12 { dx := dx, st := pst, nw := a_NOUGHT, rw := prw, ld := pld, sp := psp, tm := ptm, lv := plv, lg := plg, mr := pmr, pr := ppr } m12.sm ⟨m12.ins, m12.own, ⟨us, hst12, dpa_same m12.sm _ _ hd⟩, by show SqT K _ _ (tv (am 0)); rw [am_zero]; exact s_NOUGHT _, (at_ (prw, .lst []) (by simp)).1, (at_ (pld, .lst []) (by simp)).1, ⟨[], (at_ (psp, .lst []) (by simp)).1, .nil⟩, (at_ (ptm, .dK []) (by simp)).1, (at_ (plv, .lst []) (by simp)).1, ⟨[], (at_ (plg, .dK []) (by simp)).1, rfl, .nil⟩, ⟨[], (at_ (pmr, .lst []) (by simp)).1, .nil⟩, (at_ (ppr, .lst []) (by simp)).1, ?_⟩ (fun x hx => ?_)
    · have nd9 := m12.nd
      have e : ([c, ppr, pmr, plg, plv, ptm, psp, pld, prw] : List Addr).Perm [c, prw, pld, psp, ptm, plv, plg, pmr, ppr] := .cons c (List.reverse_perm _).symm
      exact nd_perm nd9 e
    · simp only [ownC, List.mem_cons, List.not_mem_nil, or_false] at hx
      rcases hx with rfl | rfl | rfl | rfl | rfl | rfl | rfl | rfl | rfl
      · exact nc
      · exact (at_ (x, .lst []) (by simp)).2
      · exact (at_ (x, .lst []) (by simp)).2
      · exact (at_ (x, .lst []) (by simp)).2
      · exact (at_ (x, .dK []) (by simp)).2
      · exact (at_ (x, .lst []) (by simp)).2
      · exact (at_ (x, .dK []) (by simp)).2
      · exact (at_ (x, .lst []) (by simp)).2
      · exact (at_ (x, .lst []) (by simp)).2
theorem ok_p_Chain___init___t {f : Addr} {fd : FuncData} {a_NOUGHT : Addr} (F : Fun K "__init__" "Chain.__init__" s_p_Chain___init___t f fd) (B : Bn mg) (g_NOUGHT : mg "NOUGHT" = some (.ref a_NOUGHT)) (s_NOUGHT : ∀ H, SqT K H a_NOUGHT [.int 0, .int 1]) {CP : Addr} {CC : Addr} (TC : Kl K CC) (F_p_labour_t : Fx P w K mg base 5 "labour" ["way"] (sp_p_labour_t K T CP)) : FnOk P w K mg base (L2.CX P w) 6 f fd ["self", "way"] (sp_p_Chain___init___t K T CP CC) := by
  refine F.okX sc_p_Chain___init___t (fun vs H Q E h => ?_) (fun cdv A outer s H vs Q E hr h => ?_)
  · obtain ⟨H0, c, dx, a, us, qs, rfl, _⟩ := h
    rfl
  · obtain ⟨H0, c, dx, a, us, qs, rfl, rfl, nc, nd, ncd, ha, hd, hq, hok, k1, k2⟩ := h
    refine ⟨_, (pss_cons (ps_fc TC.cl (TC.no "fire" (by decide +kernel)) (pv 0) (pe_fx F_p_labour_t (hr.mono (by decide)) (takes_of rfl rfl rfl rfl) (pa_cons (pv 1) pa_nil)))
      (pss_cons (ps_fc TC.cl (TC.no "stretches" (by decide +kernel)) (pv 0) (pe_callTy call_tuple_of (by rfl) B.tuple_ (by decide +kernel) (pa_cons (pv 1) pa_nil)))
      (pss_cons (ps_fc TC.cl (TC.no "now" (by decide +kernel)) (pv 0) (pe_glob (v := .ref a_NOUGHT) (by rfl) g_NOUGHT rfl))
      (pss_cons (ps_fc TC.cl (TC.no "row" (by decide +kernel)) (pv 0) (pe_lst pa_nil))
      (pss_cons (ps_fc TC.cl (TC.no "loads" (by decide +kernel)) (pv 0) (pe_lst pa_nil))
      (pss_cons (ps_fc TC.cl (TC.no "spots" (by decide +kernel)) (pv 0) (pe_lst pa_nil))
      (pss_cons (ps_fc TC.cl (TC.no "tempos" (by decide +kernel)) (pv 0) pe_dnewK)
      (pss_cons (ps_fc TC.cl (TC.no "leaving" (by decide +kernel)) (pv 0) (pe_lst pa_nil))
      (pss_cons (ps_fc TC.cl (TC.no "ledgers" (by decide +kernel)) (pv 0) pe_dnewK)
      (pss_cons (ps_fc TC.cl (TC.no "marks" (by decide +kernel)) (pv 0) (pe_lst pa_nil))
      (pss_one (ps_fc TC.cl (TC.no "poured" (by decide +kernel)) (pv 0) (pe_lst pa_nil))))))))))))), ?_⟩
    have v1 := same_upd (T := T) (o := .own c) nd
    have nc1 : upd H0 dx (.own c) c = none := by rw [upd_ne (Ne.symm ncd)]; exact nc
    have v2 := same_upd (T := T) (o := .ins CC dx []) nc1
    have s00 := v1.trans v2
    refine ⟨_, rfl, a, us, qs, rfl, same_tup s00 ha, dpa_same s00 _ _ hd, hq, s00.ok hok, fun hw H1 s1 => ?_, fun hw cls d H' s' rf => k2 hw cls d H' (s00.trans s') rf⟩
    have m0 : Mkg T CC H0 H1 c dx [] [] := ⟨s00.trans s1, s1.k (b := c) (o := .ins CC dx []) upd_same, (v2.trans s1).k (b := dx) (o := .own c) upd_same, (fun _ h => nomatch h), by simp⟩
    refine ⟨_, rfl, c, _, _, rfl, m0.ins, by show 0 < 1000; decide, ?_⟩
    have m1 := m0.val nc ncd "fire" (.int (labourM qs))
    generalize upd H1 c (.ins CC dx (putF "fire" (.int (labourM qs)) [])) = H2 at *
    have hst := same_tup m1.sm ha
    refine ⟨_, rfl, a, us, rfl, .inr ⟨hst, ?_⟩⟩
    obtain ⟨pst, rfl⟩ : ∃ pst, pst = a := ⟨a, rfl⟩
    refine ⟨_, rfl, c, _, _, rfl, m1.ins, by show 1 < 1000; decide, ?_⟩
    have m3 := m1.val nc ncd "stretches" (.ref pst)
    have x3 : Sx [] [c] H2 _ := sx_upd (o := .ins CC dx (putF "stretches" (.ref pst) (putF "fire" (.int (labourM qs)) []))) m1.ins rfl List.mem_cons_self
    have hst3 := x3.tup hst
    generalize upd H2 c (.ins CC dx (putF "stretches" (.ref pst) (putF "fire" (.int (labourM qs)) []))) = H3 at *
    refine ⟨_, rfl, c, _, _, rfl, m3.ins, by show 2 < 1000; decide, ?_⟩
    have m4 := m3.val nc ncd "now" (.ref a_NOUGHT)
    have x4 : Sx [] [c] H3 _ := sx_upd (o := .ins CC dx (putF "now" (.ref a_NOUGHT) (putF "stretches" (.ref pst) (putF "fire" (.int (labourM qs)) [])))) m3.ins rfl List.mem_cons_self
    have hst4 := x4.tup hst3
    generalize upd H3 c (.ins CC dx (putF "now" (.ref a_NOUGHT) (putF "stretches" (.ref pst) (putF "fire" (.int (labourM qs)) [])))) = H4 at *
    refine ⟨Nat.zero_le _, fun prw nprw => ?_⟩
    have u4 := same_upd (T := T) (o := .lst []) nprw
    have w4 := m4.sm' u4 (nt1 rfl)
    refine ⟨_, rfl, c, _, _, rfl, w4.ins, by show 3 < 1000; decide, ?_⟩
    have m5 := m4.new nc ncd "row" (o := .lst []) nprw (nt1 rfl)
    have hst5 := (sx_upd (T := []) (S := [c]) (o := .ins CC dx (putF "row" (.ref prw) (putF "now" (.ref a_NOUGHT) (putF "stretches" (.ref pst) (putF "fire" (.int (labourM qs)) []))))) w4.ins rfl List.mem_cons_self).tup (same_tup u4 hst4)
    generalize upd (upd H4 prw (.lst [])) c (.ins CC dx (putF "row" (.ref prw) (putF "now" (.ref a_NOUGHT) (putF "stretches" (.ref pst) (putF "fire" (.int (labourM qs)) []))))) = H5 at *
    clear u4 w4
    refine ⟨Nat.zero_le _, fun pld npld => ?_⟩
    have u5 := same_upd (T := T) (o := .lst []) npld
    have w5 := m5.sm' u5 (nt1 rfl)
    refine ⟨_, rfl, c, _, _, rfl, w5.ins, by show 4 < 1000; decide, ?_⟩
    have m6 := m5.new nc ncd "loads" (o := .lst []) npld (nt1 rfl)
    have hst6 := (sx_upd (T := []) (S := [c]) (o := .ins CC dx (putF "loads" (.ref pld) (putF "row" (.ref prw) (putF "now" (.ref a_NOUGHT) (putF "stretches" (.ref pst) (putF "fire" (.int (labourM qs)) [])))))) w5.ins rfl List.mem_cons_self).tup (same_tup u5 hst5)
    generalize upd (upd H5 pld (.lst [])) c (.ins CC dx (putF "loads" (.ref pld) (putF "row" (.ref prw) (putF "now" (.ref a_NOUGHT) (putF "stretches" (.ref pst) (putF "fire" (.int (labourM qs)) [])))))) = H6 at *
    clear u5 w5
    refine ⟨Nat.zero_le _, fun psp npsp => ?_⟩
    have u6 := same_upd (T := T) (o := .lst []) npsp
    have w6 := m6.sm' u6 (nt1 rfl)
    refine ⟨_, rfl, c, _, _, rfl, w6.ins, by show 5 < 1000; decide, ?_⟩
    have m7 := m6.new nc ncd "spots" (o := .lst []) npsp (nt1 rfl)
    have hst7 := (sx_upd (T := []) (S := [c]) (o := .ins CC dx (putF "spots" (.ref psp) (putF "loads" (.ref pld) (putF "row" (.ref prw) (putF "now" (.ref a_NOUGHT) (putF "stretches" (.ref pst) (putF "fire" (.int (labourM qs)) []))))))) w6.ins rfl List.mem_cons_self).tup (same_tup u6 hst6)
    generalize upd (upd H6 psp (.lst [])) c (.ins CC dx (putF "spots" (.ref psp) (putF "loads" (.ref pld) (putF "row" (.ref prw) (putF "now" (.ref a_NOUGHT) (putF "stretches" (.ref pst) (putF "fire" (.int (labourM qs)) []))))))) = H7 at *
    clear u6 w6
    intro ptm nptm
    have u7 := same_upd (T := T) (o := .dK []) nptm
    have w7 := m7.sm' u7 (nt1 rfl)
    refine ⟨_, rfl, c, _, _, rfl, w7.ins, by show 6 < 1000; decide, ?_⟩
    have m8 := m7.new nc ncd "tempos" (o := .dK []) nptm (nt1 rfl)
    have hst8 := (sx_upd (T := []) (S := [c]) (o := .ins CC dx (putF "tempos" (.ref ptm) (putF "spots" (.ref psp) (putF "loads" (.ref pld) (putF "row" (.ref prw) (putF "now" (.ref a_NOUGHT) (putF "stretches" (.ref pst) (putF "fire" (.int (labourM qs)) [])))))))) w7.ins rfl List.mem_cons_self).tup (same_tup u7 hst7)
    generalize upd (upd H7 ptm (.dK [])) c (.ins CC dx (putF "tempos" (.ref ptm) (putF "spots" (.ref psp) (putF "loads" (.ref pld) (putF "row" (.ref prw) (putF "now" (.ref a_NOUGHT) (putF "stretches" (.ref pst) (putF "fire" (.int (labourM qs)) [])))))))) = H8 at *
    clear u7 w7
    refine ⟨Nat.zero_le _, fun plv nplv => ?_⟩
    have u8 := same_upd (T := T) (o := .lst []) nplv
    have w8 := m8.sm' u8 (nt1 rfl)
    refine ⟨_, rfl, c, _, _, rfl, w8.ins, by show 7 < 1000; decide, ?_⟩
    have m9 := m8.new nc ncd "leaving" (o := .lst []) nplv (nt1 rfl)
    have hst9 := (sx_upd (T := []) (S := [c]) (o := .ins CC dx (putF "leaving" (.ref plv) (putF "tempos" (.ref ptm) (putF "spots" (.ref psp) (putF "loads" (.ref pld) (putF "row" (.ref prw) (putF "now" (.ref a_NOUGHT) (putF "stretches" (.ref pst) (putF "fire" (.int (labourM qs)) []))))))))) w8.ins rfl List.mem_cons_self).tup (same_tup u8 hst8)
    generalize upd (upd H8 plv (.lst [])) c (.ins CC dx (putF "leaving" (.ref plv) (putF "tempos" (.ref ptm) (putF "spots" (.ref psp) (putF "loads" (.ref pld) (putF "row" (.ref prw) (putF "now" (.ref a_NOUGHT) (putF "stretches" (.ref pst) (putF "fire" (.int (labourM qs)) []))))))))) = H9 at *
    clear u8 w8
    intro plg nplg
    have u9 := same_upd (T := T) (o := .dK []) nplg
    have w9 := m9.sm' u9 (nt1 rfl)
    refine ⟨_, rfl, c, _, _, rfl, w9.ins, by show 8 < 1000; decide, ?_⟩
    have m10 := m9.new nc ncd "ledgers" (o := .dK []) nplg (nt1 rfl)
    have hst10 := (sx_upd (T := []) (S := [c]) (o := .ins CC dx (putF "ledgers" (.ref plg) (putF "leaving" (.ref plv) (putF "tempos" (.ref ptm) (putF "spots" (.ref psp) (putF "loads" (.ref pld) (putF "row" (.ref prw) (putF "now" (.ref a_NOUGHT) (putF "stretches" (.ref pst) (putF "fire" (.int (labourM qs)) [])))))))))) w9.ins rfl List.mem_cons_self).tup (same_tup u9 hst9)
    generalize upd (upd H9 plg (.dK [])) c (.ins CC dx (putF "ledgers" (.ref plg) (putF "leaving" (.ref plv) (putF "tempos" (.ref ptm) (putF "spots" (.ref psp) (putF "loads" (.ref pld) (putF "row" (.ref prw) (putF "now" (.ref a_NOUGHT) (putF "stretches" (.ref pst) (putF "fire" (.int (labourM qs)) [])))))))))) = H10 at *
    clear u9 w9
    refine ⟨Nat.zero_le _, fun pmr npmr => ?_⟩
    have u10 := same_upd (T := T) (o := .lst []) npmr
    have w10 := m10.sm' u10 (nt1 rfl)
    refine ⟨_, rfl, c, _, _, rfl, w10.ins, by show 9 < 1000; decide, ?_⟩
    have m11 := m10.new nc ncd "marks" (o := .lst []) npmr (nt1 rfl)
    have hst11 := (sx_upd (T := []) (S := [c]) (o := .ins CC dx (putF "marks" (.ref pmr) (putF "ledgers" (.ref plg) (putF "leaving" (.ref plv) (putF "tempos" (.ref ptm) (putF "spots" (.ref psp) (putF "loads" (.ref pld) (putF "row" (.ref prw) (putF "now" (.ref a_NOUGHT) (putF "stretches" (.ref pst) (putF "fire" (.int (labourM qs)) []))))))))))) w10.ins rfl List.mem_cons_self).tup (same_tup u10 hst10)
    generalize upd (upd H10 pmr (.lst [])) c (.ins CC dx (putF "marks" (.ref pmr) (putF "ledgers" (.ref plg) (putF "leaving" (.ref plv) (putF "tempos" (.ref ptm) (putF "spots" (.ref psp) (putF "loads" (.ref pld) (putF "row" (.ref prw) (putF "now" (.ref a_NOUGHT) (putF "stretches" (.ref pst) (putF "fire" (.int (labourM qs)) []))))))))))) = H11 at *
    clear u10 w10
    refine ⟨Nat.zero_le _, fun ppr nppr => ?_⟩
    have u11 := same_upd (T := T) (o := .lst []) nppr
    have w11 := m11.sm' u11 (nt1 rfl)
    refine ⟨_, rfl, c, _, _, rfl, w11.ins, by show 10 < 1000; decide, ?_⟩
    have m12 := m11.new nc ncd "poured" (o := .lst []) nppr (nt1 rfl)
    have hst12 := (sx_upd (T := []) (S := [c]) (o := .ins CC dx (putF "poured" (.ref ppr) (putF "marks" (.ref pmr) (putF "ledgers" (.ref plg) (putF "leaving" (.ref plv) (putF "tempos" (.ref ptm) (putF "spots" (.ref psp) (putF "loads" (.ref pld) (putF "row" (.ref prw) (putF "now" (.ref a_NOUGHT) (putF "stretches" (.ref pst) (putF "fire" (.int (labourM qs)) [])))))))))))) w11.ins rfl List.mem_cons_self).tup (same_tup u11 hst11)
    generalize upd (upd H11 ppr (.lst [])) c (.ins CC dx (putF "poured" (.ref ppr) (putF "marks" (.ref pmr) (putF "ledgers" (.ref plg) (putF "leaving" (.ref plv) (putF "tempos" (.ref ptm) (putF "spots" (.ref psp) (putF "loads" (.ref pld) (putF "row" (.ref prw) (putF "now" (.ref a_NOUGHT) (putF "stretches" (.ref pst) (putF "fire" (.int (labourM qs)) [])))))))))))) = H12 at *
    clear u11 w11
    have at_ := m12.at_
    refine k1 hw H12 { dx := dx, st := pst, nw := a_NOUGHT, rw := prw, ld := pld, sp := psp, tm := ptm, lv := plv, lg := plg, mr := pmr, pr := ppr } m12.sm ⟨m12.ins, m12.own, ⟨us, hst12, dpa_same m12.sm _ _ hd⟩, by show SqT K _ _ (tv (am 0)); rw [am_zero]; exact s_NOUGHT _, (at_ (prw, .lst []) (by simp)).1, (at_ (pld, .lst []) (by simp)).1, ⟨[], (at_ (psp, .lst []) (by simp)).1, .nil⟩, (at_ (ptm, .dK []) (by simp)).1, (at_ (plv, .lst []) (by simp)).1, ⟨[], (at_ (plg, .dK []) (by simp)).1, rfl, .nil⟩, ⟨[], (at_ (pmr, .lst []) (by simp)).1, .nil⟩, (at_ (ppr, .lst []) (by simp)).1, ?_⟩ (fun x hx => ?_)
    · have nd9 := m12.nd
      have e : ([c, ppr, pmr, plg, plv, ptm, psp, pld, prw] : List Addr).Perm [c, prw, pld, psp, ptm, plv, plg, pmr, ppr] := .cons c (List.reverse_perm _).symm
      exact nd_perm nd9 e
    · simp only [ownC, List.mem_cons, List.not_mem_nil, or_false] at hx
      rcases hx with rfl | rfl | rfl | rfl | rfl | rfl | rfl | rfl | rfl
      · exact nc
      · exact (at_ (x, .lst []) (by simp)).2
      · exact (at_ (x, .lst []) (by simp)).2
      · exact (at_ (x, .lst []) (by simp)).2
      · exact (at_ (x, .dK []) (by simp)).2
      · exact (at_ (x, .lst []) (by simp)).2
      · exact (at_ (x, .dK []) (by simp)).2
      · exact (at_ (x, .lst []) (by simp)).2
      · exact (at_ (x, .lst []) (by simp)).2

def sp_l_same_n (n : Nat) (K : PySem.W.Frag) (T : Tb) : Sp := fun vs H Q _ => ∃ x y d, vs = [x, y] ∧ Dp K H x d ∧ Dp K H y d ∧ depOk n d = true ∧ ∀ H', Sm T H H' → Q (.bl true) H'
abbrev sp_l_same (K : PySem.W.Frag) (T : Tb) : Sp := sp_l_same_n 5 K T
theorem ok_l_same_n {f : Addr} {fd : FuncData} (F : Fun K "_law_same" "_law_same" s_l_same f fd) (B : Bn mg) (g : mg "_law_same" = some (.ref f)) (b : Binds K fd ["_law_found", "_law_due"] []) :
    ∀ n, FnOk P w K mg base CX0 (n + 1) f fd ["_law_found", "_law_due"] (sp_l_same_n n K T)
  | 0 => by
    refine F.ok sc_l_same (fun vs H Q E h => ?_) (fun cdv A outer s H vs Q E hr h => ?_)
    · obtain ⟨x, y, d, rfl, _⟩ := h
      rfl
    · obtain ⟨x, y, d, rfl, hx, hy, hd, q⟩ := h
      have tx := tyx_of hx
      have ty := tyx_of hy
      have q0 := q H Sm.refl
      refine ⟨_, (pss_cons (ps_if (pt_cmpR op_isN (pv 1) pe_non (nomark _)) (pss_one (ps_ret (pe_cmpR op_isN (pv 0) pe_non (nomark _)))) pss_nil)
      (pss_cons (ps_if (PW.pt (pw_or (pt_val (pe_callB call_isi (by rfl) B.isinstance_ (by decide +kernel) (pa_cons (pv 1) (pa_cons (pe_bltn (v := .ty "bool") (by rfl) B.bool_ (by decide +kernel) rfl) pa_nil)))) (pw_or1 (pt_val (pe_callB call_isi (by rfl) B.isinstance_ (by decide +kernel) (pa_cons (pv 0) (pa_cons (pe_bltn (v := .ty "bool") (by rfl) B.bool_ (by decide +kernel) rfl) pa_nil))))))) (pss_one (ps_ret (pe_and (pe_callB call_isi (by rfl) B.isinstance_ (by decide +kernel) (pa_cons (pv 1) (pa_cons (pe_bltn (v := .ty "bool") (by rfl) B.bool_ (by decide +kernel) rfl) pa_nil))) (pe_and (pe_callB call_isi (by rfl) B.isinstance_ (by decide +kernel) (pa_cons (pv 0) (pa_cons (pe_bltn (v := .ty "bool") (by rfl) B.bool_ (by decide +kernel) rfl) pa_nil))) (pe_one (pe_cmpR op_eq (pv 0) (pv 1) (nomark _))))))) pss_nil)
      (pss_cons (ps_if (pt_val (pe_callB call_isi (by rfl) B.isinstance_ (by decide +kernel) (pa_cons (pv 1) (pa_cons (pe_bltn (v := .ty "int") (by rfl) B.int_ (by decide +kernel) rfl) pa_nil)))) (pss_one (ps_ret (pe_and (pe_callB call_isi (by rfl) B.isinstance_ (by decide +kernel) (pa_cons (pv 0) (pa_cons (pe_bltn (v := .ty "int") (by rfl) B.int_ (by decide +kernel) rfl) pa_nil))) (pe_one (pe_cmpR op_eq (pv 0) (pv 1) (nomark _)))))) pss_nil)
      (pss_cons (ps_if (pt_val (pe_callB call_isi (by rfl) B.isinstance_ (by decide +kernel) (pa_cons (pv 1) (pa_cons (pe_bltn (v := .ty "str") (by rfl) B.str_ (by decide +kernel) rfl) pa_nil)))) (pss_one (ps_ret (pe_and (pe_callB call_isi (by rfl) B.isinstance_ (by decide +kernel) (pa_cons (pv 0) (pa_cons (pe_bltn (v := .ty "str") (by rfl) B.str_ (by decide +kernel) rfl) pa_nil))) (pe_one (pe_cmpR op_eq (pv 0) (pv 1) (nomark _)))))) pss_nil)
      (pss_cons (ps_if (PW.pt (pw_or (pt_cmpR op_ne (pe_callB call_isi (by rfl) B.isinstance_ (by decide +kernel) (pa_cons (pv 1) (pa_cons (pe_bltn (v := .ty "tuple") (by rfl) B.tuple_ (by decide +kernel) rfl) pa_nil))) (pe_callB call_isi (by rfl) B.isinstance_ (by decide +kernel) (pa_cons (pv 0) (pa_cons (pe_bltn (v := .ty "tuple") (by rfl) B.tuple_ (by decide +kernel) rfl) pa_nil))) (nomark _)) (pw_or1 (pt_cmpR op_ne (pe_callB call_isi (by rfl) B.isinstance_ (by decide +kernel) (pa_cons (pv 1) (pa_cons (pe_bltn (v := .ty "list") (by rfl) B.list_ (by decide +kernel) rfl) pa_nil))) (pe_callB call_isi (by rfl) B.isinstance_ (by decide +kernel) (pa_cons (pv 0) (pa_cons (pe_bltn (v := .ty "list") (by rfl) B.list_ (by decide +kernel) rfl) pa_nil))) (nomark _))))) (pss_one (ps_ret pe_bl)) pss_nil)
      (pss_one ps_never)))))), ?_⟩
      cases d with
      | none =>
        cases hx; cases hy
        exact ⟨_, rfl, rfl, _, rfl, iteT ⟨_, rfl, rfl, q0⟩⟩
      | bool b =>
        cases hx; cases hy
        refine ⟨_, rfl, rfl, _, rfl, iteF ?_⟩
        refine ⟨_, rfl, _, _, _, _, true, rfl, .ty "bool", ty, kit_ty kb_bool_bool, _, rfl, iteT (iteT ?_)⟩
        refine ⟨_, rfl, _, _, _, _, true, rfl, .ty "bool", ty, kit_ty kb_bool_bool, _, rfl, iteT ?_⟩
        refine ⟨_, rfl, _, _, _, _, true, rfl, .ty "bool", tx, kit_ty kb_bool_bool, _, rfl, iteT ?_⟩
        refine ⟨_, rfl, _, rfl, rfl, ?_⟩
        rw [decide_eq_true rfl]
        exact q0
      | int i =>
        cases hx; cases hy
        refine ⟨_, rfl, rfl, _, rfl, iteF ?_⟩
        refine ⟨_, rfl, _, _, _, _, false, rfl, .ty "bool", ty, kit_ty kb_int_bool, _, rfl, iteF ?_⟩
        refine ⟨_, rfl, _, _, _, _, false, rfl, .ty "bool", tx, kit_ty kb_int_bool, _, rfl, iteF ?_⟩
        refine ⟨_, rfl, _, _, _, _, true, rfl, .ty "int", ty, kit_ty kb_int_int, _, rfl, iteT ?_⟩
        refine ⟨_, rfl, _, _, _, _, true, rfl, .ty "int", tx, kit_ty kb_int_int, _, rfl, iteT ?_⟩
        refine ⟨_, rfl, _, rfl, rfl, ?_⟩
        rw [decide_eq_true rfl]
        exact q0
      | str z =>
        cases hx; cases hy
        refine ⟨_, rfl, rfl, _, rfl, iteF ?_⟩
        refine ⟨_, rfl, _, _, _, _, false, rfl, .ty "bool", ty, kit_ty kb_str_bool, _, rfl, iteF ?_⟩
        refine ⟨_, rfl, _, _, _, _, false, rfl, .ty "bool", tx, kit_ty kb_str_bool, _, rfl, iteF ?_⟩
        refine ⟨_, rfl, _, _, _, _, false, rfl, .ty "int", ty, kit_ty kb_str_int, _, rfl, iteF ?_⟩
        refine ⟨_, rfl, _, _, _, _, true, rfl, .ty "str", ty, kit_ty kb_str_str, _, rfl, iteT ?_⟩
        refine ⟨_, rfl, _, _, _, _, true, rfl, .ty "str", tx, kit_ty kb_str_str, _, rfl, iteT ?_⟩
        refine ⟨_, rfl, _, rfl, rfl, ?_⟩
        rw [decide_eq_true rfl]
        exact q0
      | list ds => cases hd
      | tuple ds => cases hd
      | dict _ => cases hd
  | n + 1 => by
    have F_l_same : Fn P w K mg base (n + 1) "_law_same" ["_law_found", "_law_due"] (sp_l_same_n n K T) := Fn.mk' (ok_l_same_n F B g b n) g F.kp b
    refine F.ok sc_l_same (fun vs H Q E h => ?_) (fun cdv A outer s H vs Q E hr h => ?_)
    · obtain ⟨x, y, d, rfl, _⟩ := h
      rfl
    · obtain ⟨x, y, d, rfl, hx, hy, hd, q⟩ := h
      have tx := tyx_of hx
      have ty := tyx_of hy
      have q0 := q H Sm.refl
      refine ⟨_, (pss_cons (ps_if (pt_cmpR op_isN (pv 1) pe_non (nomark _)) (pss_one (ps_ret (pe_cmpR op_isN (pv 0) pe_non (nomark _)))) pss_nil)
      (pss_cons (ps_if (PW.pt (pw_or (pt_val (pe_callB call_isi (by rfl) B.isinstance_ (by decide +kernel) (pa_cons (pv 1) (pa_cons (pe_bltn (v := .ty "bool") (by rfl) B.bool_ (by decide +kernel) rfl) pa_nil)))) (pw_or1 (pt_val (pe_callB call_isi (by rfl) B.isinstance_ (by decide +kernel) (pa_cons (pv 0) (pa_cons (pe_bltn (v := .ty "bool") (by rfl) B.bool_ (by decide +kernel) rfl) pa_nil))))))) (pss_one (ps_ret (pe_and (pe_callB call_isi (by rfl) B.isinstance_ (by decide +kernel) (pa_cons (pv 1) (pa_cons (pe_bltn (v := .ty "bool") (by rfl) B.bool_ (by decide +kernel) rfl) pa_nil))) (pe_and (pe_callB call_isi (by rfl) B.isinstance_ (by decide +kernel) (pa_cons (pv 0) (pa_cons (pe_bltn (v := .ty "bool") (by rfl) B.bool_ (by decide +kernel) rfl) pa_nil))) (pe_one (pe_cmpR op_eq (pv 0) (pv 1) (nomark _))))))) pss_nil)
      (pss_cons (ps_if (pt_val (pe_callB call_isi (by rfl) B.isinstance_ (by decide +kernel) (pa_cons (pv 1) (pa_cons (pe_bltn (v := .ty "int") (by rfl) B.int_ (by decide +kernel) rfl) pa_nil)))) (pss_one (ps_ret (pe_and (pe_callB call_isi (by rfl) B.isinstance_ (by decide +kernel) (pa_cons (pv 0) (pa_cons (pe_bltn (v := .ty "int") (by rfl) B.int_ (by decide +kernel) rfl) pa_nil))) (pe_one (pe_cmpR op_eq (pv 0) (pv 1) (nomark _)))))) pss_nil)
      (pss_cons (ps_if (pt_val (pe_callB call_isi (by rfl) B.isinstance_ (by decide +kernel) (pa_cons (pv 1) (pa_cons (pe_bltn (v := .ty "str") (by rfl) B.str_ (by decide +kernel) rfl) pa_nil)))) (pss_one (ps_ret (pe_and (pe_callB call_isi (by rfl) B.isinstance_ (by decide +kernel) (pa_cons (pv 0) (pa_cons (pe_bltn (v := .ty "str") (by rfl) B.str_ (by decide +kernel) rfl) pa_nil))) (pe_one (pe_cmpR op_eq (pv 0) (pv 1) (nomark _)))))) pss_nil)
      (pss_cons (ps_if (PW.pt (pw_or (pt_cmpR op_ne (pe_callB call_isi (by rfl) B.isinstance_ (by decide +kernel) (pa_cons (pv 1) (pa_cons (pe_bltn (v := .ty "tuple") (by rfl) B.tuple_ (by decide +kernel) rfl) pa_nil))) (pe_callB call_isi (by rfl) B.isinstance_ (by decide +kernel) (pa_cons (pv 0) (pa_cons (pe_bltn (v := .ty "tuple") (by rfl) B.tuple_ (by decide +kernel) rfl) pa_nil))) (nomark _)) (pw_or1 (pt_cmpR op_ne (pe_callB call_isi (by rfl) B.isinstance_ (by decide +kernel) (pa_cons (pv 1) (pa_cons (pe_bltn (v := .ty "list") (by rfl) B.list_ (by decide +kernel) rfl) pa_nil))) (pe_callB call_isi (by rfl) B.isinstance_ (by decide +kernel) (pa_cons (pv 0) (pa_cons (pe_bltn (v := .ty "list") (by rfl) B.list_ (by decide +kernel) rfl) pa_nil))) (nomark _))))) (pss_one (ps_ret pe_bl)) pss_nil)
      (pss_one (ps_ret (pe_and (pe_cmpR op_eq (pe_callB call_len_seq (by rfl) B.len_ (by decide +kernel) (pa_cons (pv 0) pa_nil)) (pe_callB call_len_seq (by rfl) B.len_ (by decide +kernel) (pa_cons (pv 1) pa_nil)) (nomark _)) (pe_one (pe_callB (cr_all rfl) (by rfl) B.all_ (by decide +kernel) (pa_cons (pe_lc (own := [("_law_k", 2)]) (g := (gName 2)) (tt := tYes) (by rfl) sc_l_same.nd (pi_range1 (by rfl) B.range_ (pa_cons (pe_callB call_len_seq (by rfl) B.len_ (by decide +kernel) (pa_cons (pv 1) pa_nil)) pa_nil)) (blkOk_by (own := [("_law_k", 2)]) (N := ["_law_found", "_law_due", "_law_k"]) (sc := (defScope s_l_same)) (by decide +kernel)) (fun _ _ _ _ _ => (pg_name (i := 2) sc_l_same.nd rfl (.inl rfl))) (fun _ _ _ _ _ => pts_nil) (fun _ _ _ _ _ => (pe_fn F_l_same hr (pa_cons (pe_ix (r := rIx K) ix_seq (pv 0) (pv 2) (fun _ _ => rfl)) (pa_cons (pe_ix (r := rIx K) ix_seq (pv 1) (pv 2) (fun _ _ => rfl)) pa_nil))))) pa_nil))))))))))), ?_⟩
      cases d with
      | none =>
        cases hx; cases hy
        exact ⟨_, rfl, rfl, _, rfl, iteT ⟨_, rfl, rfl, q0⟩⟩
      | bool b =>
        cases hx; cases hy
        refine ⟨_, rfl, rfl, _, rfl, iteF ?_⟩
        refine ⟨_, rfl, _, _, _, _, true, rfl, .ty "bool", ty, kit_ty kb_bool_bool, _, rfl, iteT (iteT ?_)⟩
        refine ⟨_, rfl, _, _, _, _, true, rfl, .ty "bool", ty, kit_ty kb_bool_bool, _, rfl, iteT ?_⟩
        refine ⟨_, rfl, _, _, _, _, true, rfl, .ty "bool", tx, kit_ty kb_bool_bool, _, rfl, iteT ?_⟩
        refine ⟨_, rfl, _, rfl, rfl, ?_⟩
        rw [decide_eq_true rfl]
        exact q0
      | int i =>
        cases hx; cases hy
        refine ⟨_, rfl, rfl, _, rfl, iteF ?_⟩
        refine ⟨_, rfl, _, _, _, _, false, rfl, .ty "bool", ty, kit_ty kb_int_bool, _, rfl, iteF ?_⟩
        refine ⟨_, rfl, _, _, _, _, false, rfl, .ty "bool", tx, kit_ty kb_int_bool, _, rfl, iteF ?_⟩
        refine ⟨_, rfl, _, _, _, _, true, rfl, .ty "int", ty, kit_ty kb_int_int, _, rfl, iteT ?_⟩
        refine ⟨_, rfl, _, _, _, _, true, rfl, .ty "int", tx, kit_ty kb_int_int, _, rfl, iteT ?_⟩
        refine ⟨_, rfl, _, rfl, rfl, ?_⟩
        rw [decide_eq_true rfl]
        exact q0
      | str z =>
        cases hx; cases hy
        refine ⟨_, rfl, rfl, _, rfl, iteF ?_⟩
        refine ⟨_, rfl, _, _, _, _, false, rfl, .ty "bool", ty, kit_ty kb_str_bool, _, rfl, iteF ?_⟩
        refine ⟨_, rfl, _, _, _, _, false, rfl, .ty "bool", tx, kit_ty kb_str_bool, _, rfl, iteF ?_⟩
        refine ⟨_, rfl, _, _, _, _, false, rfl, .ty "int", ty, kit_ty kb_str_int, _, rfl, iteF ?_⟩
        refine ⟨_, rfl, _, _, _, _, true, rfl, .ty "str", ty, kit_ty kb_str_str, _, rfl, iteT ?_⟩
        refine ⟨_, rfl, _, _, _, _, true, rfl, .ty "str", tx, kit_ty kb_str_str, _, rfl, iteT ?_⟩
        refine ⟨_, rfl, _, rfl, rfl, ?_⟩
        rw [decide_eq_true rfl]
        exact q0
      | list ds =>
        cases hx with
        | @lst ax xs _ sx ax_ =>
        cases hy with
        | @lst ay ys _ sy ay_ =>
        refine ⟨_, rfl, rfl, _, rfl, iteF ?_⟩
        refine ⟨_, rfl, _, _, _, _, false, rfl, .ty "bool", ty, kit_ty kb_list_bool, _, rfl, iteF ?_⟩
        refine ⟨_, rfl, _, _, _, _, false, rfl, .ty "bool", tx, kit_ty kb_list_bool, _, rfl, iteF ?_⟩
        refine ⟨_, rfl, _, _, _, _, false, rfl, .ty "int", ty, kit_ty kb_list_int, _, rfl, iteF ?_⟩
        refine ⟨_, rfl, _, _, _, _, false, rfl, .ty "str", ty, kit_ty kb_list_str, _, rfl, iteF ?_⟩
        refine ⟨_, rfl, _, _, _, _, false, rfl, .ty "tuple", ty, kit_ty kb_list_tuple, _, rfl, _, _, _, _, false, rfl, .ty "tuple", tx, kit_ty kb_list_tuple, rfl, _, rfl, iteF ?_⟩
        refine ⟨_, rfl, _, _, _, _, true, rfl, .ty "list", ty, kit_ty kb_list_list, _, rfl, _, _, _, _, true, rfl, .ty "list", tx, kit_ty kb_list_list, rfl, _, rfl, iteF ?_⟩
        have hd' : (decide (ds.length ≤ 9000) && ds.all (depOk n)) = true := hd
        rw [Bool.and_eq_true] at hd'
        have hle : ds.length ≤ 9000 := of_decide_eq_true hd'.1
        have lx := dpa_len ax_
        have ly := dpa_len ay_
        refine ⟨_, rfl, ax, xs, rfl, .inl sx, _, rfl, ay, ys, rfl, .inl sy, rfl, _, rfl, ?_⟩
        rw [lx, ly, decide_eq_true rfl]
        refine iteT ?_
        refine ⟨_, rfl, ay, ys, rfl, .inl sy, _, rfl, by rw [ly]; omega, by rw [ly]; omega, fun D hD => lc_range (lo := 0) (n := ys.length)
          (Qd := _) (fun i H' => Sm T H H' ∧ H' D = some (.lst (List.replicate i (V.bl true)))) ⟨same_upd hD, upd_same⟩ ?_ ?_⟩
        · rintro i H' hi ⟨sm, eD⟩
          rw [ly] at hi
          obtain ⟨vx, ex, dx⟩ := dpa_get ax_ (List.getElem?_eq_getElem hi)
          obtain ⟨vy, ey, dy⟩ := dpa_get ay_ (List.getElem?_eq_getElem hi)
          refine ⟨rfl, tyes_i ?_⟩
          refine ⟨_, rfl, _, rfl, .inl ⟨ax, xs, _, vx, rfl, rfl, sm.seq sx, at_of (j := i) (by omega) ex, ?_⟩⟩
          refine ⟨_, rfl, _, rfl, .inl ⟨ay, ys, _, vy, rfl, rfl, sm.seq sy, at_of (j := i) (by omega) ey, ?_⟩⟩
          refine ⟨vx, vy, ds[i], rfl, dp_same sm _ _ dx, dp_same sm _ _ dy, List.all_eq_true.mp hd'.2 _ (List.getElem_mem hi), fun H2 s2 => ⟨_, s2.k eD, ?_, same_mut (sm.trans s2) hD (s2.lst eD), ?_⟩⟩
          · rw [List.length_replicate]
            exact szl (by omega)
          · rw [upd_same, ← List.replicate_succ']
        · rintro H' ⟨sm, eD⟩
          rw [ly] at eD
          refine ⟨D, List.replicate ds.length true, rfl, SqL.of (by rw [eD, List.map_replicate]), ?_⟩
          rw [rep_all]
          exact q H' sm
      | tuple ds =>
        cases hx with
        | @tup ax xs _ sx ax_ =>
        cases hy with
        | @tup ay ys _ sy ay_ =>
        refine ⟨_, rfl, rfl, _, rfl, iteF ?_⟩
        refine ⟨_, rfl, _, _, _, _, false, rfl, .ty "bool", ty, kit_ty kb_tuple_bool, _, rfl, iteF ?_⟩
        refine ⟨_, rfl, _, _, _, _, false, rfl, .ty "bool", tx, kit_ty kb_tuple_bool, _, rfl, iteF ?_⟩
        refine ⟨_, rfl, _, _, _, _, false, rfl, .ty "int", ty, kit_ty kb_tuple_int, _, rfl, iteF ?_⟩
        refine ⟨_, rfl, _, _, _, _, false, rfl, .ty "str", ty, kit_ty kb_tuple_str, _, rfl, iteF ?_⟩
        refine ⟨_, rfl, _, _, _, _, true, rfl, .ty "tuple", ty, kit_ty kb_tuple_tuple, _, rfl, _, _, _, _, true, rfl, .ty "tuple", tx, kit_ty kb_tuple_tuple, rfl, _, rfl, iteF ?_⟩
        refine ⟨_, rfl, _, _, _, _, false, rfl, .ty "list", ty, kit_ty kb_tuple_list, _, rfl, _, _, _, _, false, rfl, .ty "list", tx, kit_ty kb_tuple_list, rfl, _, rfl, iteF ?_⟩
        have hd' : (decide (ds.length ≤ 9000) && ds.all (depOk n)) = true := hd
        rw [Bool.and_eq_true] at hd'
        have hle : ds.length ≤ 9000 := of_decide_eq_true hd'.1
        have lx := dpa_len ax_
        have ly := dpa_len ay_
        refine ⟨_, rfl, ax, xs, rfl, .inr sx, _, rfl, ay, ys, rfl, .inr sy, rfl, _, rfl, ?_⟩
        rw [lx, ly, decide_eq_true rfl]
        refine iteT ?_
        refine ⟨_, rfl, ay, ys, rfl, .inr sy, _, rfl, by rw [ly]; omega, by rw [ly]; omega, fun D hD => lc_range (lo := 0) (n := ys.length)
          (Qd := _) (fun i H' => Sm T H H' ∧ H' D = some (.lst (List.replicate i (V.bl true)))) ⟨same_upd hD, upd_same⟩ ?_ ?_⟩
        · rintro i H' hi ⟨sm, eD⟩
          rw [ly] at hi
          obtain ⟨vx, ex, dx⟩ := dpa_get ax_ (List.getElem?_eq_getElem hi)
          obtain ⟨vy, ey, dy⟩ := dpa_get ay_ (List.getElem?_eq_getElem hi)
          refine ⟨rfl, tyes_i ?_⟩
          refine ⟨_, rfl, _, rfl, .inr (.inl ⟨ax, xs, _, vx, rfl, rfl, same_tup sm sx, at_of (j := i) (by omega) ex, ?_⟩)⟩
          refine ⟨_, rfl, _, rfl, .inr (.inl ⟨ay, ys, _, vy, rfl, rfl, same_tup sm sy, at_of (j := i) (by omega) ey, ?_⟩)⟩
          refine ⟨vx, vy, ds[i], rfl, dp_same sm _ _ dx, dp_same sm _ _ dy, List.all_eq_true.mp hd'.2 _ (List.getElem_mem hi), fun H2 s2 => ⟨_, s2.k eD, ?_, same_mut (sm.trans s2) hD (s2.lst eD), ?_⟩⟩
          · rw [List.length_replicate]
            exact szl (by omega)
          · rw [upd_same, ← List.replicate_succ']
        · rintro H' ⟨sm, eD⟩
          rw [ly] at eD
          refine ⟨D, List.replicate ds.length true, rfl, SqL.of (by rw [eD, List.map_replicate]), ?_⟩
          rw [rep_all]
          exact q H' sm
      | dict _ => cases hd
theorem ok_l_same {f : Addr} {fd : FuncData} (F : Fun K "_law_same" "_law_same" s_l_same f fd) (B : Bn mg) (g : mg "_law_same" = some (.ref f)) (b : Binds K fd ["_law_found", "_law_due"] []) :
    FnOk P w K mg base CX0 6 f fd ["_law_found", "_law_due"] (sp_l_same K T) := ok_l_same_n F B g b 5

def mixF (c : Int) : Int := if c < 10 ^ 18 then
    (let one := (c * 48271 + 11) % 2147483647
     let two := (one * one + 40692 * one + c) % 2147483399
     let six := (two * 69621 + one) % 1000000007
     two + 2147483399 * (six + 1000000007 * one)) else c - 10 ^ 18
def drF : Int → List Int → List Int
  | _, [] => []
  | c, q :: qs => c % q :: drF (c / q) qs
def cuF : Int → List Int → Int
  | c, [] => c
  | c, q :: qs => cuF (c / q) qs
theorem drF_snoc : ∀ (c : Int) (qs : List Int) (q : Int), drF c (qs ++ [q]) = drF c qs ++ [cuF c qs % q]
  | _, [], _ => rfl
  | c, a :: qs, q => by
    show c % a :: drF (c / a) (qs ++ [q]) = c % a :: drF (c / a) qs ++ [_]
    rw [drF_snoc]
    rfl
theorem cuF_snoc : ∀ (c : Int) (qs : List Int) (q : Int), cuF c (qs ++ [q]) = cuF c qs / q
  | _, [], _ => rfl
  | c, a :: qs, q => cuF_snoc (c / a) qs q
theorem drF_len : ∀ (c : Int) (qs : List Int), (drF c qs).length = qs.length
  | _, [] => rfl
  | c, _ :: qs => congrArg (· + 1) (drF_len _ qs)
theorem drF_drawn : ∀ (c : Int) (qs : List Int), (∀ q ∈ qs, 0 < q) → Drawn (drF c qs) qs
  | _, [], _ => trivial
  | c, a :: qs, h => ⟨⟨Int.emod_nonneg _ (by have := h a List.mem_cons_self; omega), Int.emod_lt_of_pos _ (h a List.mem_cons_self)⟩, drF_drawn _ qs fun q hq => h q (List.mem_cons_of_mem _ hq)⟩
def sp_l_draws_f (K : PySem.W.Frag) (T : Tb) : Sp := fun vs H Q _ => ∃ (c : Int) (a : Addr) (qs : List Int), vs = [.int c, .ref a] ∧ SqL K H a (qs.map V.int) ∧ qs.length ≤ 1000 ∧ (∀ q ∈ qs, 0 < q ∧ q.natAbs < 2 ^ 100) ∧
  ∀ p H', Sm T H H' → H p = none → H' p = some (.lst ((drF (mixF c) qs).map V.int)) → Q (.ref p) H'
theorem ok_l_draws_f {f : Addr} {fd : FuncData} (F : Fun K "_law_draws" "_law_draws" s_l_draws_f f fd) : FnOk P w K mg base CX0 1 f fd ["_law_cell_here", "_law_parts"] (sp_l_draws_f K T) := by
  refine F.ok sc_l_draws_f (fun vs H Q E h => ?_) (fun cdv A outer s H vs Q E hr h => ?_)
  · obtain ⟨c, a, qs, rfl, _⟩ := h
    rfl
  · obtain ⟨c, a, qs, rfl, hS, hlen, hpos, q⟩ := h
    refine ⟨_, (pss_cons (ps_if (pt_cmpR op_lt (pv 0) (pe_op op_pow pe_int pe_int) (nomark _)) (pss_cons (ps_set (i := 2) sc_l_draws_f.nd rfl (.inl rfl) (pe_op op_mod (pe_op op_add (pe_op op_mul (pv 0) pe_int) pe_int) pe_int))
      (pss_cons (ps_set (i := 3) sc_l_draws_f.nd rfl (.inl rfl) (pe_op op_mod (pe_op op_add (pe_op op_add (pe_op op_mul (pv 2) (pv 2)) (pe_op op_mul pe_int (pv 2))) (pv 0)) pe_int))
      (pss_cons (ps_set (i := 4) sc_l_draws_f.nd rfl (.inl rfl) (pe_op op_mod (pe_op op_add (pe_op op_mul (pv 3) pe_int) (pv 2)) pe_int))
      (pss_one (ps_set (i := 0) sc_l_draws_f.nd rfl (.inl rfl) (pe_op op_add (pv 3) (pe_op op_mul pe_int (pe_op op_add (pv 4) (pe_op op_mul pe_int (pv 2)))))))))) (pss_one (ps_set (i := 0) sc_l_draws_f.nd rfl (.inl rfl) (pe_op op_sub (pv 0) (pe_op op_pow pe_int pe_int)))))
      (pss_cons (ps_set (i := 5) sc_l_draws_f.nd rfl (.inl rfl) (pe_lst pa_nil))
      (pss_cons (ps_for PassesOwn.never rfl (pi_list (pv 1)) (pg_name (i := 6) sc_l_draws_f.nd rfl (.inl rfl))
      (pss_cons (ps_expr (pe_bm PySem.F.plainAttrs_list PySem.F.slot_list_append PySem.F.type_list_append mt_append (pv 5) (pa_cons (pe_op op_mod (pv 0) (pv 6)) pa_nil)))
      (pss_one (ps_set (i := 0) sc_l_draws_f.nd rfl (.inl rfl) (pe_op op_fdivW (pv 0) (pv 6))))))
      (pss_one (ps_ret (pv 5)))))), ?_⟩
    refine seq_if (fun σ' H' => H' = H ∧ ∃ (c1 : Int) (x2 x3 x4 : Option V), σ' = [some (.int c1), some (.ref a), x2, x3, x4, none, none] ∧ mixF c = c1) (fun σ' H' p => ?_) (fun k => ?_)
    · obtain ⟨rfl, c1, x2, x3, x4, rfl, ec⟩ := p
      rw [ec] at q
      refine ⟨Nat.zero_le _, fun o no => ?_⟩
      refine ⟨_, rfl, a, rfl, ⟨_, (same_upd (T := T) no).seq hS⟩, for_list (K := K) (a := a) (xs := qs.map V.int)
        (fun i σ H3 => ∃ (x6 : Option V), σ = [some (.int (cuF c1 (qs.take i))), some (.ref a), x2, x3, x4, some (.ref o), x6] ∧ Sm T H' H3 ∧ H3 o = some (.lst ((drF c1 (qs.take i)).map V.int)))
        ⟨none, rfl, same_upd no, upd_same⟩ (fun i σ H3 _ ⟨_, _, sm, _⟩ => sm.seq hS) ?_ ?_⟩
      · rintro i y σ H3 hi ⟨x6, rfl, sm, eo⟩
        rw [List.getElem?_map] at hi
        obtain ⟨qi, hq, rfl⟩ : ∃ qi, qs[i]? = some qi ∧ V.int qi = y := Option.map_eq_some_iff.mp hi
        have hqm := hpos qi (List.mem_of_getElem? hq)
        have hil : i < qs.length := (List.getElem?_eq_some_iff.mp hq).1
        refine ⟨_, rfl, .inl ⟨rfl, _, SqL.of eo⟩, _, rfl, _, rfl, _, _, rfl, rfl, hqm.1, o, _, _, rfl, rfl, eo, ?_, ?_⟩
        · rw [List.length_map, drF_len, List.length_take]
          exact szl (by omega)
        · refine ⟨_, rfl, _, rfl, _, _, rfl, rfl, wide_div hqm.1 hqm.2 (by decide) (by decide), ?_⟩
          refine ⟨some (.int qi), ?_, same_mut sm no eo, ?_⟩
          · rw [List.take_add_one, hq]
            show _ = [some (V.int (cuF c1 (qs.take i ++ [qi]))), _, _, _, _, _, _]
            rw [cuF_snoc]
            rfl
          · rw [upd_same, List.take_add_one, hq]
            show _ = some (HO.lst ((drF c1 (qs.take i ++ [qi])).map V.int))
            rw [drF_snoc, List.map_append]
            rfl
      · rintro σ H3 ⟨x6, rfl, sm, eo⟩
        rw [List.length_map, List.take_length] at eo
        exact ⟨_, rfl, q o H3 sm no eo⟩
    · have b1 := Int.emod_nonneg (c * 48271 + 11) (show (2147483647 : Int) ≠ 0 by decide)
      have b2 := Int.emod_lt_of_pos (c * 48271 + 11) (show (0 : Int) < 2147483647 by decide)
      refine ⟨_, rfl, _, _, rfl, rfl, ⟨by decide, by decide, by decide⟩, _, _, rfl, rfl, _, rfl, ite2 (fun e => ?_) (fun e => ?_)⟩
      · have ec : c < 10 ^ 18 := of_decide_eq_true e
        refine ⟨_, rfl, _, _, rfl, rfl, .inr ⟨by decide, by decide⟩, _, _, rfl, rfl, _, _, rfl, rfl, (by show (0 : Int) < 2147483647; decide), ?_⟩
        refine ⟨_, rfl, _, rfl, _, _, rfl, rfl, .inl ⟨by omega, by omega⟩, ?_⟩
        refine ⟨_, rfl, _, _, rfl, rfl, .inl ⟨by decide, by decide⟩, _, _, rfl, rfl, _, rfl, _, _, rfl, rfl, _, _, rfl, rfl, (by show (0 : Int) < 2147483399; decide), ?_⟩
        refine ⟨_, rfl, _, _, rfl, rfl, .inr ⟨by decide, by decide⟩, _, rfl, _, _, rfl, rfl, _, _, rfl, rfl, (by show (0 : Int) < 1000000007; decide), ?_⟩
        refine ⟨_, rfl, _, rfl, _, rfl, _, _, rfl, rfl, .inl ⟨by decide, by decide⟩, _, _, rfl, rfl, _, _, rfl, rfl, .inl ⟨by decide, by decide⟩, _, _, rfl, rfl, ?_⟩
        refine k _ _ ⟨rfl, _, _, _, _, rfl, ?_⟩
        unfold mixF
        rw [if_pos ec]
      · have ec : ¬ c < 10 ^ 18 := fun z => e (decide_eq_true z)
        refine ⟨_, rfl, _, _, rfl, rfl, ⟨by decide, by decide, by decide⟩, _, _, rfl, rfl, ?_⟩
        refine k _ _ ⟨rfl, _, _, _, _, rfl, ?_⟩
        unfold mixF
        rw [if_neg ec]
        rfl

/-- a text times a number -/
theorem op_repS {X : Cx} : OpR X (binaryOp .Mult) (fun x y H Q => ∃ i n, x = .str i ∧ y = .int n ∧ MulOk i n ∧ Q (.str (Txt.mul i n)) H) := by
  intro pins s σ H x y v u Q I rx ry h
  obtain ⟨i, n, rfl, rfl, hk, q⟩ := h
  obtain ⟨t, rfl⟩ := rx
  obtain ⟨t', rfl⟩ := ry
  exact SB.mul hk (fun t' k => ⟨.str _, H, I.tok _, ⟨_, rfl⟩, q⟩)

def ABC : Str := "abcdefghijklmnopqrstuvwxyz"
def chF (i : Int) : Str := ⟨#[97 + i.toNat]⟩
theorem abc_at {i : Int} (h0 : 0 ≤ i) (h1 : i < 26) : atI ABC.cps.toList i = some (97 + i.toNat) := by
  have h : ∀ n : Fin 26, atI ABC.cps.toList ((n.val : Nat) : Int) = some (97 + n.val) := by decide +kernel
  have := h ⟨i.toNat, by omega⟩
  rw [show (((⟨i.toNat, by omega⟩ : Fin 26).val : Nat) : Int) = i from by show ((i.toNat : Nat) : Int) = i; omega] at this
  exact this
theorem abc_len : ABC.length ≤ sizeLine := by decide +kernel
theorem ch_len (i : Int) : (chF i).length = 1 := rfl
theorem mul_ok {i n : Int} (h0 : 0 ≤ n) (h1 : n < 4) : MulOk (chF i) n := by
  refine ⟨by rw [decide_eq_false (by omega), decide_eq_false (by omega)]; rfl, fun h _ z => ?_, fun h _ => ?_⟩
  · rw [ch_len] at z
    rcases (by omega : n = 1 ∨ n = 2 ∨ n = 3) with rfl | rfl | rfl <;> exact absurd z (by decide)
  · rw [ch_len]
    rcases (by omega : n = 1 ∨ n = 2 ∨ n = 3) with rfl | rfl | rfl <;> decide
theorem mul_cps {i n : Int} (h0 : 0 ≤ n) (h1 : n < 4) : (Txt.mul (chF i) n).cps.toList = List.replicate n.toNat (97 + i.toNat) := by
  rcases (by omega : n = 0 ∨ n = 1 ∨ n = 2 ∨ n = 3) with rfl | rfl | rfl | rfl <;> rfl
def nmF (a b c d : Int) (k : Nat) : Str := Txt.mul (chF c) a ++ (chF ((7 * (k : Int) + d) % 26) ++ chF ((d + (k : Int) / 26) % 26)) ++ Txt.mul (chF c) b
def nameF (k : Nat) (salt : Int) : Str := match drF (mixF salt) [4, 4, 26, 26] with
  | [a, b, c, d] => nmF a b c d k
  | _ => ""
theorem name_dr (salt : Int) : ∃ a b c d, drF (mixF salt) [4, 4, 26, 26] = [a, b, c, d] ∧ (0 ≤ a ∧ a < 4) ∧ (0 ≤ b ∧ b < 4) ∧ (0 ≤ c ∧ c < 26) ∧ (0 ≤ d ∧ d < 26) := by
  have hd := drF_drawn (mixF salt) [4, 4, 26, 26] (by decide)
  generalize drF (mixF salt) [4, 4, 26, 26] = ds at hd
  obtain ⟨d1, r1, rfl, h10, h11, hd⟩ := hd.cons
  obtain ⟨d2, r2, rfl, h20, h21, hd⟩ := hd.cons
  obtain ⟨d3, r3, rfl, h30, h31, hd⟩ := hd.cons
  obtain ⟨d4, r4, rfl, h40, h41, hd⟩ := hd.cons
  obtain rfl := hd.nil
  exact ⟨d1, d2, d3, d4, rfl, ⟨h10, h11⟩, ⟨h20, h21⟩, ⟨h30, h31⟩, ⟨h40, h41⟩⟩
theorem str_app (x y : Str) : (x ++ y).cps.toList = x.cps.toList ++ y.cps.toList := by
  show (x.cps ++ y.cps).toList = _
  exact Array.toList_append
theorem nm_cps {a b c d : Int} {k : Nat} (ha : 0 ≤ a ∧ a < 4) (hb : 0 ≤ b ∧ b < 4) : (nmF a b c d k).cps.toList = List.replicate a.toNat (97 + c.toNat) ++ ([97 + ((7 * (k : Int) + d) % 26).toNat, 97 + ((d + (k : Int) / 26) % 26).toNat] ++ List.replicate b.toNat (97 + c.toNat)) := by
  unfold nmF
  rw [str_app, str_app, str_app, mul_cps ha.1 ha.2, mul_cps hb.1 hb.2, List.append_assoc]
  rfl
theorem str_len (x : Str) : x.length = x.cps.toList.length := rfl
theorem name_ok (k : Nat) (salt : Int) : nameB (nameF k salt) = true ∧ (nameF k salt).length ≤ 8 := by
  obtain ⟨a, b, c, d, e, ha, hb, hc, hd⟩ := name_dr salt
  unfold nameF
  rw [e]
  show nameB (nmF a b c d k) = true ∧ (nmF a b c d k).length ≤ 8
  have hl : (nmF a b c d k).length = a.toNat + (2 + b.toNat) := by
    rw [str_len, nm_cps ha hb, List.length_append, List.length_append, List.length_replicate, List.length_replicate]
    rfl
  have let_ : ∀ n : Fin 26, letB (97 + n.val) = true := by decide +kernel
  have l1 : ∀ z : Int, 0 ≤ z → z < 26 → letB (97 + z.toNat) = true := fun z h0 h1 => let_ ⟨z.toNat, by omega⟩
  refine ⟨?_, by omega⟩
  unfold nameB
  rw [decide_eq_true (by omega), decide_eq_true (by omega), nm_cps ha hb, List.all_append, List.all_append, List.all_replicate, List.all_replicate, l1 c hc.1 hc.2]
  have m1 := l1 _ (Int.emod_nonneg (7 * (k : Int) + d) (show (26 : Int) ≠ 0 by decide)) (Int.emod_lt_of_pos _ (by decide))
  have m2 := l1 _ (Int.emod_nonneg (d + (k : Int) / 26) (show (26 : Int) ≠ 0 by decide)) (Int.emod_lt_of_pos _ (by decide))
  simp [m1, m2]
theorem name_inj {k l : Nat} {salt : Int} (hk : k < 26) (hl : l < 26) (h : nameF k salt = nameF l salt) : k = l := by
  obtain ⟨a, b, c, d, e, ha, hb, hc, hd⟩ := name_dr salt
  unfold nameF at h
  rw [e] at h
  have h : nmF a b c d k = nmF a b c d l := h
  have h2 : (nmF a b c d k).cps.toList = (nmF a b c d l).cps.toList := by rw [h]
  rw [nm_cps ha hb, nm_cps ha hb] at h2
  have h3 := List.append_cancel_left h2
  have h4 : 97 + ((7 * (k : Int) + d) % 26).toNat = 97 + ((7 * (l : Int) + d) % 26).toNat := (List.cons.inj h3).1
  omega
def sp_l_name (K : PySem.W.Frag) (T : Tb) : Sp := fun vs H Q _ => ∃ (k : Nat) (salt : Int), vs = [.int k, .int salt] ∧ k ≤ 1000 ∧ ∀ H', Sm T H H' → Q (.str (nameF k salt)) H'
theorem ok_l_name {f : Addr} {fd : FuncData} (F : Fun K "_law_name" "_law_name" s_l_name f fd) (F_l_draws_f : Fn P w K mg base 1 "_law_draws" ["_law_cell_here", "_law_parts"] (sp_l_draws_f K T)) : FnOk P w K mg base CX0 2 f fd ["_law_k", "_law_salt"] (sp_l_name K T) := by
  refine F.ok sc_l_name (fun vs H Q E h => ?_) (fun cdv A outer s H vs Q E hr h => ?_)
  · obtain ⟨k, salt, rfl, _⟩ := h
    rfl
  · obtain ⟨k, salt, rfl, hk, q⟩ := h
    refine ⟨_, (pss_cons (ps_set (i := 2) sc_l_name.nd rfl (.inl rfl) pe_str)
      (pss_cons (ps_asg (pe_fn F_l_draws_f (hr.mono (by decide)) (pa_cons (pv 1) (pa_cons (pe_lst (pa_cons pe_int (pa_cons pe_int (pa_cons pe_int (pa_cons pe_int pa_nil))))) pa_nil))) (pg_unl rfl (pgs_cons (pg_name (i := 3) sc_l_name.nd rfl (.inl rfl)) (pgs_cons (pg_name (i := 4) sc_l_name.nd rfl (.inl rfl)) (pgs_cons (pg_name (i := 5) sc_l_name.nd rfl (.inl rfl)) (pgs_cons (pg_name (i := 6) sc_l_name.nd rfl (.inl rfl)) pgs_nil))))))
      (pss_cons (ps_set (i := 7) sc_l_name.nd rfl (.inl rfl) (pe_op op_add_str (pe_ix ix_str (pv 2) (pe_op op_mod (pe_op op_add (pe_op op_mul pe_int (pv 0)) (pv 6)) pe_int) (fun _ _ => rfl)) (pe_ix ix_str (pv 2) (pe_op op_mod (pe_op op_add (pv 6) (pe_op op_fdivW (pv 0) pe_int)) pe_int) (fun _ _ => rfl))))
      (pss_one (ps_ret (pe_op op_add_str (pe_op op_add_str (pe_op op_repS (pe_ix ix_str (pv 2) (pv 5) (fun _ _ => rfl)) (pv 3)) (pv 7)) (pe_op op_repS (pe_ix ix_str (pv 2) (pv 5) (fun _ _ => rfl)) (pv 4)))))))), ?_⟩
    obtain ⟨a, b, c, d, ed, ha, hb, hc, hd⟩ := name_dr salt
    refine ⟨_, rfl, by show 4 ≤ sizeLine; decide, fun l1 n1 => ?_⟩
    have u1 := same_upd (T := T) (o := .lst [.int 4, .int 4, .int 26, .int 26]) n1
    refine ⟨salt, l1, [4, 4, 26, 26], rfl, SqL.of upd_same, by decide, by decide, fun p2 H2 s2 np2 e2 => ?_⟩
    rw [ed] at e2
    refine ⟨p2, _, rfl, SqL.of e2, rfl, _, _, rfl, _, _, rfl, _, _, rfl, _, _, rfl, rfl, ?_⟩
    have m1 := Int.emod_nonneg (7 * (k : Int) + d) (show (26 : Int) ≠ 0 by decide)
    have m2 := Int.emod_lt_of_pos (7 * (k : Int) + d) (show (0 : Int) < 26 by decide)
    have m3 := Int.emod_nonneg (d + (k : Int) / 26) (show (26 : Int) ≠ 0 by decide)
    have m4 := Int.emod_lt_of_pos (d + (k : Int) / 26) (show (0 : Int) < 26 by decide)
    have q' : Q (.str (nmF a b c d k)) H2 := by
      have := q H2 (u1.trans s2)
      unfold nameF at this
      rw [ed] at this
      exact this
    have z1 : (Txt.mul (chF c) a).length ≤ 3 := by rw [str_len, mul_cps ha.1 ha.2, List.length_replicate]; omega
    have z2 : (Txt.mul (chF c) b).length ≤ 3 := by rw [str_len, mul_cps hb.1 hb.2, List.length_replicate]; omega
    have z3 : ∀ x y : Str, (x ++ y).length = x.length + y.length := fun x y => by rw [str_len, str_app, List.length_append]; rfl
    refine ⟨_, rfl, _, rfl, _, _, rfl, rfl, .inl ⟨by decide, by decide⟩, _, rfl, _, _, rfl, rfl, _, _, rfl, rfl, (by show (0 : Int) < 26; decide), ABC, _, _, rfl, rfl, abc_len, abc_at m1 m2, ?_⟩
    refine ⟨_, rfl, _, rfl, _, rfl, _, _, rfl, rfl, wide_div (b := 100) (by decide) (by decide) (by decide) (by decide), _, _, rfl, rfl, _, _, rfl, rfl, (by show (0 : Int) < 26; decide), ABC, _, _, rfl, rfl, abc_len, abc_at m3 m4, _, _, rfl, rfl, by show 2 ≤ sizeLine; decide, ?_⟩
    refine ⟨_, rfl, _, rfl, ABC, _, _, rfl, rfl, abc_len, abc_at hc.1 hc.2, _, rfl, chF c, a, rfl, rfl, mul_ok ha.1 ha.2, _, rfl, _, _, rfl, rfl, sz (by rw [z3]; show (Txt.mul (chF c) a).length + 2 ≤ _; omega), ?_⟩
    refine ⟨_, rfl, _, rfl, ABC, _, _, rfl, rfl, abc_len, abc_at hc.1 hc.2, _, rfl, chF c, b, rfl, rfl, mul_ok hb.1 hb.2, _, _, rfl, rfl, sz (by rw [z3, z3]; show (Txt.mul (chF c) a).length + 2 + (Txt.mul (chF c) b).length ≤ _; omega), q'⟩

def sp_l_split (K : PySem.W.Frag) (T : Tb) : Sp := fun vs H Q _ => ∃ (c : Int) (n : Nat), vs = [.int c, .int n] ∧ n ≤ 100 ∧
  ∀ p H' (zs : List Int), Sm T H H' → H p = none → H' p = some (.lst (zs.map V.int)) → zs.length = n → Q (.ref p) H'
theorem ok_l_split {f : Addr} {fd : FuncData} (F : Fun K "_law_split" "_law_split" s_l_split f fd) (B : Bn mg) : FnOk P w K mg base CX0 1 f fd ["_law_cell_here", "_law_many_here"] (sp_l_split K T) := by
  refine F.ok sc_l_split (fun vs H Q E h => ?_) (fun cdv A outer s H vs Q E hr h => ?_)
  · obtain ⟨c, n, rfl, _⟩ := h
    rfl
  · obtain ⟨c, n, rfl, hn, q⟩ := h
    refine ⟨_, (pss_cons (ps_set (i := 2) sc_l_split.nd rfl (.inl rfl) (pe_lst pa_nil))
      (pss_cons (ps_set (i := 3) sc_l_split.nd rfl (.inl rfl) (pe_cmpR op_ge (pv 0) (pe_op op_pow pe_int pe_int) (nomark _)))
      (pss_cons (ps_for PassesOwn.never rfl (pi_range1 (by rfl) B.range_ (pa_cons (pv 1) pa_nil)) (pg_name (i := 4) sc_l_split.nd rfl (.inl rfl))
      (pss_one (ps_if (pt_val (pv 3)) (pss_cons (ps_expr (pe_bm PySem.F.plainAttrs_list PySem.F.slot_list_append PySem.F.type_list_append mt_append (pv 2) (pa_cons (pe_op op_add (pe_op op_pow pe_int pe_int) (pe_op op_mod (pv 0) (pe_op op_pow pe_int pe_int))) pa_nil)))
      (pss_one (ps_set (i := 0) sc_l_split.nd rfl (.inl rfl) (pe_op op_fdivW (pv 0) (pe_op op_pow pe_int pe_int))))) (pss_one (ps_expr (pe_bm PySem.F.plainAttrs_list PySem.F.slot_list_append PySem.F.type_list_append mt_append (pv 2) (pa_cons (pe_op op_add (pe_op op_mul (pv 0) (pe_op op_add (pe_op op_mul pe_int (pv 4)) pe_int)) (pe_op op_mul pe_int (pv 4))) pa_nil)))))))
      (pss_one (ps_ret (pv 2)))))), ?_⟩
    refine ⟨Nat.zero_le _, fun o no => ?_⟩
    refine ⟨_, rfl, _, _, rfl, rfl, ⟨by decide, by decide, by decide⟩, _, _, rfl, rfl, ?_⟩
    refine ⟨_, rfl, n, rfl, by omega, by omega, for_range (lo := 0) (n := n)
      (fun i σ H3 => ∃ (c : Int) (b : Bool) (x4 : Option V) (zs : List Int), σ = [some (.int c), some (.int n), some (.ref o), some (.bl b), x4] ∧ Sm T H H3 ∧ H3 o = some (.lst (zs.map V.int)) ∧ zs.length = i)
      ⟨c, _, none, [], rfl, same_upd no, upd_same, rfl⟩ ?_ ?_⟩
    · rintro i σ H3 hi ⟨c, b, x4, zs, rfl, sm, eo, hl⟩
      have hs : (zs.map V.int).length < sizeLine := by
        rw [List.length_map]
        exact szl (by omega)
      refine ⟨_, rfl, _, rfl, ?_⟩
      cases b with
      | true =>
        refine iteT ?_
        refine ⟨_, rfl, .inl ⟨rfl, _, SqL.of eo⟩, _, _, rfl, rfl, ⟨by decide, by decide, by decide⟩, _, rfl, _, _, rfl, rfl, ⟨by decide, by decide, by decide⟩, _, _, rfl, rfl, (by show (0 : Int) < 10 ^ 30; decide), _, _, rfl, rfl, o, _, _, rfl, rfl, eo, hs, ?_⟩
        refine ⟨_, rfl, _, _, rfl, rfl, ⟨by decide, by decide, by decide⟩, _, _, rfl, rfl, wide_div (b := 200) (by show (0 : Int) < 10 ^ 30; decide) (by decide) (by decide) (by decide), ?_⟩
        refine ⟨_, true, _, zs ++ [10 ^ (18 : Int).toNat + c % 10 ^ (30 : Int).toNat], rfl, same_mut sm no eo, ?_, ?_⟩
        · rw [upd_same, List.map_append]
          rfl
        · rw [List.length_append, hl]
          rfl
      | false =>
        refine iteF ?_
        refine ⟨_, rfl, .inl ⟨rfl, _, SqL.of eo⟩, _, rfl, _, rfl, _, _, rfl, rfl, .inl ⟨by decide, by decide⟩, _, _, rfl, rfl, _, _, rfl, rfl, .inr ⟨by omega, by omega⟩, _, rfl, _, _, rfl, rfl, .inl ⟨by decide, by decide⟩, _, _, rfl, rfl, o, _, _, rfl, rfl, eo, hs, ?_⟩
        refine ⟨_, false, _, zs ++ [c * (2 * (0 + (i : Int)) + 3) + 7919 * (0 + (i : Int))], rfl, same_mut sm no eo, ?_, ?_⟩
        · rw [upd_same, List.map_append]
          rfl
        · rw [List.length_append, hl]
          rfl
    · rintro σ H3 ⟨c, b, x4, zs, rfl, sm, eo, hl⟩
      exact ⟨_, rfl, q o H3 zs sm no eo hl⟩

def sp_l_way (K : PySem.W.Frag) (T : Tb) : Sp := fun vs H Q _ => ∃ c : Int, vs = [.int c] ∧ ∀ o H' us qs, Sm T H H' → H o = none → H' o = some (.lst us) → DpAll K H' us (qs.map amD) → wayB qs = true → Q (.ref o) H'
theorem ok_l_way {f : Addr} {fd : FuncData} (F : Fun K "_law_way" "_law_way" s_l_way f fd) (B : Bn mg) (F_l_draws : Fn P w K mg base 1 "_law_draws" ["_law_cell_here", "_law_parts"] (sp_l_draws K T)) : FnOk P w K mg base CX0 2 f fd ["_law_cell_here"] (sp_l_way K T) := by
  refine F.ok sc_l_way (fun vs H Q E h => ?_) (fun cdv A outer s H vs Q E hr h => ?_)
  · obtain ⟨c, rfl, _⟩ := h
    rfl
  · obtain ⟨c, rfl, q⟩ := h
    refine ⟨_, (pss_cons (ps_set (i := 1) sc_l_way.nd rfl (.inr rfl) (pe_fn F_l_draws (hr.mono (by decide)) (pa_cons (pv 0) (pa_cons (pe_op op_cat (pe_lst (pa_cons pe_int (pa_cons pe_int (pa_cons pe_int pa_nil)))) (pe_lc (own := [("_law_k", 4)]) (g := (gName 4)) (tt := tYes) (by rfl) sc_l_way.nd (pi_range1 (by rfl) B.range_ (pa_cons pe_int pa_nil)) (blkOk_by (own := [("_law_k", 4)]) (N := ["_law_cell_here", "_law_drawn", "_law_cap", "_law_many_here", "_law_k"]) (sc := (defScope s_l_way)) (by decide +kernel)) (fun _ _ _ _ _ => (pg_name (i := 4) sc_l_way.nd rfl (.inl rfl))) (fun _ _ _ _ _ => pts_nil) (fun _ _ _ _ _ => pe_int))) pa_nil))))
      (pss_cons (ps_set (i := 2) sc_l_way.nd rfl (.inr rfl) (pe_ix ix_list (pe_lst (pa_cons pe_int (pa_cons pe_int (pa_cons pe_int pa_nil)))) (pe_ix ix_list (pv 1) pe_int (fun _ _ => rfl)) (fun _ _ => rfl)))
      (pss_cons (ps_set (i := 3) sc_l_way.nd rfl (.inl rfl) (pe_ix ix_list (pe_lst (pa_cons (pe_op op_add (pe_ix ix_list (pv 1) pe_int (fun _ _ => rfl)) pe_int) (pa_cons pe_int (pa_cons (pe_op op_add pe_int (pe_op op_mod (pe_ix ix_list (pv 1) pe_int (fun _ _ => rfl)) pe_int)) pa_nil)))) (pe_ix ix_list (pv 1) pe_int (fun _ _ => rfl)) (fun _ _ => rfl)))
      (pss_one (ps_ret (pe_lc (own := [("_law_k", 4)]) (g := (gName 4)) (tt := tYes) (by rfl) sc_l_way.nd (pi_range1 (by rfl) B.range_ (pa_cons (pv 3) pa_nil)) (blkOk_by (own := [("_law_k", 4)]) (N := ["_law_cell_here", "_law_drawn", "_law_cap", "_law_many_here", "_law_k"]) (sc := (defScope s_l_way)) (by decide +kernel)) (fun _ _ _ _ _ => (pg_name (i := 4) sc_l_way.nd rfl (.inl rfl))) (fun _ _ _ _ _ => pts_nil) (fun _ _ _ _ _ => (pe_tup (pa_cons (pe_op op_add pe_int (pe_op op_mod (pe_ix (r := rIxL K) ix_list (pv 1) (pe_op op_add pe_int (pe_op op_mul pe_int (pv 4))) (fun _ _ => rfl)) (pv 2))) (pa_cons (pe_op op_add pe_int (pe_op op_mod (pe_ix (r := rIxL K) ix_list (pv 1) (pe_op op_add pe_int (pe_op op_mul pe_int (pv 4))) (fun _ _ => rfl)) (pv 2))) pa_nil)))))))))), ?_⟩
    refine ⟨_, rfl, by show 3 ≤ sizeLine; decide, fun l1 nl1 => ?_⟩
    refine ⟨_, rfl, by decide, by decide, fun D hD => lc_range (lo := 0) (n := 12) (Qd := _) (fun i H' => Sm T (upd H l1 (.lst [.int 6, .int 3, .int 3])) H' ∧ H' D = some (.lst (List.replicate i (V.int 9)))) ⟨same_upd hD, upd_same⟩ ?_ ?_⟩
    · rintro i H' hi ⟨sm, eD⟩
      refine ⟨rfl, tyes_i ?_⟩
      refine ⟨_, eD, by rw [List.length_replicate]; exact szl (by omega), same_mut sm hD eD, ?_⟩
      rw [upd_same, ← List.replicate_succ']
    · rintro H1 ⟨s1, e1⟩
      refine ⟨l1, D, _, _, rfl, rfl, s1.k upd_same, e1, by show 15 ≤ sizeLine; decide, fun l2 nl2 => ?_⟩
      refine ⟨c, l2, [6, 3, 3, 9, 9, 9, 9, 9, 9, 9, 9, 9, 9, 9, 9], rfl, SqL.of upd_same, by decide, by decide, fun p3 H3 ds s3 np3 e3 hd => ?_⟩
      have s03 : Sm T H H3 := (same_upd nl1).trans (s1.trans ((same_upd nl2).trans s3))
      obtain ⟨d0, g0, h00, h01⟩ := hd.get (i := 0) rfl
      obtain ⟨d1, g1, h10, h11⟩ := hd.get (i := 1) rfl
      obtain ⟨d2, g2, h20, h21⟩ := hd.get (i := 2) rfl
      refine ⟨by show 3 ≤ sizeLine; decide, fun l4 nl4 => ?_⟩
      have e4 := (same_upd (T := T) (o := HO.lst [V.int 9, V.int 3, V.int 5]) nl4).k e3
      have hcap : ∃ cap : Int, 1 ≤ cap ∧ cap ≤ 9 ∧ atI [V.int 9, V.int 3, V.int 5] d1 = some (.int cap) := by
        rcases (by omega : d1 = 0 ∨ d1 = 1 ∨ d1 = 2) with rfl | rfl | rfl
        · exact ⟨9, by omega, by omega, atI_nat (j := 0) rfl⟩
        · exact ⟨3, by omega, by omega, atI_nat (j := 1) rfl⟩
        · exact ⟨5, by omega, by omega, atI_nat (j := 2) rfl⟩
      obtain ⟨cap, c1, c9, hcap⟩ := hcap
      refine ⟨_, rfl, p3, _, 1, .int d1, rfl, rfl, SqL.of e4, at_map (i := 1) rfl g1, l4, _, _, _, rfl, rfl, SqL.of upd_same, hcap, ?_⟩
      refine ⟨_, rfl, p3, _, 0, .int d0, rfl, rfl, SqL.of e4, at_map (i := 0) rfl g0, _, _, rfl, rfl, ?_⟩
      refine ⟨_, rfl, p3, _, 0, .int d0, rfl, rfl, SqL.of e4, at_map (i := 0) rfl g0, _, _, rfl, rfl, (by show (0 : Int) < 3; decide), _, _, rfl, rfl, ?_⟩
      refine ⟨by show 3 ≤ sizeLine; decide, fun l5 nl5 => ?_⟩
      have e5 := (same_upd (T := T) (o := HO.lst [V.int (d0 + 1), V.int 1, V.int (1 + d0 % 3)]) nl5).k e4
      have hm : ∃ m : Nat, 1 ≤ m ∧ m ≤ 6 ∧ atI [V.int (d0 + 1), V.int 1, V.int (1 + d0 % 3)] d2 = some (.int (m : Int)) := by
        rcases (by omega : d2 = 0 ∨ d2 = 1 ∨ d2 = 2) with rfl | rfl | rfl
        · refine ⟨(d0 + 1).toNat, by omega, by omega, ?_⟩
          rw [Int.toNat_of_nonneg (by omega)]
          exact atI_nat (j := 0) rfl
        · exact ⟨1, by omega, by omega, atI_nat (j := 1) rfl⟩
        · refine ⟨(1 + d0 % 3).toNat, by omega, by omega, ?_⟩
          rw [Int.toNat_of_nonneg (by omega)]
          exact atI_nat (j := 2) rfl
      obtain ⟨m, m1, m6, hm⟩ := hm
      refine ⟨_, rfl, p3, _, 2, .int d2, rfl, rfl, SqL.of e5, at_map (i := 2) rfl g2, l5, _, _, _, rfl, rfl, SqL.of upd_same, hm, ?_⟩
      have s05 : Sm T H (upd (upd H3 l4 (.lst [V.int 9, V.int 3, V.int 5])) l5 (.lst [V.int (d0 + 1), V.int 1, V.int (1 + d0 % 3)])) := s03.trans ((same_upd nl4).trans (same_upd nl5))
      refine ⟨_, rfl, m, rfl, by omega, by omega, fun D2 hD2 => lc_range (lo := 0) (n := m) (Qd := _) (fun i H' => Sm T (upd (upd H3 l4 (.lst [V.int 9, V.int 3, V.int 5])) l5 (.lst [V.int (d0 + 1), V.int 1, V.int (1 + d0 % 3)])) H' ∧ ∃ us qs, H' D2 = some (.lst us) ∧ DpAll K H' us (qs.map amD) ∧ qs.length = i ∧ qs.all wOk = true) ⟨same_upd hD2, [], [], upd_same, .nil, rfl, rfl⟩ ?_ ?_⟩
      · rintro i H' hi ⟨sm, us, qs, eD2, hd2, hl, ha⟩
        have e6 : H' p3 = some (.lst (ds.map V.int)) := sm.k e5
        have hx : ∃ x, ds[3 + 2 * i]? = some x ∧ 0 ≤ x ∧ x < 9 := hd.get (q := 9) (by rcases (by omega : i = 0 ∨ i = 1 ∨ i = 2 ∨ i = 3 ∨ i = 4 ∨ i = 5) with rfl | rfl | rfl | rfl | rfl | rfl <;> rfl)
        have hy : ∃ x, ds[4 + 2 * i]? = some x ∧ 0 ≤ x ∧ x < 9 := hd.get (q := 9) (by rcases (by omega : i = 0 ∨ i = 1 ∨ i = 2 ∨ i = 3 ∨ i = 4 ∨ i = 5) with rfl | rfl | rfl | rfl | rfl | rfl <;> rfl)
        obtain ⟨x, gx, x0, x9⟩ := hx
        obtain ⟨y, gy, y0, y9⟩ := hy
        have hx0 := Int.emod_nonneg x (show cap ≠ 0 by omega)
        have hx1 := Int.emod_lt_of_pos x (show 0 < cap by omega)
        have hy0 := Int.emod_nonneg y (show cap ≠ 0 by omega)
        have hy1 := Int.emod_lt_of_pos y (show 0 < cap by omega)
        refine ⟨rfl, tyes_i ?_⟩
        refine ⟨_, rfl, _, rfl, _, _, rfl, rfl, .inl ⟨by decide, by decide⟩, _, _, rfl, rfl, p3, _, _, .int x, rfl, rfl, SqL.of e6, at_map (i := 3 + 2 * i) (by omega) gx, _, rfl, _, _, rfl, rfl, (by omega), _, _, rfl, rfl, ?_⟩
        refine ⟨_, rfl, _, rfl, _, _, rfl, rfl, .inl ⟨by decide, by decide⟩, _, _, rfl, rfl, p3, _, _, .int y, rfl, rfl, SqL.of e6, at_map (i := 4 + 2 * i) (by omega) gy, _, rfl, _, _, rfl, rfl, (by omega), _, _, rfl, rfl, ?_⟩
        refine ⟨by show 2 ≤ sizeLine; decide, fun t nt => ?_⟩
        have st := same_upd (T := T) (o := HO.tup (tv (1 + x % cap, 1 + y % cap))) nt
        have eD3 := st.k eD2
        have lu : us.length = i := by rw [dpa_len hd2, List.length_map, hl]
        refine ⟨us, eD3, szl (by omega), same_mut (sm.trans st) hD2 eD3, us ++ [.ref t], qs ++ [(1 + x % cap, 1 + y % cap)], upd_same, ?_, ?_, ?_⟩
        · refine pds_mut eD3 ?_
          rw [List.map_append]
          exact dpa_app (dpa_same st _ _ hd2) (.cons (tup_dp upd_same) .nil)
        · rw [List.length_append, hl]
          rfl
        · rw [List.all_append, ha, Bool.true_and, List.all_cons, List.all_nil, Bool.and_true]
          unfold wOk
          simp only [Bool.and_eq_true, decide_eq_true_eq]
          omega
      · rintro H6 ⟨s6, us, qs, eD2, hd2, hl, ha⟩
        have free : H D2 = none := s05.free _ hD2
        refine q D2 H6 us qs (s05.trans s6) free eD2 hd2 ?_
        unfold wayB
        rw [ha, hl, Bool.and_true, Bool.and_eq_true]
        exact ⟨decide_eq_true m1, decide_eq_true m6⟩

def sp_l_labour (K : PySem.W.Frag) (T : Tb) : Sp := fun vs H Q _ => ∃ a us qs, vs = [.ref a] ∧ SqL K H a us ∧ DpAll K H us (qs.map amD) ∧ (∀ q ∈ qs, wOk q = true) ∧ Q (.int (labourM qs)) H
theorem ok_l_labour {f : Addr} {fd : FuncData} (F : Fun K "_law_labour" "_law_labour" s_l_labour f fd) (B : Bn mg) : FnOk P w K mg base CX0 1 f fd ["_law_way_here"] (sp_l_labour K T) := by
  refine F.ok sc_l_labour (fun vs H Q E h => ?_) (fun cdv A outer s H vs Q E hr h => ?_)
  · obtain ⟨a, us, qs, rfl, _⟩ := h
    rfl
  · obtain ⟨a, us, qs, rfl, hS, hd, hw, q⟩ := h
    refine ⟨_, (pss_cons (ps_set (i := 1) sc_l_labour.nd rfl (.inl rfl) pe_int)
      (pss_cons (ps_for PassesOwn.never rfl (pi_list (pv 0)) (pg_tup rfl (pgs_cons (pg_name (i := 2) sc_l_labour.nd rfl (.inl rfl)) (pgs_cons (pg_name (i := 3) sc_l_labour.nd rfl (.inl rfl)) pgs_nil)))
      (pss_one (ps_for PassesOwn.never rfl (pi_range1 (by rfl) B.range_ (pa_cons (pv 2) pa_nil)) (pg_name (i := 4) sc_l_labour.nd rfl (.inl rfl))
      (pss_one (ps_set (i := 1) sc_l_labour.nd rfl (.inl rfl) (pe_op op_add (pv 1) (pv 3)))))))
      (pss_one (ps_ret (pv 1))))), ?_⟩
    have el : us.length = qs.length := by rw [dpa_len hd, List.length_map]
    refine ⟨_, rfl, a, rfl, ⟨_, hS⟩, for_list (K := K) (a := a) (xs := us) (fun i σ H3 => H3 = H ∧ ∃ x1 x2 x3, σ = [some (.ref a), some (.int (labourM (qs.take i))), x1, x2, x3]) ⟨rfl, _, _, _, rfl⟩ (fun i σ H3 _ ⟨e, _⟩ => by rw [e]; exact hS) ?_ ?_⟩
    · rintro i v σ H3 hi ⟨rfl, x1, x2, x3, rfl⟩
      have hil : i < qs.length := by rw [← el]; exact (List.getElem?_eq_some_iff.mp hi).1
      obtain ⟨v', e1, e2⟩ := dpa_get hd (i := i) (d := amD qs[i]) (by rw [List.getElem?_map, List.getElem?_eq_getElem hil]; rfl)
      rw [hi] at e1
      cases e1
      obtain ⟨b, rfl, hb⟩ := pd_at e2
      have c := wOk_b (hw qs[i] (List.getElem_mem hil))
      have et : labourM (qs.take (i + 1)) = labourM (qs.take i) + qs[i].1 * qs[i].2 := by
        unfold labourM
        rw [List.take_add_one, List.getElem?_eq_getElem hil, List.map_append, List.sum_append]
        simp
      refine ⟨b, _, rfl, hb, rfl, _, _, rfl, _, _, rfl, rfl, ?_⟩
      refine ⟨_, rfl, qs[i].1.toNat, by rw [Int.toNat_of_nonneg (by omega)], by omega, by omega, for_range (lo := 0) (n := qs[i].1.toNat) (fun j σ H4 => H4 = H3 ∧ ∃ x1, σ = [some (.ref a), some (.int (labourM (qs.take i) + (j : Int) * qs[i].2)), some (.int qs[i].1), some (.int qs[i].2), x1]) ⟨rfl, x3, by simp⟩ ?_ ?_⟩
      · rintro j σ H4 hj ⟨rfl, x1, rfl⟩
        refine ⟨_, rfl, _, rfl, _, _, rfl, rfl, rfl, some (.int (0 + (j : Int))), ?_⟩
        have : labourM (qs.take i) + (j : Int) * qs[i].2 + qs[i].2 = labourM (qs.take i) + ((j + 1 : Nat) : Int) * qs[i].2 := by
          rw [Int.natCast_add, Int.add_mul]
          simp [Int.add_assoc]
        rw [← this]
        rfl
      · rintro σ H4 ⟨rfl, x1, rfl⟩
        refine ⟨rfl, some (.int qs[i].1), some (.int qs[i].2), x1, ?_⟩
        rw [et, Int.toNat_of_nonneg (by omega)]
    · rintro σ H3 ⟨rfl, x1, x2, x3, rfl⟩
      refine ⟨_, rfl, ?_⟩
      rw [el, List.take_length]
      exact q

/-! ### the end of a law whose program raises, with tables of code objects -/
theorem walk_tabs {l : PySem.W.OpenLaw} {n k : Nat} {q : Program} {loose : List Str} {XP : (Str → Option Value) → Heap → Prop} {YP : World → Heap → Prop} {d : DefRec} {K : Params → PySem.W.Frag} {CX : World → CXT} {x : Str}
    (hn : l.most = some n) (hn2 : n ≤ sizeLine) (hdf : d.params.defaults = []) (hr : Room k callerA) (hY : ∀ (w : World) (h : Heap), YP w h → (K w.params).In h)
    (F : ∀ (w : World) (mg : Str → Option Value) (fa : Addr) (h : Heap), YP w h → (K w.params).In h → h.Ns mainGlobals mg → mg d.name = some (.ref fa) →
      (∀ (y : Str) (c P : Addr), ((recsOf q).any fun e => e.name == y) = true → PySem.W.tabIn (K w.params) y = some (c, P) → PySem.W.CodeHd h c P ∧ h.get? P = some { cls := .none, data := .fields #[] }) → LamX.LawAtS l w (K w.params) (CX w) k n x mg fa h)
    (hCX : ∀ (w : World) (H : Hp) (s : Shared) (e : Value) (s' : Shared), CX w [] H s (fun _ _ _ => False) e s' → False) :
    PySem.W.WalkO q loose XP YP l.row.toRowW d [] (fun f vs => PySem.call f vs) := by
  refine Att.attach_callB hn hdf fun w s₀ s₁ mg mb fa o pm cd doc a vs ns G Y ho hd hcd hmg hobj hints hlen hbits hg => ?_
  have KX := hY w _ Y
  have tabs : ∀ (y : Str) (c P : Addr), ((recsOf q).any fun e => e.name == y) = true → PySem.W.tabIn (K w.params) y = some (c, P) → PySem.W.CodeHd s₁.heap c P ∧ s₁.heap.get? P = some { cls := .none, data := .fields #[] } := fun y c P ha ht => by
    cases hf : (recsOf q).find? (fun e => e.name == y) with
    | none =>
      obtain ⟨e, he, hy⟩ := List.any_eq_true.mp ha
      exact absurd hy (List.find?_eq_none.mp hf e he)
    | some e => exact PySem.W.tab_of G.T KX hf ht
  obtain ⟨fd, cs, sp, hT, nT, C, hb, hsp, hF⟩ := F w mg fa _ Y KX G.T.g hmg tabs
  exact LamX.law_callTs KX G.T.g G.T.b G.T.builtins G.T.nolimit hg hT nT C G.T.bmain hobj hints (Nat.le_trans hlen hn2) hr hF hb (fun H hH hS => hsp H a ns hlen hbits hH hS) fun H e s' => hCX w H s₁ e s'
theorem tab_in {K : PySem.W.Frag} {y : Str} {f c P : Addr} {o : Obj} {fd : FuncData} {e : Value} {dd : Option Addr} {vs : Array Value} {sl : Array (Option Value)} (h1 : PySem.W.nsIn K mainGlobals y = some (some (.ref f))) (h2 : K.lookup f = some o) (h3 : o.data = .func fd) (h4 : fd.code = .ref c)
    (h5 : K.lookup c = some ⟨e, dd, .fields vs, sl⟩) (h6 : vs[11]? = some (.ref P)) : PySem.W.tabIn K y = some (c, P) := by
  obtain ⟨o1, o2, o3, o4⟩ := o
  obtain rfl : o3 = .func fd := h3
  unfold PySem.W.tabIn
  simp only [h1, h2, h4, h5, h6]
theorem okG0 {H : Hp} {P : Addr} (h : H P = some (.tbl #[])) : OkP H (P, none) := ⟨#[], h, by first | trivial | constructor⟩
theorem okS0 {H : Hp} {P : Addr} {q : Str} (h : H P = some (.tbl #[])) : OkP H (P, some q) := ⟨#[], h, by first | trivial | constructor, fun pos cv e => by cases e⟩
theorem tup_const {K : PySem.W.Frag} {a : Addr} {od : Option Addr} {xs : List V} {its : Array Value} {n : Nat} {sl : Array (Option Value)} (h : K.lookup a = some ⟨.type "tuple", od, .seq its n, sl⟩) (hs : its.size ≤ sizeLine) (hv : Vals xs its.toList) : ∀ H, SqT K H a xs := fun _ => .inr ⟨_, its, n, h, rfl, rfl, hs, hv⟩
theorem gx_lam {base : Heap} {mg : Str → Option Value} {c P : Addr} (h : LamX.TabB base mg c P) : GxR.TabB base mg c P := ⟨h.code, h.bm, h.gP⟩

theorem num_of {K : PySem.W.Frag} {f : Addr} {fd : FuncData} (F : Fun K "is_number" "is_number" s_p_is_number f fd) : NumAt K f := by
  obtain ⟨oc, od, kV, doc, pm, an, cdv, ct, osl, rfl, lk, hcg⟩ := F.ex
  exact ⟨oc, od, kV, doc, pm, an, cdv, ct, osl, _, _, _, _, _, _, _, _, _, _, _, _, lk, hcg⟩
theorem with_of {K : PySem.W.Frag} {f : Addr} {fd : FuncData} (F : Fun K "is_within" "is_within" s_p_is_within f fd) : WithAt K f := by
  obtain ⟨oc, od, kV, doc, pm, an, cdv, ct, osl, rfl, lk, hcg⟩ := F.ex
  exact ⟨oc, od, kV, doc, pm, an, cdv, ct, osl, _, _, _, _, _, _, _, _, _, _, _, _, lk, hcg⟩

/-! ### who is called away, paces, pails -/
def sp_p_Chain_called (K : PySem.W.Frag) (T : Tb) (CC : Addr) : Sp := fun vs H Q _ => ∃ (c : Addr) (A : Ad) (s : Ch), vs = [.ref c] ∧ ChAt K CC H c A s ∧ s.row.length ≤ 1000 ∧ ∀ p H', Sm T H H' → H p = none → H' p = some (.lst ((s.row.filter fun n => decide (n ∈ s.leaving)).map V.str)) → Q (.ref p) H'
theorem ok_p_Chain_called {f : Addr} {fd : FuncData} (F : Fun K "called" "Chain.called" s_p_Chain_called f fd) {CC : Addr} (TC : Kl K CC) : FnOk P w K mg base CX0 1 f fd ["self"] (sp_p_Chain_called K T CC) := by
  refine F.ok sc_p_Chain_called (fun vs H Q E h => ?_) (fun cdv A outer s H vs Q E hr h => ?_)
  · obtain ⟨c, A, s, rfl, _⟩ := h
    rfl
  · obtain ⟨c, A, s, rfl, h, hl, q⟩ := h
    refine ⟨_, (pss_one (ps_ret (pe_lc (own := [("name", 1)]) (g := (gName 1)) (by rfl) sc_p_Chain_called.nd (pi_list (pe_fc TC.cl (TC.no "row" (by decide +kernel)) (pv 0))) (blkOk_by (own := [("name", 1)]) (N := ["self", "name"]) (sc := (defScope s_p_Chain_called)) (by decide +kernel)) (fun _ _ _ _ _ => (pg_name (i := 1) sc_p_Chain_called.nd rfl (.inl rfl))) (fun _ _ _ _ _ => (pts_one (pt_cmpR (r := rIn K false) op_in_seq (pv 1) (pe_fc TC.cl (TC.no "leaving" (by decide +kernel)) (pv 0)) (by rfl)))) (fun _ _ _ _ _ => (pv 1))))), ?_⟩
    refine ⟨_, rfl, c, _, _, _, rfl, h.ins, fl_rw, A.rw, rfl, ⟨_, SqL.of h.rw⟩, fun D hD => lc_list (K := K) (a := A.rw) (xs := s.row.map V.str) (Qd := _) (fun i H' => Sm T H H' ∧ H' D = some (.lst (((s.row.take i).filter fun n => decide (n ∈ s.leaving)).map V.str))) ⟨same_upd hD, upd_same⟩ (fun i H' _ ⟨sm, _⟩ => SqL.of (sm.k h.rw)) ?_ ?_⟩
    · rintro i v H' hi ⟨sm, eD⟩
      rw [List.getElem?_map] at hi
      obtain ⟨n, hq, rfl⟩ : ∃ n, s.row[i]? = some n ∧ V.str n = v := Option.map_eq_some_iff.mp hi
      have hil := (List.getElem?_eq_some_iff.mp hq).1
      have h' := h.sm sm
      have lt : ((s.row.take i).filter fun n => decide (n ∈ s.leaving)).length ≤ 1000 := Nat.le_trans (List.length_filter_le _ _) (by rw [List.length_take]; omega)
      refine ⟨rfl, ?_⟩
      refine ⟨_, rfl, _, rfl, c, _, _, _, rfl, h'.ins, fl_lv, A.lv, _, rfl, .inl (SqL.of h'.lv), rfl, flat_strs _, _, rfl, ?_⟩
      show if inV (.str n) (s.leaving.map V.str) = true then _ else _
      rw [inV_strs, List.take_add_one, hq, List.filter_append, List.map_append]
      by_cases hm : n ∈ s.leaving
      · rw [decide_eq_true hm]
        refine iteT ⟨_, rfl, _, eD, by rw [List.length_map]; exact szl (by omega), same_mut sm hD eD, ?_⟩
        rw [upd_same]
        show _ = some (HO.lst (_ ++ List.map V.str (List.filter (fun n => decide (n ∈ s.leaving)) [n])))
        rw [List.filter_cons, if_pos (decide_eq_true hm)]
        rfl
      · rw [decide_eq_false hm]
        refine iteF ⟨sm, ?_⟩
        rw [eD]
        show _ = some (HO.lst (_ ++ List.map V.str (List.filter (fun n => decide (n ∈ s.leaving)) [n])))
        rw [List.filter_cons, if_neg (fun z => hm (of_decide_eq_true z))]
        simp
    · rintro H' ⟨sm, eD⟩
      rw [List.length_map, List.take_length] at eD
      exact q D H' sm hD eD
def sp_p_Chain_pace (K : PySem.W.Frag) (T : Tb) (CP CC : Addr) : Sp := fun vs H Q E => ∃ (c : Addr) (A : Ad) (s : Ch) (n : Str), vs = [.ref c, .str n] ∧ ChAt K CC H c A s ∧ (n ∈ s.row → ∃ p, getL s.tempos n = some p ∧ Q (.int p) H) ∧ (n ∉ s.row → ∀ cls d H', Sm T H H' → Rf K CP "no hand" cls d H' → E cls d H')
theorem ok_p_Chain_pace {f : Addr} {fd : FuncData} (F : Fun K "pace" "Chain.pace" s_p_Chain_pace f fd) {CP : Addr} {CC : Addr} (TC : Kl K CC) (M_number_of : Mx P w K mg base CC 4 "number_of" ["self", "name"] (sp_p_Chain_number_of K T CP CC)) : FnOk P w K mg base (L2.CX P w) 5 f fd ["self", "name"] (sp_p_Chain_pace K T CP CC) := by
  refine F.okX sc_p_Chain_pace (fun vs H Q E h => ?_) (fun cdv A outer s H vs Q E hr h => ?_)
  · obtain ⟨c, A, s, n, rfl, _⟩ := h
    rfl
  · obtain ⟨c, A, s, n, rfl, h, k1, k2⟩ := h
    refine ⟨_, (pss_cons (ps_expr (pe_mx M_number_of TC.cl (hr.mono (by decide)) (takes_of rfl rfl rfl rfl) (pv 0) (pa_cons (pv 1) pa_nil)))
      (pss_one (ps_ret (pe_dget (hu_of hr) (pe_fc TC.cl (TC.no "tempos" (by decide +kernel)) (pv 0)) (pv 1) (fun _ _ => rfl))))), ?_⟩
    refine ⟨_, rfl, c, _, _, rfl, h.ins, fl_no (by decide +kernel), _, rfl, c, A, s, n, rfl, h, fun hm => ?_, k2⟩
    obtain ⟨p, hp, q⟩ := k1 hm
    have ev : valV (tmV s.tempos) (Sum.inr n) = some (.int p) := by rw [val_tm, hp]; rfl
    exact ⟨_, rfl, c, _, _, _, rfl, h.ins, fl_tm, _, rfl, A.tm, .int p, rfl, by rw [← ev]; exact DGet.k (k := Sum.inr n) h.tm, q⟩
def sp_p_Chain_pail (K : PySem.W.Frag) (T : Tb) (CP CC : Addr) : Sp := fun vs H Q E => ∃ (c : Addr) (A : Ad) (s : Ch) (n : Str), vs = [.ref c, .str n] ∧ ChAt K CC H c A s ∧ s.loads.length = s.row.length ∧ (n ∈ s.row → Q (.int (s.loads.getD (s.row.idxOf n) 0)) H) ∧ (n ∉ s.row → ∀ cls d H', Sm T H H' → Rf K CP "no hand" cls d H' → E cls d H')
theorem ok_p_Chain_pail {f : Addr} {fd : FuncData} (F : Fun K "pail" "Chain.pail" s_p_Chain_pail f fd) {CP : Addr} {CC : Addr} (TC : Kl K CC) (M_number_of : Mx P w K mg base CC 4 "number_of" ["self", "name"] (sp_p_Chain_number_of K T CP CC)) : FnOk P w K mg base (L2.CX P w) 5 f fd ["self", "name"] (sp_p_Chain_pail K T CP CC) := by
  refine F.okX sc_p_Chain_pail (fun vs H Q E h => ?_) (fun cdv A outer s H vs Q E hr h => ?_)
  · obtain ⟨c, A, s, n, rfl, _⟩ := h
    rfl
  · obtain ⟨c, A, s, n, rfl, h, hl, k1, k2⟩ := h
    refine ⟨_, (pss_one (ps_ret (pe_ix ix_list (pe_fc TC.cl (TC.no "loads" (by decide +kernel)) (pv 0)) (pe_mx M_number_of TC.cl (hr.mono (by decide)) (takes_of rfl rfl rfl rfl) (pv 0) (pa_cons (pv 1) pa_nil)) (fun _ _ => rfl)))), ?_⟩
    refine ⟨_, rfl, c, _, _, _, rfl, h.ins, fl_ld, _, rfl, c, _, _, rfl, h.ins, fl_no (by decide +kernel), _, rfl, c, A, s, n, rfl, h, fun hm => ?_, k2⟩
    have hi : s.row.idxOf n < s.loads.length := by rw [hl]; exact List.idxOf_lt_length_of_mem hm
    exact ⟨A.ld, _, _, .int (s.loads.getD (s.row.idxOf n) 0), rfl, rfl, SqL.of h.ld, at_of (j := s.row.idxOf n) rfl (by rw [List.getElem?_map, List.getElem?_eq_getElem hi, getD_lt hi]; rfl), k1 hm⟩
/-! ### stories -/
abbrev Tl : Type := Str × Rat × Rat
def tlD (x : Tl) : PyData := .tuple [.str x.1, amD (am x.2.1), amD (am x.2.2)]
/-- one mark more -/
def stStep (r : List Tl × Rat) (x : Str × Rat) : List Tl × Rat := if x.2 = r.2 then r else (match r.1.getLast? with
  | some l => if l.1 = x.1 then r.1.dropLast ++ [(x.1, l.2.1, x.2)] else r.1 ++ [(x.1, r.2, x.2)]
  | none => r.1 ++ [(x.1, r.2, x.2)], x.2)
def stFold (l : List (Str × Rat)) : List Tl × Rat := l.foldl stStep ([], 0)
def stRows (l : List (Str × Rat)) : List Tl := (stFold l).1
theorem stFold_snoc (l : List (Str × Rat)) (x : Str × Rat) : stFold (l ++ [x]) = stStep (stFold l) x := by
  unfold stFold
  rw [List.foldl_append]
  rfl
theorem stStep_len (r : List Tl × Rat) (x : Str × Rat) : (stStep r x).1.length ≤ r.1.length + 1 := by
  unfold stStep
  split
  · omega
  · split
    · split
      · rw [List.length_append, List.length_dropLast]
        simp only [List.length_cons, List.length_nil]
        omega
      · rw [List.length_append]
        exact Nat.le_refl _
    · rw [List.length_append]
      exact Nat.le_refl _
theorem stFold_len (l : List (Str × Rat)) : (stFold l).1.length ≤ l.length := by
  have key : ∀ (l : List (Str × Rat)) (r : List Tl × Rat), (l.foldl stStep r).1.length ≤ r.1.length + l.length := fun l => by
    induction l with
    | nil => intro r; exact Nat.le_refl _
    | cons x l ih =>
      intro r
      have a := ih (stStep r x)
      have b := stStep_len r x
      rw [List.foldl_cons, List.length_cons]
      omega
  have := key l ([], 0)
  rw [show (([] : List Tl), (0 : Rat)).1.length = 0 from rfl, Nat.zero_add] at this
  exact this
theorem tl_at {K : PySem.W.Frag} {H : Hp} {v : V} {x : Tl} (h : Dp K H v (tlD x)) : ∃ b q1 q2, v = .ref b ∧ SqT K H b [.str x.1, .ref q1, .ref q2] ∧ SqT K H q1 (tv (am x.2.1)) ∧ SqT K H q2 (tv (am x.2.2)) := by
  cases h with
  | tup hs hall =>
    cases hall with
    | cons h1 h2 =>
      cases h1
      cases h2 with
      | cons h3 h4 =>
        obtain ⟨q1, rfl, e1⟩ := pd_at h3
        cases h4 with
        | cons h5 h6 =>
          obtain ⟨q2, rfl, e2⟩ := pd_at h5
          cases h6
          exact ⟨_, q1, q2, rfl, hs, e1, e2⟩
theorem mk_at {K : PySem.W.Frag} {H : Hp} {v : V} {n : Str} {r : Rat} (h : Dp K H v (.tuple [.str n, amD (am r)])) : ∃ b q, v = .ref b ∧ SqT K H b [.str n, .ref q] ∧ SqT K H q (tv (am r)) := by
  cases h with
  | tup hs hall =>
    cases hall with
    | cons h1 h2 =>
      cases h1
      cases h2 with
      | cons h3 h4 =>
        obtain ⟨q1, rfl, e1⟩ := pd_at h3
        cases h4
        exact ⟨_, q1, rfl, hs, e1⟩
theorem tl_dp {K : PySem.W.Frag} {H : Hp} {b q1 q2 : Addr} {n : Str} {x y : Rat} (h : SqT K H b [.str n, .ref q1, .ref q2]) (h1 : SqT K H q1 (tv (am x))) (h2 : SqT K H q2 (tv (am y))) : Dp K H (.ref b) (tlD (n, x, y)) := .tup h (.cons (.str _) (.cons (amD_dp h1) (.cons (amD_dp h2) .nil)))
theorem noL_tl (l : List Tl) : (l.map tlD).all (noL 4) = true := by
  rw [List.all_map]
  exact List.all_eq_true.mpr fun _ _ => rfl
theorem Sx.tls {T : Tb} {S : List Addr} {K : PySem.W.Frag} {H H' : Hp} {us : List V} {l : List Tl} (e : Sx T S H H') (h : DpAll K H us (l.map tlD)) : DpAll K H' us (l.map tlD) := e.dps 4 _ _ (noL_tl l) h
theorem set_last {α : Type} {l : List α} {v : α} (h : 0 < l.length) : l.set (l.length - 1) v = l.dropLast ++ [v] := by
  have hne : l ≠ [] := List.length_pos_iff.mp h
  obtain ⟨ys, z, rfl⟩ : ∃ ys z, l = ys ++ [z] := ⟨l.dropLast, l.getLast hne, (List.dropLast_concat_getLast hne).symm⟩
  rw [List.dropLast_concat, List.length_append, show ys.length + [z].length - 1 = ys.length by simp, List.set_append_right _ _ (Nat.le_refl _), Nat.sub_self]
  rfl
def sp_p_story_rows (K : PySem.W.Frag) (T : Tb) : Sp := fun vs H Q _ => ∃ (a : Addr) (us : List V) (l : List (Str × Rat)), vs = [.ref a] ∧ SqL K H a us ∧ DpAll K H us (l.map fun x => .tuple [.str x.1, amD (am x.2)]) ∧ l.length ≤ 5000 ∧ ∀ p H' ws, Sm T H H' → H p = none → H' p = some (.lst ws) → DpAll K H' ws ((stRows l).map tlD) → Q (.ref p) H'
theorem ok_p_story_rows {f : Addr} {fd : FuncData} {a_NOUGHT : Addr} (F : Fun K "story_rows" "story_rows" s_p_story_rows f fd) (g_NOUGHT : mg "NOUGHT" = some (.ref a_NOUGHT)) (s_NOUGHT : ∀ H, SqT K H a_NOUGHT [.int 0, .int 1]) : FnOk P w K mg base CX0 1 f fd ["marks"] (sp_p_story_rows K T) := by
  refine F.ok sc_p_story_rows (fun vs H Q E h => ?_) (fun cdv A outer s H vs Q E hr h => ?_)
  · obtain ⟨a, us, l, rfl, _⟩ := h
    rfl
  · obtain ⟨a, us, l, rfl, ha, hu, hl, q⟩ := h
    refine ⟨_, (pss_cons (ps_set (i := 1) sc_p_story_rows.nd rfl (.inl rfl) (pe_lst pa_nil))
      (pss_cons (ps_set (i := 2) sc_p_story_rows.nd rfl (.inl rfl) (pe_glob (v := .ref a_NOUGHT) (by rfl) g_NOUGHT rfl))
      (pss_cons (ps_for PassesOwn.never rfl (pi_list (pv 0)) (pg_tup rfl (pgs_cons (pg_name (i := 3) sc_p_story_rows.nd rfl (.inl rfl)) (pgs_cons (pg_name (i := 4) sc_p_story_rows.nd rfl (.inl rfl)) pgs_nil)))
      (pss_cons (ps_if (pt_cmpR (op_eqD hr.units) (pv 4) (pv 2) (nomark _)) (pss_one ps_continue) pss_nil)
      (pss_cons (ps_if (PW.pt (pw_and (pt_truth (pv 1) (by intro _; rfl)) (pw_and1 (pt_cmpR op_eq (pe_ix ix_tup (pe_ix ix_list (pv 1) (pe_un un_neg pe_int) (fun _ _ => rfl)) pe_int (fun _ _ => rfl)) (pv 3) (nomark _))))) (pss_one (ps_asg (pe_tup (pa_cons (pv 3) (pa_cons (pe_ix ix_tup (pe_ix ix_list (pv 1) (pe_un un_neg pe_int) (fun _ _ => rfl)) pe_int (fun _ _ => rfl)) (pa_cons (pv 4) pa_nil)))) (pg_sub (pv 1) (pe_un un_neg pe_int) set_list))) (pss_one (ps_expr (pe_bm PySem.F.plainAttrs_list PySem.F.slot_list_append PySem.F.type_list_append mt_append (pv 1) (pa_cons (pe_tup (pa_cons (pv 3) (pa_cons (pv 2) (pa_cons (pv 4) pa_nil)))) pa_nil)))))
      (pss_one (ps_set (i := 2) sc_p_story_rows.nd rfl (.inl rfl) (pv 4))))))
      (pss_one (ps_ret (pv 1)))))), ?_⟩
    have lu : us.length = l.length := by rw [dpa_len hu, List.length_map]
    refine ⟨Nat.zero_le _, fun o no => ?_⟩
    have u0 := same_upd (T := T) (o := HO.lst []) no
    have s0 := s_NOUGHT (upd H o (.lst []))
    refine ⟨_, rfl, a, rfl, ⟨_, u0.seq ha⟩, for_list (K := K) (a := a) (xs := us) (fun i σ H' => Sm T H H' ∧ ∃ ws sp x3 x4, σ = [some (.ref a), some (.ref o), some (.ref sp), x3, x4] ∧ H' o = some (.lst ws) ∧ DpAll K H' ws ((stFold (l.take i)).1.map tlD) ∧ SqT K H' sp (tv (am (stFold (l.take i)).2))) ⟨u0, [], a_NOUGHT, _, _, rfl, upd_same, .nil, by rw [show (stFold (l.take 0)).2 = 0 from rfl, am_zero]; exact s0⟩ (fun i σ H' _ ⟨sm, _⟩ => sm.seq ha) ?_ ?_⟩
    · rintro i v σ H1 hi ⟨s1, ws, sp, x3, x4, rfl, eo, hw, esp⟩
      have hil : i < l.length := by rw [← lu]; exact (List.getElem?_eq_some_iff.mp hi).1
      obtain ⟨v', e1, e2⟩ := dpa_get (dpa_same s1 _ _ hu) (i := i) (d := .tuple [.str l[i].1, amD (am l[i].2)]) (by rw [List.getElem?_map, List.getElem?_eq_getElem hil]; rfl)
      rw [hi] at e1
      cases e1
      obtain ⟨b, qe, rfl, hb, hq⟩ := mk_at e2
      have lw : ws.length = (stFold (l.take i)).1.length := by rw [dpa_len hw, List.length_map]
      have lf := stFold_len (l.take i)
      rw [List.length_take] at lf
      have sn : stFold (l.take (i + 1)) = stStep (stFold (l.take i)) l[i] := by rw [List.take_add_one, List.getElem?_eq_getElem hil]; exact stFold_snoc _ _
      rw [sn]
      generalize stFold (l.take i) = r at *
      refine ⟨b, _, rfl, hb, rfl, _, _, rfl, _, _, rfl, rfl, ?_⟩
      refine ⟨_, rfl, _, rfl, amD (am l[i].2), amD (am r.2), amD_dp hq, amD_dp esp, shaped_am _, shaped_am _, _, rfl, ?_⟩
      rw [eqv_am]
      by_cases he : l[i].2 = r.2
      · rw [decide_eq_true (by rw [he])]
        have e0 : stStep r l[i] = r := if_pos he
        rw [e0]
        exact iteT ⟨s1, ws, sp, _, _, rfl, eo, hw, esp⟩
      · rw [decide_eq_false (fun z => he (am_inj z))]
        have e2' : (stStep r l[i]).2 = l[i].2 := by unfold stStep; rw [if_neg he]
        refine iteF ?_
        dsimp only [tNext]
        refine seq_if (fun σ' H' => Sm T H H' ∧ ∃ ws' : List V, σ' = [some (.ref a), some (.ref o), some (.ref sp), some (.str l[i].1), some (.ref qe)] ∧ H' o = some (.lst ws') ∧ DpAll K H' ws' ((stStep r l[i]).1.map tlD) ∧ SqT K H' qe (tv (am l[i].2))) (fun σ' H' p => ?_) (fun k => ?_)
        · obtain ⟨s2, ws', rfl, eo2, hw2, hq2⟩ := p
          exact ⟨_, rfl, s2, ws', qe, _, _, rfl, eo2, hw2, by rw [e2']; exact hq2⟩
        · have put : ∀ (H2 : Hp) (p : Addr) (x : Tl), Sm T H1 H2 → Dp K H2 (.ref p) (tlD x) → H2 o = some (.lst ws) ∧ SqT K H2 qe (tv (am l[i].2)) ∧ DpAll K H2 ws (r.1.map tlD) := fun H2 p x s2 _ => ⟨s2.k eo, same_tup s2 hq, dpa_same s2 _ _ hw⟩
          refine ⟨_, rfl, _, .inl ⟨ws, SqL.of eo, rfl⟩, ?_⟩
          cases hws : ws with
          | nil =>
            subst hws
            have rn : r.1 = [] := List.length_eq_zero_iff.mp (by rw [← lw]; rfl)
            refine iteF (iteF ?_)
            refine ⟨_, rfl, .inl ⟨rfl, _, SqL.of eo⟩, _, rfl, _, rfl, _, rfl, by show 3 ≤ sizeLine; decide, fun p2 n2 => ?_⟩
            have u2 := same_upd (T := T) (o := HO.tup [V.str l[i].1, V.ref sp, V.ref qe]) n2
            have d2 : Dp K (upd H1 p2 (.tup [V.str l[i].1, V.ref sp, V.ref qe])) (.ref p2) (tlD (l[i].1, r.2, l[i].2)) := tl_dp (SqT.of upd_same) (same_tup u2 esp) (same_tup u2 hq)
            have eo2 := u2.k eo
            have hq2 := same_tup u2 hq
            generalize upd H1 p2 (.tup [V.str l[i].1, V.ref sp, V.ref qe]) = H2 at *
            have x3 : Sx T [o] H2 (upd H2 o (.lst ([] ++ [V.ref p2]))) := sx_upd eo2 rfl (by simp)
            refine ⟨o, [], _, rfl, rfl, eo2, by decide, k _ _ ⟨same_mut (s1.trans u2) no eo2, _, rfl, upd_same, ?_, x3.tup hq2⟩⟩
            have es : (stStep r l[i]).1 = [(l[i].1, r.2, l[i].2)] := by
              unfold stStep
              rw [if_neg he, rn]
              rfl
            rw [es]
            exact x3.tls (l := [(l[i].1, r.2, l[i].2)]) (.cons d2 .nil)
          | cons w0 ws0 =>
            rw [← hws]
            have hwp : 0 < ws.length := by rw [hws]; exact Nat.succ_pos _
            have hrl : r.1.length - 1 < r.1.length := by omega
            have hne : r.1 ≠ [] := List.length_pos_iff.mp (by omega)
            obtain ⟨vl, f1, f2⟩ := dpa_get hw (i := r.1.length - 1) (d := tlD (r.1[r.1.length - 1])) (by rw [List.getElem?_map, List.getElem?_eq_getElem hrl]; rfl)
            obtain ⟨bl, q1, q2, rfl, hbl, hq1, hq2'⟩ := tl_at f2
            have gl : r.1.getLast? = some r.1[r.1.length - 1] := by rw [List.getLast?_eq_getElem?, List.getElem?_eq_getElem hrl]
            have fl' : ws[ws.length - 1]? = some (.ref bl) := by rw [lw]; exact f1
            have tr : (!ws.isEmpty) = true := by rw [hws]; rfl
            rw [tr]
            refine iteT ?_
            refine ⟨_, rfl, 1, rfl, o, ws, _, .ref bl, rfl, rfl, SqL.of eo, at_neg1 hwp fl', bl, _, 0, .str (r.1[r.1.length - 1]).1, rfl, rfl, hbl, atI_nat (j := 0) rfl, _, rfl, rfl, _, rfl, ?_⟩
            by_cases hn : (r.1[r.1.length - 1]).1 = l[i].1
            · rw [decide_eq_true (by rw [hn])]
              refine iteT ?_
              refine ⟨_, rfl, _, rfl, 1, rfl, o, ws, _, .ref bl, rfl, rfl, SqL.of eo, at_neg1 hwp fl', bl, _, 1, .ref q1, rfl, rfl, hbl, atI_nat (j := 1) rfl, _, rfl, by show 3 ≤ sizeLine; decide, fun p2 n2 => ?_⟩
              have u2 := same_upd (T := T) (o := HO.tup [V.str l[i].1, V.ref q1, V.ref qe]) n2
              have d2 : Dp K (upd H1 p2 (.tup [V.str l[i].1, V.ref q1, V.ref qe])) (.ref p2) (tlD (l[i].1, (r.1[r.1.length - 1]).2.1, l[i].2)) := tl_dp (SqT.of upd_same) (same_tup u2 hq1) (same_tup u2 hq)
              have eo2 := u2.k eo
              have hq2 := same_tup u2 hq
              have hw2 := dpa_same u2 _ _ hw
              generalize upd H1 p2 (.tup [V.str l[i].1, V.ref q1, V.ref qe]) = H2 at *
              have ix : ixN ws.length (-1) = some (ws.length - 1) := by
                unfold ixN
                rw [if_neg (by decide), if_pos (by omega)]
                congr 1
                omega
              have x3 : Sx T [o] H2 (upd H2 o (.lst (ws.dropLast ++ [V.ref p2]))) := sx_upd eo2 rfl (by simp)
              refine ⟨_, rfl, 1, rfl, o, ws, _, _, rfl, rfl, eo2, ix, ?_⟩
              rw [set_last hwp]
              refine k _ _ ⟨same_mut (s1.trans u2) no eo2, _, rfl, upd_same, ?_, x3.tup hq2⟩
              have es : (stStep r l[i]).1 = r.1.dropLast ++ [(l[i].1, (r.1[r.1.length - 1]).2.1, l[i].2)] := by
                unfold stStep
                rw [if_neg he, gl]
                exact if_pos hn
              rw [es]
              refine x3.tls ?_
              rw [List.map_append]
              refine dpa_app ?_ (.cons d2 .nil)
              rw [List.map_dropLast]
              exact dpa_dropLast hw2
            · rw [decide_eq_false (fun z => hn (V.str.inj z))]
              refine iteF ?_
              refine ⟨_, rfl, .inl ⟨rfl, _, SqL.of eo⟩, _, rfl, _, rfl, _, rfl, by show 3 ≤ sizeLine; decide, fun p2 n2 => ?_⟩
              have u2 := same_upd (T := T) (o := HO.tup [V.str l[i].1, V.ref sp, V.ref qe]) n2
              have d2 : Dp K (upd H1 p2 (.tup [V.str l[i].1, V.ref sp, V.ref qe])) (.ref p2) (tlD (l[i].1, r.2, l[i].2)) := tl_dp (SqT.of upd_same) (same_tup u2 esp) (same_tup u2 hq)
              have eo2 := u2.k eo
              have hq2 := same_tup u2 hq
              have hw2 := dpa_same u2 _ _ hw
              generalize upd H1 p2 (.tup [V.str l[i].1, V.ref sp, V.ref qe]) = H2 at *
              have x3 : Sx T [o] H2 (upd H2 o (.lst (ws ++ [V.ref p2]))) := sx_upd eo2 rfl (by simp)
              refine ⟨o, ws, _, rfl, rfl, eo2, szl (by omega), k _ _ ⟨same_mut (s1.trans u2) no eo2, _, rfl, upd_same, ?_, x3.tup hq2⟩⟩
              have es : (stStep r l[i]).1 = r.1 ++ [(l[i].1, r.2, l[i].2)] := by
                unfold stStep
                rw [if_neg he, gl]
                exact if_neg hn
              rw [es]
              refine x3.tls ?_
              rw [List.map_append]
              exact dpa_app hw2 (.cons d2 .nil)
    · rintro σ H1 ⟨s1, ws, sp, x3, x4, rfl, eo, hw, esp⟩
      rw [lu, List.take_length] at hw
      exact ⟨_, rfl, q o H1 ws s1 no eo hw⟩
/-- who bore the pail from where to where -/
def bearer (s : Ch) (k : Int) : List (Str × Rat) := if k ∈ s.loads then [(s.row.getD (s.loads.idxOf k) "", s.spots.getD (s.loads.idxOf k) 0)] else []
def storyM (s : Ch) (k : Nat) : List Tl := stRows (s.marks.getD k [] ++ bearer s k)
theorem inV_ints (n : Int) (l : List Int) : inV (.int n) (l.map V.int) = decide (n ∈ l) := by
  unfold inV
  induction l with
  | nil => simp
  | cons x l ih =>
    rw [List.map_cons, List.any_cons, ih]
    show ((x == n) || _) = _
    by_cases h : x = n
    · subst h
      simp
    · have e : (x == n) = false := by simpa using h
      rw [e, Bool.false_or]
      refine decide_eq_decide.mpr ?_
      rw [List.mem_cons]
      exact ⟨.inr, fun z => z.resolve_left fun y => h y.symm⟩
theorem flat_intsV (l : List Int) : (l.map V.int).all flatV = true := by
  rw [List.all_map]
  exact List.all_eq_true.mpr fun _ _ => rfl
theorem ints_ix {l : List Int} {n : Int} (h : n ∈ l) : (l.map V.int)[l.idxOf n]? = some (.int n) ∧ ∀ (m : Nat) (z : V), m < l.idxOf n → (l.map V.int)[m]? = some z → eqV z (.int n) = false := by
  have hl := List.idxOf_lt_length_of_mem h
  refine ⟨?_, fun m z hm hz => ?_⟩
  · rw [List.getElem?_map, List.getElem?_eq_getElem hl, List.getElem_idxOf]
    rfl
  · rw [List.getElem?_map, List.getElem?_eq_getElem (by omega)] at hz
    cases hz
    have := List.not_of_lt_findIdx (p := (· == n)) (xs := l) (i := m) hm
    show (l[m] == n) = false
    simpa using this
def sp_p_Chain_story (K : PySem.W.Frag) (T : Tb) (CP CC : Addr) : Sp := fun vs H Q E => ∃ (c : Addr) (A : Ad) (s : Ch) (k : Int), vs = [.ref c, .int k] ∧ ChAt K CC H c A s ∧ s.loads.length = s.row.length ∧ s.spots.length = s.row.length ∧ s.row.length ≤ 1000 ∧ (∀ m ∈ s.marks, m.length ≤ 4000) ∧
  (∀ j : Nat, k = (j : Int) → j < s.marks.length → ∀ p H' ws, Sm T H H' → H p = none → H' p = some (.lst ws) → DpAll K H' ws ((storyM s j).map tlD) → Q (.ref p) H') ∧ (¬ (0 ≤ k ∧ k < s.marks.length) → ∀ cls d H', Sm T H H' → Rf K CP "no pail" cls d H' → E cls d H')
theorem ok_p_Chain_story {f : Addr} {fd : FuncData} (F : Fun K "story" "Chain.story" s_p_Chain_story f fd) (B : Bn mg) {CP : Addr} (R_NoPail : Err P w K mg base CP "NoPail" "no pail") {CC : Addr} (TC : Kl K CC) (F_p_is_within : Fn P w K mg base 2 "is_within" ["thing", "least", "most"] (sp_p_is_within K T)) (F_p_story_rows : Fn P w K mg base 1 "story_rows" ["marks"] (sp_p_story_rows K T)) : FnOk P w K mg base (L2.CX P w) 4 f fd ["self", "pail"] (sp_p_Chain_story K T CP CC) := by
  refine F.okX sc_p_Chain_story (fun vs H Q E h => ?_) (fun cdv A outer s H vs Q E hr h => ?_)
  · obtain ⟨c, A, s, k, rfl, _⟩ := h
    rfl
  · obtain ⟨c, A, s, k, rfl, h, hll, hls, hr8, hmm, k1, k2⟩ := h
    refine ⟨_, (pss_cons (ps_if (pt_not (pt_val (pe_fn F_p_is_within (hr.mono (by decide)) (pa_cons (pv 1) (pa_cons pe_int (pa_cons (pe_op op_sub (pe_callB call_len_seq (by rfl) B.len_ (by decide +kernel) (pa_cons (pe_fc TC.cl (TC.no "marks" (by decide +kernel)) (pv 0)) pa_nil)) pe_int) pa_nil)))))) (pss_one (ps_raise rfl (takes_of rfl rfl rfl rfl) (pmk_err R_NoPail (hr.mono (by decide)) (by rfl)))) pss_nil)
      (pss_cons (ps_set (i := 2) sc_p_Chain_story.nd rfl (.inl rfl) (pe_callTy call_list_of (by rfl) B.list_ (by decide +kernel) (pa_cons (pe_ix ix_list (pe_fc TC.cl (TC.no "marks" (by decide +kernel)) (pv 0)) (pv 1) (fun _ _ => rfl)) pa_nil)))
      (pss_cons (ps_if (pt_cmpR op_in_seq (pv 1) (pe_fc TC.cl (TC.no "loads" (by decide +kernel)) (pv 0)) (by rfl)) (pss_cons (ps_set (i := 3) sc_p_Chain_story.nd rfl (.inl rfl) (pe_bm PySem.F.plainAttrs_list PySem.F.slot_list_index PySem.F.type_list_index mt_index (pe_fc TC.cl (TC.no "loads" (by decide +kernel)) (pv 0)) (pa_cons (pv 1) pa_nil)))
      (pss_one (ps_expr (pe_bm PySem.F.plainAttrs_list PySem.F.slot_list_append PySem.F.type_list_append mt_append (pv 2) (pa_cons (pe_tup (pa_cons (pe_ix ix_list (pe_fc TC.cl (TC.no "row" (by decide +kernel)) (pv 0)) (pv 3) (fun _ _ => rfl)) (pa_cons (pe_ix ix_list (pe_fc TC.cl (TC.no "spots" (by decide +kernel)) (pv 0)) (pv 3) (fun _ _ => rfl)) pa_nil))) pa_nil))))) pss_nil)
      (pss_one (ps_ret (pe_fn F_p_story_rows (hr.mono (by decide)) (pa_cons (pv 2) pa_nil))))))), ?_⟩
    obtain ⟨ms, m1, m2⟩ := h.mr
    have lm : ms.length = s.marks.length := by rw [dpa_len m2, List.length_map]
    refine ⟨_, rfl, _, rfl, c, _, _, _, rfl, h.ins, fl_mk, A.mr, ms, rfl, .inl (SqL.of m1), _, _, rfl, rfl, k, 0, _, rfl, _, rfl, ?_⟩
    rw [lm]
    by_cases hk : 0 ≤ k ∧ k < (s.marks.length : Int)
    · rw [decide_eq_true hk.1, decide_eq_true (show k ≤ (s.marks.length : Int) - 1 by omega)]
      refine iteF ?_
      obtain ⟨j, hj⟩ : ∃ j : Nat, k = (j : Int) := ⟨k.toNat, by omega⟩
      subst hj
      have hjl : j < s.marks.length := by omega
      obtain ⟨v, e1, e2⟩ := dpa_get m2 (i := j) (d := mkD s.marks[j]) (by rw [List.getElem?_map, List.getElem?_eq_getElem hjl]; rfl)
      obtain ⟨b, us, rfl, hb, hu⟩ : ∃ b us, v = .ref b ∧ SqT K H b us ∧ DpAll K H us (s.marks[j].map fun x => .tuple [.str x.1, amD (am x.2)]) := by
        cases e2 with
        | tup hs hall => exact ⟨_, _, rfl, hs, hall⟩
      have hml := hmm _ (List.getElem_mem hjl)
      have lu : us.length = s.marks[j].length := by rw [dpa_len hu, List.length_map]
      refine ⟨_, rfl, c, _, _, _, rfl, h.ins, fl_mk, _, rfl, A.mr, ms, _, .ref b, rfl, rfl, SqL.of m1, at_of (j := j) rfl e1, b, us, rfl, .inr hb, fun o no => ?_⟩
      have u1 := same_upd (T := T) (o := HO.lst us) no
      have eo : upd H o (.lst us) o = some (.lst us) := upd_same
      have h1 := h.sm u1
      have hu1 := dpa_same u1 _ _ hu
      generalize upd H o (.lst us) = H1 at *
      dsimp only [gName]
      refine seq_if (fun σ' H' => Sm T H H' ∧ ∃ us' x3, σ' = [some (.ref c), some (.int j), some (.ref o), x3] ∧ H' o = some (.lst us') ∧ DpAll K H' us' ((s.marks.getD j [] ++ bearer s j).map fun x => .tuple [.str x.1, amD (am x.2)])) (fun σ' H' p => ?_) (fun kk => ?_)
      · obtain ⟨s2, us', x3, rfl, eo2, hu2⟩ := p
        refine ⟨_, rfl, o, us', _, rfl, SqL.of eo2, hu2, ?_, fun p H3 ws s3 n3 e3 hw => k1 j rfl hjl p H3 ws (s2.trans s3) (s2.free _ n3) e3 hw⟩
        rw [getD_lt hjl, List.length_append]
        unfold bearer
        split <;> simp only [List.length_cons, List.length_nil] <;> omega
      · refine ⟨_, rfl, _, rfl, c, _, _, _, rfl, h1.ins, fl_ld, A.ld, _, rfl, .inl (SqL.of h1.ld), rfl, flat_intsV _, _, rfl, ?_⟩
        show if inV (.int j) (s.loads.map V.int) = true then _ else _
        rw [inV_ints]
        by_cases hm : (j : Int) ∈ s.loads
        · rw [decide_eq_true hm]
          have e := ints_ix hm
          have hi := List.idxOf_lt_length_of_mem hm
          obtain ⟨ps, p1, p2⟩ := h1.sp
          obtain ⟨bq, gq, hq⟩ := p2.at (i := s.loads.idxOf (j : Int)) (by omega)
          refine iteT ⟨_, rfl, c, _, _, _, rfl, h1.ins, fl_ld, .inl ⟨rfl, _, SqL.of h1.ld⟩, _, rfl, A.ld, _, _, s.loads.idxOf (j : Int), .int j, rfl, rfl, SqL.of h1.ld, rfl, flat_intsV _, e.1, ?_, e.2, ?_⟩
          · show ((j : Int) == (j : Int)) = true
            simp
          · dsimp only [gName]
            have gn : (s.row.map V.str)[s.loads.idxOf (j : Int)]? = some (.str (s.row.getD (s.loads.idxOf (j : Int)) "")) := by
              rw [List.getElem?_map, List.getElem?_eq_getElem (by omega), getD_lt (by omega)]
              rfl
            refine ⟨_, rfl, .inl ⟨rfl, _, SqL.of eo⟩, _, rfl, c, _, _, _, rfl, h1.ins, fl_rw, _, rfl, A.rw, _, _, _, rfl, rfl, SqL.of h1.rw, at_of (j := s.loads.idxOf (j : Int)) rfl gn, _, rfl, c, _, _, _, rfl, h1.ins, fl_sp, _, rfl, A.sp, ps, _, .ref bq, rfl, rfl, SqL.of p1, at_of (j := s.loads.idxOf (j : Int)) rfl gq, by show 2 ≤ sizeLine; decide, fun p2' n2 => ?_⟩
            have u2 := same_upd (T := T) (o := HO.tup [V.str (s.row.getD (s.loads.idxOf (j : Int)) ""), V.ref bq]) n2
            have d2 : Dp K (upd H1 p2' (.tup [V.str (s.row.getD (s.loads.idxOf (j : Int)) ""), V.ref bq])) (.ref p2') (.tuple [.str (s.row.getD (s.loads.idxOf (j : Int)) ""), amD (am (s.spots.getD (s.loads.idxOf (j : Int)) 0))]) := .tup (SqT.of upd_same) (.cons (.str _) (.cons (amD_dp (same_tup u2 hq)) .nil))
            have eo2 := u2.k eo
            have hu2 := dpa_same u2 _ _ hu1
            have s12 := u1.trans u2
            generalize upd H1 p2' (.tup [V.str (s.row.getD (s.loads.idxOf (j : Int)) ""), V.ref bq]) = H2 at *
            have x3 : Sx T [o] H2 (upd H2 o (.lst (us ++ [V.ref p2']))) := sx_upd eo2 rfl (by simp)
            refine ⟨o, us, _, rfl, rfl, eo2, szl (by omega), kk _ _ ⟨same_mut s12 no eo2, _, _, rfl, upd_same, ?_⟩⟩
            unfold bearer
            rw [if_pos hm, List.map_append, getD_lt hjl]
            refine dpa_app (x3.dps 4 _ _ ?_ hu2) (.cons (x3.dp 4 _ _ rfl d2) .nil)
            rw [List.all_map]
            exact List.all_eq_true.mpr fun _ _ => rfl
        · rw [decide_eq_false hm]
          refine iteF (kk _ _ ⟨u1, us, _, rfl, eo, ?_⟩)
          unfold bearer
          rw [if_neg hm, List.append_nil, getD_lt hjl]
          exact hu1
    · have hf : (decide (0 ≤ k) && decide (k ≤ (s.marks.length : Int) - 1)) = false := by
        by_cases h0 : 0 ≤ k
        · rw [decide_eq_false (show ¬ k ≤ (s.marks.length : Int) - 1 by omega), Bool.and_false]
        · rw [decide_eq_false h0, Bool.false_and]
      rw [hf]
      exact iteT fun cls dd hn rf => k2 hk cls (some dd) _ (same_upd hn) rf

/-! ### the law's own chain: a dict of lists and dicts -/
structure Bd9 where
  (clk row ld gn tl pc aw led : Addr)
def mV (L : Int) (B : Bd9) : List (L2.Key × V) := [(Sum.inr "len", .int L), (Sum.inr "clock", .ref B.clk), (Sum.inr "row", .ref B.row), (Sum.inr "loads", .ref B.ld), (Sum.inr "gone", .ref B.gn), (Sum.inr "tales", .ref B.tl), (Sum.inr "pace", .ref B.pc), (Sum.inr "away", .ref B.aw), (Sum.inr "led", .ref B.led)]
def awV (l : List (Str × Bool)) : List (L2.Key × V) := l.map fun x => (Sum.inr x.1, V.bl x.2)
def loD (x : Int × Rat) : PyData := .tuple [.int x.1, amD (am x.2)]
/-- lists of rows at these addresses -/
def TaL (K : PySem.W.Frag) (H : Hp) : List Addr → List (List Tl) → Prop
  | [], [] => True
  | b :: bs, t :: ts => (∃ us, H b = some (.lst us) ∧ DpAll K H us (t.map tlD)) ∧ TaL K H bs ts
  | _, _ => False
def ownM (m : Addr) (B : Bd9) (bs : List Addr) : List Addr := [m, B.row, B.ld, B.gn, B.tl, B.pc, B.aw, B.led] ++ bs
/-- the law's chain at m stands as s: lp its paces, la who is away, bs the stories' addresses -/
structure MAt (K : PySem.W.Frag) (H : Hp) (m : Addr) (B : Bd9) (bs : List Addr) (lp : List (Str × Int)) (la : List (Str × Bool)) (s : Ch) (ts : List (List Tl)) : Prop where
  d : H m = some (.dK (mV s.fire B))
  clk : SqT K H B.clk (tv (am s.now))
  row : H B.row = some (.lst (s.row.map V.str))
  ld : ∃ us, H B.ld = some (.lst us) ∧ DpAll K H us ((s.loads.zip s.spots).map loD)
  gn : H B.gn = some (.lst (s.poured.map V.int))
  tl : H B.tl = some (.lst (bs.map V.ref))
  ta : TaL K H bs ts
  pc : H B.pc = some (.dK (tmV lp))
  aw : H B.aw = some (.dK (awV la))
  led : ∃ kvs, H B.led = some (.dK kvs) ∧ LedL K H kvs s.ledgers
  nd : (ownM m B bs).Nodup
/-- the law's paces and who is away, as the chain has them -/
structure MOk (lp : List (Str × Int)) (la : List (Str × Bool)) (s : Ch) : Prop where
  lp_ : ∀ n ∈ s.row, getL lp n = getL s.tempos n
  la_ : ∀ n ∈ s.row, getL la n = some (decide (n ∈ s.leaving))
theorem TaL.len {K : PySem.W.Frag} {H : Hp} : ∀ {bs : List Addr} {ts : List (List Tl)}, TaL K H bs ts → bs.length = ts.length
  | [], [], _ => rfl
  | _ :: _, _ :: _, h => congrArg (· + 1) (TaL.len h.2)
  | [], _ :: _, h => h.elim
  | _ :: _, [], h => h.elim
theorem TaL.at {K : PySem.W.Frag} {H : Hp} : ∀ {bs : List Addr} {ts : List (List Tl)}, TaL K H bs ts → ∀ {i : Nat} {t : List Tl}, ts[i]? = some t → ∃ b us, bs[i]? = some b ∧ H b = some (.lst us) ∧ DpAll K H us (t.map tlD)
  | [], [], _, i, t, e => by simp at e
  | b :: bs, u :: ts, h, 0, t, e => by
    cases e
    obtain ⟨us, h1, h2⟩ := h.1
    exact ⟨b, us, rfl, h1, h2⟩
  | b :: bs, u :: ts, h, i + 1, t, e => h.2.at (i := i) e
  | [], _ :: _, h, _, _, _ => h.elim
  | _ :: _, [], h, _, _, _ => h.elim
theorem TaL.sx {T : Tb} {S : List Addr} {K : PySem.W.Frag} {H H' : Hp} (e : Sx T S H H') : ∀ {bs : List Addr} {ts : List (List Tl)}, TaL K H bs ts → (∀ b ∈ bs, b ∉ S) → TaL K H' bs ts
  | [], [], _, _ => trivial
  | b :: bs, t :: ts, h, hS => by
    obtain ⟨us, h1, h2⟩ := h.1
    exact ⟨⟨us, e.lst h1 (hS b List.mem_cons_self), e.tls h2⟩, TaL.sx e h.2 fun b hb => hS b (List.mem_cons_of_mem _ hb)⟩
  | [], _ :: _, h, _ => h.elim
  | _ :: _, [], h, _ => h.elim
theorem TaL.app {K : PySem.W.Frag} {H : Hp} : ∀ {bs : List Addr} {ts : List (List Tl)}, TaL K H bs ts → ∀ {cs : List Addr} {us : List (List Tl)}, TaL K H cs us → TaL K H (bs ++ cs) (ts ++ us)
  | [], [], _, _, _, g => g
  | _ :: _, _ :: _, h, _, _, g => ⟨h.1, h.2.app g⟩
  | [], _ :: _, h, _, _, _ => h.elim
  | _ :: _, [], h, _, _, _ => h.elim
theorem noL_lo (l : List (Int × Rat)) : (l.map loD).all (noL 4) = true := by
  rw [List.all_map]
  exact List.all_eq_true.mpr fun _ _ => rfl
theorem val_aw (l : List (Str × Bool)) (n : Str) : valV (awV l) (Sum.inr n) = (getL l n).map V.bl := by
  unfold valV getL awV
  induction l with
  | nil => rfl
  | cons x l ih =>
    rw [List.map_cons, List.find?_cons, List.find?_cons]
    by_cases h : x.1 = n
    · rw [decide_eq_true h, decide_eq_true (inr_eq.mpr h)]
      rfl
    · rw [decide_eq_false h, decide_eq_false (fun z => h (inr_eq.mp z))]
      exact ih
theorem put_aw (l : List (Str × Bool)) (n : Str) (p : Bool) : putK (awV l) (Sum.inr n) (V.bl p) = awV (putL l n p) := by
  have any : ((awV l).any fun kv => decide (kv.1 = Sum.inr n)) = l.any fun x => decide (x.1 = n) := by
    unfold awV
    rw [List.any_map]
    congr 1
    funext x
    show decide ((Sum.inr x.1 : L2.Key) = Sum.inr n) = decide (x.1 = n)
    exact decide_eq_decide.mpr inr_eq
  unfold putK putL
  rw [any]
  split
  · unfold awV
    rw [List.map_map, List.map_map]
    refine List.map_congr_left fun x _ => ?_
    show (if (Sum.inr x.1 : L2.Key) = Sum.inr n then _ else _) = _
    by_cases h : x.1 = n
    · rw [if_pos (inr_eq.mpr h)]
      simp only [Function.comp, if_pos h]
    · rw [if_neg (fun z => h (inr_eq.mp z))]
      simp only [Function.comp, if_neg h]
  · unfold awV
    rw [List.map_append]
    rfl
section
variable {T : Tb} {S : List Addr} {K : PySem.W.Frag} {H H' : Hp} {m : Addr} {B : Bd9} {bs : List Addr} {lp : List (Str × Int)} {la : List (Str × Bool)} {s : Ch} {ts : List (List Tl)}
theorem MAt.sx (c : MAt K H m B bs lp la s ts) (e : Sx T S H H') (hd : ∀ x ∈ ownM m B bs, x ∉ S) : MAt K H' m B bs lp la s ts := by
  have k : ∀ x, x ∈ ownM m B bs → ∀ o, H x = some o → nTbl o → H' x = some o := fun x hx o ho n => e.keep x o ho n (.inr (hd x hx))
  obtain ⟨us, l1, l2⟩ := c.ld
  obtain ⟨kv, k1, k2⟩ := c.led
  exact ⟨k _ (by simp [ownM]) _ c.d trivial, e.tup c.clk, k _ (by simp [ownM]) _ c.row trivial, ⟨us, k _ (by simp [ownM]) _ l1 trivial, e.dps 4 _ _ (noL_lo _) l2⟩, k _ (by simp [ownM]) _ c.gn trivial, k _ (by simp [ownM]) _ c.tl trivial, TaL.sx e c.ta fun b hb => hd b (by simp [ownM, hb]),
    k _ (by simp [ownM]) _ c.pc trivial, k _ (by simp [ownM]) _ c.aw trivial, ⟨kv, k _ (by simp [ownM]) _ k1 trivial, e.led k2⟩, c.nd⟩
theorem MAt.sm (c : MAt K H m B bs lp la s ts) (e : Sm T H H') : MAt K H' m B bs lp la s ts := c.sx (S := []) e.sx fun _ _ => by simp
theorem MAt.gl (c : MAt K H m B bs lp la s ts) : DGet H m (.str "len") (some (.int s.fire)) := DGet.k (k := Sum.inr "len") c.d
theorem MAt.gc (c : MAt K H m B bs lp la s ts) : DGet H m (.str "clock") (some (.ref B.clk)) := DGet.k (k := Sum.inr "clock") c.d
theorem MAt.gr (c : MAt K H m B bs lp la s ts) : DGet H m (.str "row") (some (.ref B.row)) := DGet.k (k := Sum.inr "row") c.d
theorem MAt.gd (c : MAt K H m B bs lp la s ts) : DGet H m (.str "loads") (some (.ref B.ld)) := DGet.k (k := Sum.inr "loads") c.d
theorem MAt.gg (c : MAt K H m B bs lp la s ts) : DGet H m (.str "gone") (some (.ref B.gn)) := DGet.k (k := Sum.inr "gone") c.d
theorem MAt.gt (c : MAt K H m B bs lp la s ts) : DGet H m (.str "tales") (some (.ref B.tl)) := DGet.k (k := Sum.inr "tales") c.d
theorem MAt.gp (c : MAt K H m B bs lp la s ts) : DGet H m (.str "pace") (some (.ref B.pc)) := DGet.k (k := Sum.inr "pace") c.d
theorem MAt.ga (c : MAt K H m B bs lp la s ts) : DGet H m (.str "away") (some (.ref B.aw)) := DGet.k (k := Sum.inr "away") c.d
theorem MAt.ge (c : MAt K H m B bs lp la s ts) : DGet H m (.str "led") (some (.ref B.led)) := DGet.k (k := Sum.inr "led") c.d
end
section
variable {T : Tb} {S : List Addr} {K : PySem.W.Frag} {H H' : Hp} {m : Addr} {Y : Bd9} {bs : List Addr} {lp : List (Str × Int)} {la : List (Str × Bool)} {s : Ch} {ts : List (List Tl)}
theorem MAt.ne (c : MAt K H m Y bs lp la s ts) {i j : Nat} {x y : Addr} (hi : (ownM m Y bs)[i]? = some x) (hj : (ownM m Y bs)[j]? = some y) (hij : i ≠ j) : x ∉ [y] := fun z => by
  rw [List.mem_singleton.mp z] at hi
  exact hij (nd_ix c.nd hi hj)
theorem MAt.nb (c : MAt K H m Y bs lp la s ts) {j : Nat} {y : Addr} (hj : (ownM m Y bs)[j]? = some y) (h8 : j < 8) : ∀ b ∈ bs, b ∉ [y] := fun b hb => by
  obtain ⟨k, hk, e⟩ := List.getElem_of_mem hb
  refine c.ne (i := 8 + k) (j := j) ?_ hj (by omega)
  unfold ownM
  rw [List.getElem?_append_right (by show 8 ≤ 8 + k; omega), show 8 + k - ([m, Y.row, Y.ld, Y.gn, Y.tl, Y.pc, Y.aw, Y.led] : List Addr).length = k by show 8 + k - 8 = k; omega, List.getElem?_eq_getElem hk, e]

theorem MAt.set_row (c : MAt K H m Y bs lp la s ts) (r : List Str) : MAt K (upd H Y.row (.lst (r.map V.str))) m Y bs lp la { s with row := r } ts := by
  obtain ⟨us0, l1, l2⟩ := c.ld
  obtain ⟨kv0, k1, k2⟩ := c.led
  have e : Sx [] [Y.row] H (upd H Y.row (.lst (r.map V.str))) := sx_upd c.row rfl List.mem_cons_self
  exact ⟨e.keep _ _ c.d trivial (.inr (c.ne (i := 0) (j := 1) rfl rfl (by decide))), e.tup c.clk, upd_same, ⟨us0, e.keep _ _ l1 trivial (.inr (c.ne (i := 2) (j := 1) rfl rfl (by decide))), e.dps 4 _ _ (noL_lo _) l2⟩, e.keep _ _ c.gn trivial (.inr (c.ne (i := 3) (j := 1) rfl rfl (by decide))), e.keep _ _ c.tl trivial (.inr (c.ne (i := 4) (j := 1) rfl rfl (by decide))), TaL.sx e c.ta (c.nb (j := 1) rfl (by decide)), e.keep _ _ c.pc trivial (.inr (c.ne (i := 5) (j := 1) rfl rfl (by decide))), e.keep _ _ c.aw trivial (.inr (c.ne (i := 6) (j := 1) rfl rfl (by decide))), ⟨kv0, e.keep _ _ k1 trivial (.inr (c.ne (i := 7) (j := 1) rfl rfl (by decide))), e.led k2⟩, c.nd⟩
theorem MAt.set_ld (c : MAt K H m Y bs lp la s ts) {us : List V} {ls : List Int} {xs : List Rat} (hu : DpAll K H us ((ls.zip xs).map loD)) : MAt K (upd H Y.ld (.lst us)) m Y bs lp la { s with loads := ls, spots := xs } ts := by
  obtain ⟨us0, l1, l2⟩ := c.ld
  obtain ⟨kv0, k1, k2⟩ := c.led
  have e : Sx [] [Y.ld] H (upd H Y.ld (.lst us)) := sx_upd l1 rfl List.mem_cons_self
  exact ⟨e.keep _ _ c.d trivial (.inr (c.ne (i := 0) (j := 2) rfl rfl (by decide))), e.tup c.clk, e.keep _ _ c.row trivial (.inr (c.ne (i := 1) (j := 2) rfl rfl (by decide))), ⟨us, upd_same, e.dps 4 _ _ (noL_lo _) hu⟩, e.keep _ _ c.gn trivial (.inr (c.ne (i := 3) (j := 2) rfl rfl (by decide))), e.keep _ _ c.tl trivial (.inr (c.ne (i := 4) (j := 2) rfl rfl (by decide))), TaL.sx e c.ta (c.nb (j := 2) rfl (by decide)), e.keep _ _ c.pc trivial (.inr (c.ne (i := 5) (j := 2) rfl rfl (by decide))), e.keep _ _ c.aw trivial (.inr (c.ne (i := 6) (j := 2) rfl rfl (by decide))), ⟨kv0, e.keep _ _ k1 trivial (.inr (c.ne (i := 7) (j := 2) rfl rfl (by decide))), e.led k2⟩, c.nd⟩
theorem MAt.set_gn (c : MAt K H m Y bs lp la s ts) (r : List Int) : MAt K (upd H Y.gn (.lst (r.map V.int))) m Y bs lp la { s with poured := r } ts := by
  obtain ⟨us0, l1, l2⟩ := c.ld
  obtain ⟨kv0, k1, k2⟩ := c.led
  have e : Sx [] [Y.gn] H (upd H Y.gn (.lst (r.map V.int))) := sx_upd c.gn rfl List.mem_cons_self
  exact ⟨e.keep _ _ c.d trivial (.inr (c.ne (i := 0) (j := 3) rfl rfl (by decide))), e.tup c.clk, e.keep _ _ c.row trivial (.inr (c.ne (i := 1) (j := 3) rfl rfl (by decide))), ⟨us0, e.keep _ _ l1 trivial (.inr (c.ne (i := 2) (j := 3) rfl rfl (by decide))), e.dps 4 _ _ (noL_lo _) l2⟩, upd_same, e.keep _ _ c.tl trivial (.inr (c.ne (i := 4) (j := 3) rfl rfl (by decide))), TaL.sx e c.ta (c.nb (j := 3) rfl (by decide)), e.keep _ _ c.pc trivial (.inr (c.ne (i := 5) (j := 3) rfl rfl (by decide))), e.keep _ _ c.aw trivial (.inr (c.ne (i := 6) (j := 3) rfl rfl (by decide))), ⟨kv0, e.keep _ _ k1 trivial (.inr (c.ne (i := 7) (j := 3) rfl rfl (by decide))), e.led k2⟩, c.nd⟩
theorem MAt.set_pc (c : MAt K H m Y bs lp la s ts) (lp' : List (Str × Int)) (tm : List (Str × Int)) : MAt K (upd H Y.pc (.dK (tmV lp'))) m Y bs lp' la { s with tempos := tm } ts := by
  obtain ⟨us0, l1, l2⟩ := c.ld
  obtain ⟨kv0, k1, k2⟩ := c.led
  have e : Sx [] [Y.pc] H (upd H Y.pc (.dK (tmV lp'))) := sx_upd c.pc rfl List.mem_cons_self
  exact ⟨e.keep _ _ c.d trivial (.inr (c.ne (i := 0) (j := 5) rfl rfl (by decide))), e.tup c.clk, e.keep _ _ c.row trivial (.inr (c.ne (i := 1) (j := 5) rfl rfl (by decide))), ⟨us0, e.keep _ _ l1 trivial (.inr (c.ne (i := 2) (j := 5) rfl rfl (by decide))), e.dps 4 _ _ (noL_lo _) l2⟩, e.keep _ _ c.gn trivial (.inr (c.ne (i := 3) (j := 5) rfl rfl (by decide))), e.keep _ _ c.tl trivial (.inr (c.ne (i := 4) (j := 5) rfl rfl (by decide))), TaL.sx e c.ta (c.nb (j := 5) rfl (by decide)), upd_same, e.keep _ _ c.aw trivial (.inr (c.ne (i := 6) (j := 5) rfl rfl (by decide))), ⟨kv0, e.keep _ _ k1 trivial (.inr (c.ne (i := 7) (j := 5) rfl rfl (by decide))), e.led k2⟩, c.nd⟩
theorem MAt.set_aw (c : MAt K H m Y bs lp la s ts) (la' : List (Str × Bool)) (lv : List Str) : MAt K (upd H Y.aw (.dK (awV la'))) m Y bs lp la' { s with leaving := lv } ts := by
  obtain ⟨us0, l1, l2⟩ := c.ld
  obtain ⟨kv0, k1, k2⟩ := c.led
  have e : Sx [] [Y.aw] H (upd H Y.aw (.dK (awV la'))) := sx_upd c.aw rfl List.mem_cons_self
  exact ⟨e.keep _ _ c.d trivial (.inr (c.ne (i := 0) (j := 6) rfl rfl (by decide))), e.tup c.clk, e.keep _ _ c.row trivial (.inr (c.ne (i := 1) (j := 6) rfl rfl (by decide))), ⟨us0, e.keep _ _ l1 trivial (.inr (c.ne (i := 2) (j := 6) rfl rfl (by decide))), e.dps 4 _ _ (noL_lo _) l2⟩, e.keep _ _ c.gn trivial (.inr (c.ne (i := 3) (j := 6) rfl rfl (by decide))), e.keep _ _ c.tl trivial (.inr (c.ne (i := 4) (j := 6) rfl rfl (by decide))), TaL.sx e c.ta (c.nb (j := 6) rfl (by decide)), e.keep _ _ c.pc trivial (.inr (c.ne (i := 5) (j := 6) rfl rfl (by decide))), upd_same, ⟨kv0, e.keep _ _ k1 trivial (.inr (c.ne (i := 7) (j := 6) rfl rfl (by decide))), e.led k2⟩, c.nd⟩
theorem MAt.set_led (c : MAt K H m Y bs lp la s ts) {kvs : List (L2.Key × V)} {r : List (Str × (Rat × Rat × Rat))} (hu : LedL K H kvs r) : MAt K (upd H Y.led (.dK kvs)) m Y bs lp la { s with ledgers := r } ts := by
  obtain ⟨us0, l1, l2⟩ := c.ld
  obtain ⟨kv0, k1, k2⟩ := c.led
  have e : Sx [] [Y.led] H (upd H Y.led (.dK kvs)) := sx_upd k1 rfl List.mem_cons_self
  exact ⟨e.keep _ _ c.d trivial (.inr (c.ne (i := 0) (j := 7) rfl rfl (by decide))), e.tup c.clk, e.keep _ _ c.row trivial (.inr (c.ne (i := 1) (j := 7) rfl rfl (by decide))), ⟨us0, e.keep _ _ l1 trivial (.inr (c.ne (i := 2) (j := 7) rfl rfl (by decide))), e.dps 4 _ _ (noL_lo _) l2⟩, e.keep _ _ c.gn trivial (.inr (c.ne (i := 3) (j := 7) rfl rfl (by decide))), e.keep _ _ c.tl trivial (.inr (c.ne (i := 4) (j := 7) rfl rfl (by decide))), TaL.sx e c.ta (c.nb (j := 7) rfl (by decide)), e.keep _ _ c.pc trivial (.inr (c.ne (i := 5) (j := 7) rfl rfl (by decide))), e.keep _ _ c.aw trivial (.inr (c.ne (i := 6) (j := 7) rfl rfl (by decide))), ⟨kvs, upd_same, e.led hu⟩, c.nd⟩
/-- one more story, yet empty -/
theorem MAt.push_tl (c : MAt K H m Y bs lp la s ts) {b : Addr} (hb : H b = some (.lst [])) (nb : b ∉ ownM m Y bs) : MAt K (upd H Y.tl (.lst ((bs ++ [b]).map V.ref))) m Y (bs ++ [b]) lp la s (ts ++ [[]]) := by
  obtain ⟨us0, l1, l2⟩ := c.ld
  obtain ⟨kv0, k1, k2⟩ := c.led
  have e : Sx [] [Y.tl] H (upd H Y.tl (.lst ((bs ++ [b]).map V.ref))) := sx_upd c.tl rfl List.mem_cons_self
  have hbt : b ∉ [Y.tl] := fun z => nb (by rw [List.mem_singleton.mp z]; simp [ownM])
  refine ⟨e.keep _ _ c.d trivial (.inr (c.ne (i := 0) (j := 4) rfl rfl (by decide))), e.tup c.clk, e.keep _ _ c.row trivial (.inr (c.ne (i := 1) (j := 4) rfl rfl (by decide))), ⟨us0, e.keep _ _ l1 trivial (.inr (c.ne (i := 2) (j := 4) rfl rfl (by decide))), e.dps 4 _ _ (noL_lo _) l2⟩, e.keep _ _ c.gn trivial (.inr (c.ne (i := 3) (j := 4) rfl rfl (by decide))), upd_same,
    (TaL.sx e c.ta (c.nb (j := 4) rfl (by decide))).app ⟨⟨[], e.keep _ _ hb trivial (.inr hbt), .nil⟩, trivial⟩, e.keep _ _ c.pc trivial (.inr (c.ne (i := 5) (j := 4) rfl rfl (by decide))), e.keep _ _ c.aw trivial (.inr (c.ne (i := 6) (j := 4) rfl rfl (by decide))), ⟨kv0, e.keep _ _ k1 trivial (.inr (c.ne (i := 7) (j := 4) rfl rfl (by decide))), e.led k2⟩, ?_⟩
  unfold ownM
  rw [← List.append_assoc, List.nodup_append]
  exact ⟨c.nd, by simp, fun a ha b' hb' e' => nb (by rw [← List.mem_singleton.mp hb', ← e']; exact ha)⟩
theorem TaL.mem {K : PySem.W.Frag} {H : Hp} : ∀ {bs : List Addr} {ts : List (List Tl)}, TaL K H bs ts → ∀ b ∈ bs, ∃ us, H b = some (.lst us)
  | _ :: _, _ :: _, h, b, hb => by
    rcases List.mem_cons.mp hb with z | z
    · obtain ⟨us, h1, _⟩ := h.1
      exact ⟨us, by rw [z]; exact h1⟩
    · exact h.2.mem b z
  | [], _, _, _, hb => nomatch hb
  | _ :: _, [], h, _, _ => h.elim
theorem MAt.some (c : MAt K H m Y bs lp la s ts) : ∀ x ∈ ownM m Y bs, H x ≠ none := fun x hx => by
  have k : ∀ {o : HO}, H x = Option.some o → H x ≠ none := fun e z => by rw [z] at e; cases e
  rcases List.mem_append.mp hx with z | z
  · simp only [List.mem_cons, List.not_mem_nil, or_false] at z
    rcases z with rfl | rfl | rfl | rfl | rfl | rfl | rfl | rfl
    · exact k c.d
    · exact k c.row
    · exact k c.ld.choose_spec.1
    · exact k c.gn
    · exact k c.tl
    · exact k c.pc
    · exact k c.aw
    · exact k c.led.choose_spec.1
  · obtain ⟨us, e⟩ := c.ta.mem x z
    exact k e
end

/-- what stands in the dict while it is made -/
def mW (L : Int) (ck rw ld gn tl : Addr) (l : List Addr) : List (L2.Key × V) := ([(Sum.inr "len", V.int L), (Sum.inr "clock", .ref ck), (Sum.inr "row", .ref rw), (Sum.inr "loads", .ref ld), (Sum.inr "gone", .ref gn), (Sum.inr "tales", .ref tl)] : List (L2.Key × V)) ++ ((["pace", "away", "led"] : List Str).zip l).map fun x => (Sum.inr x.1, V.ref x.2)
theorem mW_put (L : Int) (ck rw ld gn tl a : Addr) : ∀ (l : List Addr) (i : Nat) (n : Str), l.length = i → (["pace", "away", "led"] : List Str)[i]? = some n → putK (mW L ck rw ld gn tl l) (Sum.inr n) (.ref a) = mW L ck rw ld gn tl (l ++ [a])
  | [], 0, n, _, e => by cases e; rfl
  | [x], 1, n, _, e => by cases e; rfl
  | [x, y], 2, n, _, e => by cases e; rfl
  | _ :: _ :: _ :: _, i, n, h, e => by
    have : i < 3 := (List.getElem?_eq_some_iff.mp e).1
    simp only [List.length_cons] at h
    omega
theorem ne_ns {H : Hp} {a b : Addr} {o : HO} (hb : H b = some o) (ha : H a = none) : a ≠ b := fun z => by rw [z, hb] at ha; cases ha
theorem ne_ld {H : Hp} {a b : Addr} {xs : List V} {kv : List (L2.Key × V)} (ha : H a = some (.lst xs)) (hb : H b = some (.dK kv)) : a ≠ b := fun z => by rw [z, hb] at ha; cases ha
theorem mW_len (L : Int) (ck rw ld gn tl : Addr) (l : List Addr) : (mW L ck rw ld gn tl l).length < sizeLine := by
  unfold mW
  rw [List.length_append, List.length_map, List.length_zip]
  exact szl (by show 6 + min 3 l.length < _; omega)
def sp_l_new (K : PySem.W.Frag) (T : Tb) : Sp := fun vs H Q _ => ∃ L : Int, vs = [.int L] ∧ ∀ m B H' qs, Sm T H H' → (∀ x ∈ ownM m B [], H x = none) → MAt K H' m B [] [] [] (newS L qs) [] → Q (.ref m) H'
theorem ok_l_new {f : Addr} {fd : FuncData} (F : Fun K "_law_new" "_law_new" s_l_new f fd) : FnOk P w K mg base CX0 1 f fd ["_law_length"] (sp_l_new K T) := by
  refine F.ok sc_l_new (fun vs H Q E h => ?_) (fun cdv A outer s H vs Q E hr h => ?_)
  · obtain ⟨L, rfl, _⟩ := h
    rfl
  · obtain ⟨L, rfl, q⟩ := h
    refine ⟨_, (pss_cons (ps_set (i := 1) sc_l_new.nd rfl (.inl rfl) (pe_disp (pps_cons pe_str (pv 0) (pps_cons pe_str (pe_tup (pa_cons pe_int (pa_cons pe_int pa_nil))) (pps_cons pe_str (pe_lst pa_nil) (pps_cons pe_str (pe_lst pa_nil) (pps_cons pe_str (pe_lst pa_nil) (pps_cons pe_str (pe_lst pa_nil) pps_nil)))))) (by rfl) (by rfl) (fun z => by cases z) (by decide)))
      (pss_cons (ps_for PassesOwn.never rfl (pi_list (pe_lst (pa_cons pe_str (pa_cons pe_str (pa_cons pe_str pa_nil))))) (pg_name (i := 2) sc_l_new.nd rfl (.inl rfl))
      (pss_one (ps_dput (hu_of hr) (pv 1) (pv 2) pe_dnewK rfl)))
      (pss_one (ps_ret (pv 1))))), ?_⟩
    intro m nm
    have u0 := same_upd (T := T) (o := HO.dK []) nm
    have em0 : upd H m (.dK []) m = some (.dK []) := upd_same
    generalize upd H m (.dK []) = H0 at *
    refine ⟨_, rfl, by show 2 ≤ sizeLine; decide, fun ck nck => ⟨Nat.zero_le _, fun rw_ nrw => ⟨Nat.zero_le _, fun ld nld => ⟨Nat.zero_le _, fun gn ngn => ⟨Nat.zero_le _, fun tl ntl => ?_⟩⟩⟩⟩⟩
    have v1 := same_upd (T := T) (o := HO.tup [V.int 0, V.int 1]) nck
    have v2 := same_upd (T := T) (o := HO.lst []) nrw
    have v3 := same_upd (T := T) (o := HO.lst []) nld
    have v4 := same_upd (T := T) (o := HO.lst []) ngn
    have v5 := same_upd (T := T) (o := HO.lst []) ntl
    have eck : SqT K (upd (upd (upd (upd (upd H0 ck (.tup [V.int 0, V.int 1])) rw_ (.lst [])) ld (.lst [])) gn (.lst [])) tl (.lst [])) ck (tv (am 0)) := same_tup (v2.trans (v3.trans (v4.trans v5))) (SqT.of (by rw [upd_same, am_zero]; rfl))
    have erw := (v3.trans (v4.trans v5)).k (show upd _ rw_ (.lst []) rw_ = some (.lst []) from upd_same)
    have eld := (v4.trans v5).k (show upd _ ld (.lst []) ld = some (.lst []) from upd_same)
    have egn := v5.k (show upd _ gn (.lst []) gn = some (.lst []) from upd_same)
    have etl : (upd (upd (upd (upd (upd H0 ck (.tup [V.int 0, V.int 1])) rw_ (.lst [])) ld (.lst [])) gn (.lst [])) tl (.lst [])) tl = some (.lst []) := upd_same
    have s5 := v1.trans (v2.trans (v3.trans (v4.trans v5)))
    have em5 := s5.k em0
    have nt : tl ≠ gn ∧ tl ≠ ld ∧ tl ≠ rw_ := ⟨ne_ns upd_same ntl, ne_ns (v4.k upd_same) ntl, ne_ns ((v3.trans v4).k upd_same) ntl⟩
    have ng : gn ≠ ld ∧ gn ≠ rw_ := ⟨ne_ns upd_same ngn, ne_ns (v3.k upd_same) ngn⟩
    have nl : ld ≠ rw_ := ne_ns upd_same nld
    have fr : H rw_ = none ∧ H ld = none ∧ H gn = none ∧ H tl = none := ⟨u0.free _ (v1.free _ nrw), u0.free _ (v1.free _ (v2.free _ nld)), u0.free _ (v1.free _ (v2.free _ (v3.free _ ngn))), u0.free _ (v1.free _ (v2.free _ (v3.free _ (v4.free _ ntl))))⟩
    clear v1 v2 v3 v4 v5 nck nrw nld ngn ntl em0
    generalize upd (upd (upd (upd (upd H0 ck (.tup [V.int 0, V.int 1])) rw_ (.lst [])) ld (.lst [])) gn (.lst [])) tl (.lst []) = H5 at *
    refine ⟨em5, mW L ck rw_ ld gn tl [], rfl, by show 6 ≤ 15; decide, ?_⟩
    rw [show mergeK [] (mW L ck rw_ ld gn tl []) = mW L ck rw_ ld gn tl [] from rfl]
    have s06 : Sm T H H5 := u0.trans s5
    have x6 : Sx T [m] H5 (upd H5 m (.dK (mW L ck rw_ ld gn tl []))) := sx_upd em5 rfl (by simp)
    have nm5 : rw_ ≠ m ∧ ld ≠ m ∧ gn ≠ m ∧ tl ≠ m := ⟨ne_ld erw em5, ne_ld eld em5, ne_ld egn em5, ne_ld etl em5⟩
    have em6 : upd H5 m (.dK (mW L ck rw_ ld gn tl [])) m = some (.dK (mW L ck rw_ ld gn tl [])) := upd_same
    have erw6 : upd H5 m (.dK (mW L ck rw_ ld gn tl [])) rw_ = some (.lst []) := by rw [upd_ne nm5.1]; exact erw
    have eld6 : upd H5 m (.dK (mW L ck rw_ ld gn tl [])) ld = some (.lst []) := by rw [upd_ne nm5.2.1]; exact eld
    have egn6 : upd H5 m (.dK (mW L ck rw_ ld gn tl [])) gn = some (.lst []) := by rw [upd_ne nm5.2.2.1]; exact egn
    have etl6 : upd H5 m (.dK (mW L ck rw_ ld gn tl [])) tl = some (.lst []) := by rw [upd_ne nm5.2.2.2]; exact etl
    have eck6 := x6.tup eck
    have s07 : Sm T H (upd H5 m (.dK (mW L ck rw_ ld gn tl []))) := Sx.sm ((s06.sx (S := [])).trans x6 fun y hy => .inr (by rw [List.mem_singleton.mp hy]; exact nm))
    clear x6 erw eld egn etl eck em5 s06 s5 u0
    generalize upd H5 m (.dK (mW L ck rw_ ld gn tl [])) = H6 at *
    dsimp only [gName]
    refine ⟨by show 3 ≤ sizeLine; decide, fun lw nlw => ?_⟩
    have u7 := same_upd (T := T) (o := HO.lst [V.str "pace", V.str "away", V.str "led"]) nlw
    have elw : upd H6 lw (.lst [V.str "pace", V.str "away", V.str "led"]) lw = some (.lst [V.str "pace", V.str "away", V.str "led"]) := upd_same
    have em7 := u7.k em6
    have erw7 := u7.k erw6
    have eld7 := u7.k eld6
    have egn7 := u7.k egn6
    have etl7 := u7.k etl6
    have eck7 := same_tup u7 eck6
    have s08 := s07.trans u7
    clear em6 erw6 eld6 egn6 etl6 eck6 u7 nlw s07
    generalize upd H6 lw (.lst [V.str "pace", V.str "away", V.str "led"]) = H7 at *
    have nlm : lw ≠ m := fun z => by rw [z, em7] at elw; cases elw
    refine ⟨lw, rfl, ⟨_, SqL.of elw⟩, for_list (K := K) (a := lw) (xs := ([V.str "pace", V.str "away", V.str "led"] : List V)) (fun i σ H' => Sx T [m] H7 H' ∧ ∃ (l : List Addr) (x2 : Option V), l.length = i ∧ l.Nodup ∧ (∀ x ∈ l, H7 x = none ∧ H' x = some (.dK [])) ∧ H' m = some (.dK (mW L ck rw_ ld gn tl l)) ∧ σ = [some (.int L), some (.ref m), x2]) ⟨Sx.refl, [], _, rfl, List.nodup_nil, fun _ h => (nomatch h), em7, rfl⟩ (fun i σ H' _ ⟨sm, _⟩ => SqL.of (sm.lst elw (by simp [nlm]))) ?_ ?_⟩
    · rintro i v σ H8 hi ⟨x8, l, x2, hl, hnd, hd, em8, rfl⟩
      obtain ⟨n, hn, rfl⟩ : ∃ n, (["pace", "away", "led"] : List Str)[i]? = some n ∧ V.str n = v := by
        have e : ([V.str "pace", V.str "away", V.str "led"] : List V) = (["pace", "away", "led"] : List Str).map V.str := rfl
        rw [e, List.getElem?_map] at hi
        exact Option.map_eq_some_iff.mp hi
      intro d nd
      have u9 := same_upd (T := T) (o := HO.dK []) nd
      have em9 := u9.k em8
      have ndm : d ≠ m := ne_ns em8 nd
      have ndl : d ∉ l := fun z => by
        have := (hd d z).2
        rw [nd] at this
        cases this
      have il : i < 3 := (List.getElem?_eq_some_iff.mp hn).1
      refine ⟨_, rfl, _, rfl, m, _, rfl, DPut.k (k := Sum.inr n) em9 (mW_len ..), ?_⟩
      rw [mW_put L ck rw_ ld gn tl d l i n hl hn]
      have x9 : Sx T [m] (upd H8 d (.dK [])) (upd (upd H8 d (.dK [])) m (.dK (mW L ck rw_ ld gn tl (l ++ [d])))) := sx_upd em9 rfl (by simp)
      refine ⟨(x8.sm' u9).step x9, l ++ [d], _, by rw [List.length_append, hl]; rfl, ?_, fun x hx => ?_, upd_same, rfl⟩
      · rw [List.nodup_append]
        exact ⟨hnd, by simp, fun a ha b hb e => ndl (by rw [← List.mem_singleton.mp hb, ← e]; exact ha)⟩
      · rcases List.mem_append.mp hx with z | z
        · have h1 := hd x z
          refine ⟨h1.1, ?_⟩
          rw [upd_ne (fun e => by rw [e, em8] at h1; have := h1.2; cases l <;> cases this)]
          exact u9.k h1.2
        · rw [List.mem_singleton.mp z]
          exact ⟨x8.free _ nd, by rw [upd_ne ndm, upd_same]⟩
    · rintro σ H8 ⟨x8, l, x2, hl, hnd, hd, em8, rfl⟩
      obtain ⟨a1, a2, a3, rfl⟩ : ∃ a1 a2 a3, l = [a1, a2, a3] := match l, hl with | [a1, a2, a3], _ => ⟨a1, a2, a3, rfl⟩
      obtain ⟨d1, d2⟩ := hd a1 (by simp)
      obtain ⟨d3, d4⟩ := hd a2 (by simp)
      obtain ⟨d5, d6⟩ := hd a3 (by simp)
      have erw8 := x8.lst erw7 (by simp [nm5.1])
      have eld8 := x8.lst eld7 (by simp [nm5.2.1])
      have egn8 := x8.lst egn7 (by simp [nm5.2.2.1])
      have etl8 := x8.lst etl7 (by simp [nm5.2.2.2])
      refine ⟨_, rfl, q m ⟨ck, rw_, ld, gn, tl, a1, a2, a3⟩ H8 [] (Sx.sm ((s08.sx (S := [])).trans x8 fun y hy => .inr (by rw [List.mem_singleton.mp hy]; exact nm))) ?_ ⟨em8, x8.tup eck7, erw8, ⟨[], eld8, .nil⟩, egn8, etl8, trivial, d2, d4, ⟨[], d6, rfl, .nil⟩, ?_⟩⟩
      · intro x hx
        simp only [ownM, List.append_nil, List.mem_cons, List.not_mem_nil, or_false] at hx
        rcases hx with rfl | rfl | rfl | rfl | rfl | rfl | rfl | rfl
        · exact nm
        · exact fr.1
        · exact fr.2.1
        · exact fr.2.2.1
        · exact fr.2.2.2
        · exact s08.free _ d1
        · exact s08.free _ d3
        · exact s08.free _ d5
      · have k1 : ∀ {a : Addr} {o : HO}, H7 a = some o → a ≠ a1 ∧ a ≠ a2 ∧ a ≠ a3 := fun e => ⟨(ne_ns e d1).symm, (ne_ns e d3).symm, (ne_ns e d5).symm⟩
        have g1 := k1 em7
        have g2 := k1 erw7
        have g3 := k1 eld7
        have g4 := k1 egn7
        have g5 := k1 etl7
        simp only [ownM, List.append_nil, List.nodup_cons, List.mem_cons, List.not_mem_nil, or_false, not_or, not_false_eq_true, List.nodup_nil, and_true] at hnd ⊢
        grind
/-- the law's chain behind one change; the chain itself need not be told whole -/
def sp_l_new_pail (K : PySem.W.Frag) (T : Tb) : Sp := fun vs H Q _ => ∃ m Y bs lp la s ts, vs = [.ref m] ∧ MAt K H m Y bs lp la s ts ∧ bs.length ≤ 9000 ∧ s.loads.length ≤ 1000 ∧ s.spots.length ≤ 1000 ∧ ts.length = s.marks.length ∧
  ∀ b H', Sx T (ownM m Y bs) H H' → H b = none → MAt K H' m Y (bs ++ [b]) lp la (takeS s) (ts ++ [[]]) → Q .non H'
theorem ok_l_new_pail {f : Addr} {fd : FuncData} (F : Fun K "_law_new_pail" "_law_new_pail" s_l_new_pail f fd) (B : Bn mg) : FnOk P w K mg base CX0 1 f fd ["_law_m"] (sp_l_new_pail K T) := by
  refine F.ok sc_l_new_pail (fun vs H Q E h => ?_) (fun cdv A outer s H vs Q E hr h => ?_)
  · obtain ⟨m, Y, bs, lp, la, s, ts, rfl, _⟩ := h
    rfl
  · obtain ⟨m, Y, bs, lp, la, s, ts, rfl, c, hbl, hl1, hl2, hts, q⟩ := h
    refine ⟨_, (pss_cons (ps_expr (pe_bm PySem.F.plainAttrs_list PySem.F.slot_list_insert PySem.F.type_list_insert mt_insert (pe_dget (hu_of hr) (pv 0) pe_str (fun _ _ => rfl)) (pa_cons pe_int (pa_cons (pe_tup (pa_cons (pe_callB call_len_seq (by rfl) B.len_ (by decide +kernel) (pa_cons (pe_dget (hu_of hr) (pv 0) pe_str (fun _ _ => rfl)) pa_nil)) (pa_cons (pe_tup (pa_cons pe_int (pa_cons pe_int pa_nil))) pa_nil))) pa_nil))))
      (pss_one (ps_expr (pe_bm PySem.F.plainAttrs_list PySem.F.slot_list_append PySem.F.type_list_append mt_append (pe_dget (hu_of hr) (pv 0) pe_str (fun _ _ => rfl)) (pa_cons (pe_lst pa_nil) pa_nil))))), ?_⟩
    obtain ⟨us, l1, l2⟩ := c.ld
    have lb := c.ta.len
    have lus : us.length ≤ 1000 := by rw [dpa_len l2, List.length_map, List.length_zip]; omega
    refine ⟨_, rfl, _, .ref Y.ld, rfl, c.gd, .inl ⟨rfl, _, SqL.of l1⟩, _, rfl, _, .ref Y.tl, rfl, c.gt, Y.tl, _, rfl, .inl (SqL.of c.tl), by show 2 ≤ sizeLine; decide, fun t0 n0 => ⟨by show 2 ≤ sizeLine; decide, fun t1 n1 => ?_⟩⟩
    have u0 := same_upd (T := T) (o := HO.tup [V.int 0, V.int 1]) n0
    have u1 := same_upd (T := T) (o := HO.tup [V.int ((bs.map V.ref).length : Int), V.ref t0]) n1
    have s1 := u0.trans u1
    have d1 : Dp K (upd (upd H t0 (.tup [V.int 0, V.int 1])) t1 (.tup [V.int ((bs.map V.ref).length : Int), V.ref t0])) (.ref t1) (loD ((s.marks.length : Int), 0)) := .tup (xs := [V.int ((bs.map V.ref).length : Int), V.ref t0]) (SqT.of upd_same) (.cons (by rw [List.length_map, lb, hts]; exact .int _) (.cons (amD_dp (same_tup u1 (SqT.of (by rw [upd_same, am_zero]; rfl)))) .nil))
    have c1 := c.sm s1
    have l11 := s1.k l1
    have l21 := dpa_same s1 _ _ l2
    clear u0 u1 n0 n1
    generalize upd (upd H t0 (.tup [V.int 0, V.int 1])) t1 (.tup [V.int ((bs.map V.ref).length : Int), V.ref t0]) = H1 at *
    refine ⟨Y.ld, us, 0, _, rfl, rfl, l11, szl (by omega), by decide, by decide, ?_⟩
    have c2 := c1.set_ld (us := .ref t1 :: us) (ls := (s.marks.length : Int) :: s.loads) (xs := 0 :: s.spots) (.cons d1 l21)
    have x2 : Sx T (ownM m Y bs) H1 (upd H1 Y.ld (.lst (.ref t1 :: us))) := sx_upd l11 rfl (by simp [ownM])
    show _
    have eH : upd H1 Y.ld (.lst (us.take (0 : Int).toNat ++ [V.ref t1] ++ us.drop (0 : Int).toNat)) = upd H1 Y.ld (.lst (.ref t1 :: us)) := rfl
    rw [eH]
    have x02 : Sx T (ownM m Y bs) H (upd H1 Y.ld (.lst (.ref t1 :: us))) := (s1.sx (S := ownM m Y bs)).step x2
    clear x2 eH c1 l11 l21 d1 s1
    generalize upd H1 Y.ld (.lst (.ref t1 :: us)) = H2 at *
    refine ⟨_, rfl, _, .ref Y.tl, rfl, c2.gt, .inl ⟨rfl, _, SqL.of c2.tl⟩, Nat.zero_le _, fun b nb => ?_⟩
    have u3 := same_upd (T := T) (o := HO.lst []) nb
    have c3 := c2.sm u3
    have hbn : H b = none := x02.free _ nb
    have nbo : b ∉ ownM m Y bs := fun z => by
      have : ∀ x ∈ ownM m Y bs, H2 x ≠ none := c2.some
      exact this b z nb
    refine ⟨Y.tl, _, _, rfl, rfl, c3.tl, szl (by rw [List.length_map]; omega), ?_⟩
    have c4 := c3.push_tl (b := b) upd_same nbo
    have x4 : Sx T (ownM m Y bs) (upd H2 b (.lst [])) (upd (upd H2 b (.lst [])) Y.tl (.lst ((bs ++ [b]).map V.ref))) := sx_upd c3.tl rfl (by simp [ownM])
    rw [← show (bs ++ [b]).map V.ref = bs.map V.ref ++ [V.ref b] from by rw [List.map_append]; rfl]
    exact q b _ ((x02.sm' u3).step x4) hbn ⟨c4.d, c4.clk, c4.row, c4.ld, c4.gn, c4.tl, c4.ta, c4.pc, c4.aw, c4.led, c4.nd⟩
theorem let_abc (c : Nat) : decide (c ∈ ABC.cps.toList) = letB c := by
  have e : ABC.cps.toList = (List.range 26).map (97 + ·) := by decide +kernel
  have lt : ∀ a b : Nat, decide ([a] < [b]) = decide (a < b) := fun a b => decide_eq_decide.mpr (by
    constructor
    · intro h
      cases h with
      | rel h => exact h
      | cons h => cases h
    · exact fun h => List.Lex.rel h)
  unfold letB
  rw [show (("a" : Str)).cps.toList = [97] from by decide +kernel, show (("z" : Str)).cps.toList = [122] from by decide +kernel, lt, lt, e, Bool.eq_iff_iff]
  simp only [decide_eq_true_eq, Bool.and_eq_true, Bool.not_eq_true', decide_eq_false_iff_not, List.mem_map, List.mem_range]
  constructor
  · rintro ⟨a, h, rfl⟩
    omega
  · intro h
    exact ⟨c - 97, by omega, by omega⟩
def sp_l_name_ok (K : PySem.W.Frag) (T : Tb) : Sp := fun vs H Q _ => ∃ n : Str, vs = [.str n] ∧ n.length ≤ 1000 ∧ ∀ H', Sm T H H' → Q (.bl (nameB n)) H'
theorem ok_l_name_ok {f : Addr} {fd : FuncData} (F : Fun K "_law_name_ok" "_law_name_ok" s_l_name_ok f fd) (B : Bn mg) : FnOk P w K mg base CX0 1 f fd ["_law_name_here"] (sp_l_name_ok K T) := by
  refine F.ok sc_l_name_ok (fun vs H Q E h => ?_) (fun cdv A outer s H vs Q E hr h => ?_)
  · obtain ⟨n, rfl, _⟩ := h
    rfl
  · obtain ⟨n, rfl, hn, q⟩ := h
    refine ⟨_, (pss_one (ps_ret (pe_and (pe_chain op_le op_le pe_int (pe_callB call_len_str (by rfl) B.len_ (by decide +kernel) (pa_cons (pv 0) pa_nil)) pe_int) (pe_one (pe_callB (cr_all rfl) (by rfl) B.all_ (by decide +kernel) (pa_cons (pe_lc (own := [("_law_sign", 1)]) (g := (gName 1)) (tt := tYes) (by rfl) sc_l_name_ok.nd (pi_str (pv 0)) (blkOk_by (own := [("_law_sign", 1)]) (N := ["_law_name_here", "_law_sign"]) (sc := (defScope s_l_name_ok)) (by decide +kernel)) (fun _ _ _ _ _ => (pg_name (i := 1) sc_l_name_ok.nd rfl (.inl rfl))) (fun _ _ _ _ _ => pts_nil) (fun _ _ _ _ _ => (pe_cmpR (r := fun x y H Q => ∃ i j, x = .str i ∧ y = .str j ∧ Q (.bl (!(Builtin.Str.occurrences j i 0 j.length 1).isEmpty)) H) op_in_str (pv 1) pe_str (by rfl)))) pa_nil)))))), ?_⟩
    have say : ∀ (b : Bool) (H' : Hp), nameB n = b → Sm T H H' → Q (.bl b) H' := fun b H' e s' => by rw [← e]; exact q H' s'
    refine ⟨_, rfl, n, rfl, Nat.le_trans hn (by decide), _, _, rfl, rfl, _, rfl, ?_⟩
    by_cases h1 : (1 : Int) ≤ (n.length : Int)
    · rw [decide_eq_true h1]
      refine iteT ⟨_, _, rfl, rfl, _, rfl, ?_⟩
      by_cases h8 : (n.length : Int) ≤ 8
      · rw [decide_eq_true h8]
        refine iteT ⟨_, rfl, n, rfl, fun D hD => lc_it walk_str (Qd := _) (fun j H' => Sm T H H' ∧ H' D = some (.lst (((n.cps.toList.take j).map letB).map V.bl))) ⟨same_upd hD, upd_same⟩ (fun _ _ _ _ => trivial) ?_ ?_⟩
        · rintro j x H1 H2 hj ⟨s1, eD⟩ ⟨rfl, c, hc, rfl⟩
          have hc' : n.cps.toList[j]? = some c := by rw [Array.getElem?_toList]; exact hc
          have ec := StrLaws.found_one ABC c
          refine ⟨rfl, tyes_i ?_⟩
          refine ⟨_, rfl, _, _, rfl, rfl, ?_⟩
          rw [show (!(Builtin.Str.occurrences ("abcdefghijklmnopqrstuvwxyz" : Str) ⟨#[c]⟩ 0 ("abcdefghijklmnopqrstuvwxyz" : Str).length 1).isEmpty) = letB c from ec.trans (let_abc c)]
          refine ⟨_, eD, szl (by rw [List.length_map, List.length_map, List.length_take]; have : n.length = n.cps.toList.length := rfl; omega), same_mut s1 hD eD, ?_⟩
          rw [upd_same, List.take_add_one, hc', List.map_append, List.map_append]
          rfl
        · rintro H1 ⟨s1, eD⟩
          rw [List.take_of_length_le (by rw [Array.length_toList]; exact Nat.le_refl _)] at eD
          refine ⟨D, (n.cps.toList.map letB), rfl, SqL.of eD, say _ H1 ?_ s1⟩
          unfold nameB
          rw [decide_eq_true (show 1 ≤ n.length by omega), decide_eq_true (show n.length ≤ 8 by omega), List.all_map]
          rfl
      · rw [decide_eq_false h8]
        refine iteF (say false H ?_ Sm.refl)
        unfold nameB
        rw [decide_eq_false (show ¬ n.length ≤ 8 by omega), Bool.and_false, Bool.false_and]
    · rw [decide_eq_false h1]
      refine iteF ⟨_, rfl, iteF (say false H ?_ Sm.refl)⟩
      unfold nameB
      rw [decide_eq_false (show ¬ 1 ≤ n.length by omega), Bool.false_and, Bool.false_and]

theorem putL_same {α : Type} {l : List (Str × α)} {n : Str} {a : α} (nd : (l.map (·.1)).Nodup) (h : getL l n = some a) : putL l n a = l := by
  unfold getL at h
  obtain ⟨y, hy, rfl⟩ := Option.map_eq_some_iff.mp h
  have hm := List.mem_of_find?_eq_some hy
  have hk : y.1 = n := by have := List.find?_some hy; simpa using this
  unfold putL
  rw [if_pos (List.any_eq_true.mpr ⟨y, hm, decide_eq_true hk⟩)]
  refine (List.map_congr_left fun x hx => ?_).trans (List.map_id l)
  by_cases e : x.1 = n
  · rw [if_pos e]
    obtain ⟨i, hi, ei⟩ := List.getElem_of_mem hx
    obtain ⟨j, hj, ej⟩ := List.getElem_of_mem hm
    have : i = j := by
      have a1 : (l.map (·.1))[i]? = some n := by rw [List.getElem?_map, List.getElem?_eq_getElem hi, ei, Option.map_some, e]
      have a2 : (l.map (·.1))[j]? = some n := by rw [List.getElem?_map, List.getElem?_eq_getElem hj, ej, Option.map_some, hk]
      exact nd_ix nd a1 a2
    subst this
    rw [ei] at ej
    rw [ej]
    rfl
  · rw [if_neg e]
    rfl
/-- what the law's own hands keep -/
structure Nc (s : Ch) : Prop where
  ln : (s.ledgers.map (·.1)).Nodup
  lr : ∀ x ∈ s.leaving, x ∈ s.row
def sp_l_enters (K : PySem.W.Frag) (T : Tb) : Sp := fun vs H Q _ => ∃ m Y bs lp la s ts n p, vs = [.ref m, .str n, .int p] ∧ MAt K H m Y bs lp la s ts ∧ Nc s ∧ MOk lp la s ∧ n.length ≤ 1000 ∧ (bs.length ≤ 8000 ∧ s.loads.length ≤ 900 ∧ s.spots.length ≤ 900 ∧ s.row.length ≤ 900 ∧ lp.length ≤ 900 ∧ la.length ≤ 900 ∧ s.ledgers.length ≤ 900) ∧ ts.length = s.marks.length ∧
  (∀ wd, enterW s n p = some wd → ∀ t H', Sm T H H' → H' t = some (.tup [.str wd, .non]) → Q (.ref t) H') ∧
  (enterW s n p = none → ∀ t b H' lp' la', Sx T (ownM m Y bs) H H' → H b = none → MAt K H' m Y (bs ++ [b]) lp' la' (enterS s n p) (ts ++ [[]]) → MOk lp' la' (enterS s n p) → lp'.length ≤ lp.length + 1 → la'.length ≤ la.length + 1 → H' t = some (.tup [.str "", .int s.marks.length]) → Q (.ref t) H')
theorem ok_l_enters {f : Addr} {fd : FuncData} (F : Fun K "_law_enters" "_law_enters" s_l_enters f fd) (B : Bn mg) (F_l_new_pail : Fn P w K mg base 1 "_law_new_pail" ["_law_m"] (sp_l_new_pail K T)) (F_l_name_ok : Fn P w K mg base 1 "_law_name_ok" ["_law_name_here"] (sp_l_name_ok K T)) : FnOk P w K mg base CX0 2 f fd ["_law_m", "_law_name_here", "_law_pace"] (sp_l_enters K T) := by
  refine F.ok sc_l_enters (fun vs H Q E h => ?_) (fun cdv A outer s H vs Q E hr h => ?_)
  · obtain ⟨m, Y, bs, lp, la, s, ts, n, p, rfl, _⟩ := h
    rfl
  · obtain ⟨m, Y, bs, lp, la, s, ts, n, p, rfl, c, nc, mo, hn, ⟨z1, z2, z3, z4, z5, z6, z7⟩, hts, k1, k2⟩ := h
    refine ⟨_, (pss_cons (ps_if (pt_not (pt_val (pe_fn F_l_name_ok (hr.mono (by decide)) (pa_cons (pv 1) pa_nil)))) (pss_one (ps_ret (pe_tup (pa_cons pe_str (pa_cons pe_non pa_nil))))) pss_nil)
      (pss_cons (ps_if (pt_cmpR op_in_seq (pv 1) (pe_dget (hu_of hr) (pv 0) pe_str (fun _ _ => rfl)) (by rfl)) (pss_one (ps_ret (pe_tup (pa_cons pe_str (pa_cons pe_non pa_nil))))) pss_nil)
      (pss_cons (ps_if (pt_not (pt_chain op_le op_le pe_int (pv 2) pe_int)) (pss_one (ps_ret (pe_tup (pa_cons pe_str (pa_cons pe_non pa_nil))))) pss_nil)
      (pss_cons (ps_if (pt_cmpR op_gt (pe_callB call_len_seq (by rfl) B.len_ (by decide +kernel) (pa_cons (pe_dget (hu_of hr) (pv 0) pe_str (fun _ _ => rfl)) pa_nil)) pe_int (nomark _)) (pss_one (ps_ret (pe_tup (pa_cons pe_str (pa_cons pe_non pa_nil))))) pss_nil)
      (pss_cons (ps_expr (pe_bm PySem.F.plainAttrs_list PySem.F.slot_list_insert PySem.F.type_list_insert mt_insert (pe_dget (hu_of hr) (pv 0) pe_str (fun _ _ => rfl)) (pa_cons pe_int (pa_cons (pv 1) pa_nil))))
      (pss_cons (ps_dput (hu_of hr) (pe_dget (hu_of hr) (pv 0) pe_str (fun _ _ => rfl)) (pv 1) (pv 2) rfl)
      (pss_cons (ps_dput (hu_of hr) (pe_dget (hu_of hr) (pv 0) pe_str (fun _ _ => rfl)) (pv 1) pe_bl rfl)
      (pss_cons (ps_dput (hu_of hr) (pe_dget (hu_of hr) (pv 0) pe_str (fun _ _ => rfl)) (pv 1) (pe_dget2 (hu_of hr) (pe_dget (hu_of hr) (pv 0) pe_str (fun _ _ => rfl)) (pv 1) (pe_tup (pa_cons (pe_tup (pa_cons pe_int (pa_cons pe_int pa_nil))) (pa_cons (pe_tup (pa_cons pe_int (pa_cons pe_int pa_nil))) (pa_cons (pe_tup (pa_cons pe_int (pa_cons pe_int pa_nil))) pa_nil)))) ⟨rfl, rfl, rfl, rfl⟩) rfl)
      (pss_cons (ps_expr (pe_fn F_l_new_pail (hr.mono (by decide)) (pa_cons (pv 0) pa_nil)))
      (pss_one (ps_ret (pe_tup (pa_cons pe_str (pa_cons (pe_op op_sub (pe_callB call_len_seq (by rfl) B.len_ (by decide +kernel) (pa_cons (pe_dget (hu_of hr) (pv 0) pe_str (fun _ _ => rfl)) pa_nil)) pe_int) pa_nil)))))))))))))), ?_⟩
    refine ⟨_, rfl, n, rfl, hn, fun H1 s1 => ?_⟩
    have c1 := c.sm s1
    have two : ∀ (wd : Str) (H' : Hp), enterW s n p = some wd → Sm T H H' → 2 ≤ sizeLine ∧ ∀ t, H' t = none → Q (.ref t) (upd H' t (.tup [.str wd, .non])) := fun wd H' e s' => ⟨by decide, fun t nt => k1 wd e t _ (s'.trans (same_upd nt)) upd_same⟩
    cases hb : nameB n with
    | false => exact ⟨_, rfl, iteT (two "bad name" H1 (by unfold enterW; rw [hb]; rfl) s1)⟩
    | true =>
      refine ⟨_, rfl, iteF ?_⟩
      refine ⟨_, rfl, _, rfl, _, .ref Y.row, rfl, c1.gr, Y.row, _, rfl, .inl (SqL.of c1.row), rfl, flat_strs _, _, rfl, ?_⟩
      show if inV (.str n) (s.row.map V.str) = true then _ else _
      rw [inV_strs]
      by_cases hm : n ∈ s.row
      · rw [decide_eq_true hm]
        exact iteT (two "taken" H1 (by unfold enterW; rw [if_pos hb, if_pos hm]) s1)
      · rw [decide_eq_false hm]
        refine iteF ?_
        refine ⟨_, rfl, _, _, rfl, rfl, _, rfl, ?_⟩
        by_cases p1 : 1 ≤ p
        case neg =>
          rw [decide_eq_false p1]
          exact iteF ⟨_, rfl, iteT (two "bad pace" H1 (by unfold enterW paceB; rw [if_pos hb, if_neg hm, decide_eq_false p1]; rfl) s1)⟩
        rw [decide_eq_true p1]
        refine iteT ⟨_, _, rfl, rfl, _, rfl, ?_⟩
        by_cases p12 : p ≤ 12
        case neg =>
          rw [decide_eq_false p12]
          exact iteT (two "bad pace" H1 (by unfold enterW paceB; rw [if_pos hb, if_neg hm, decide_eq_false p12, Bool.and_false]; rfl) s1)
        rw [decide_eq_true p12]
        refine iteF ?_
        refine ⟨_, rfl, _, .ref Y.row, rfl, c1.gr, Y.row, _, rfl, .inl (SqL.of c1.row), _, _, rfl, rfl, _, rfl, ?_⟩
        rw [List.length_map]
        have hpB : paceB p = true := by unfold paceB; rw [decide_eq_true p1, decide_eq_true p12]; rfl
        by_cases h8 : s.row.length < 8
        case neg =>
          rw [decide_eq_true (show (7 : Int) < (s.row.length : Int) by omega)]
          exact iteT (two "full" H1 (by unfold enterW; rw [if_pos hb, if_neg hm, if_pos hpB, if_neg h8]) s1)
        rw [decide_eq_false (show ¬ (7 : Int) < (s.row.length : Int) by omega)]
        refine iteF ?_
        have eW : enterW s n p = none := by unfold enterW; rw [if_pos hb, if_neg hm, if_pos hpB, if_pos h8]
        refine ⟨_, rfl, _, .ref Y.row, rfl, c1.gr, .inl ⟨rfl, _, SqL.of c1.row⟩, _, rfl, Y.row, _, 0, _, rfl, rfl, c1.row, szl (by rw [List.length_map]; omega), by decide, by decide, ?_⟩
        have c2 := c1.set_row (n :: s.row)
        have x2 : Sx T (ownM m Y bs) H1 (upd H1 Y.row (.lst ((n :: s.row).map V.str))) := sx_upd c1.row rfl (by simp [ownM])
        have x02 := (s1.sx (S := ownM m Y bs)).step x2
        show _
        have eH : upd H1 Y.row (.lst ((s.row.map V.str).take (0 : Int).toNat ++ [V.str n] ++ (s.row.map V.str).drop (0 : Int).toNat)) = upd H1 Y.row (.lst ((n :: s.row).map V.str)) := rfl
        rw [eH]
        clear x2 eH
        generalize upd H1 Y.row (.lst ((n :: s.row).map V.str)) = H2 at *
        refine ⟨_, rfl, _, rfl, _, .ref Y.pc, rfl, c2.gp, _, rfl, Y.pc, _, rfl, DPut.k (k := Sum.inr n) c2.pc (by unfold tmV; rw [List.length_map]; exact szl (by omega)), ?_⟩
        rw [put_tm]
        have c3 := c2.set_pc (putL lp n p) (putL s.tempos n p)
        have x3 : Sx T (ownM m Y bs) H2 (upd H2 Y.pc (.dK (tmV (putL lp n p)))) := sx_upd c2.pc rfl (by simp [ownM])
        have x03 := x02.step x3
        clear x3 x02
        generalize upd H2 Y.pc (.dK (tmV (putL lp n p))) = H3 at *
        refine ⟨_, rfl, _, .ref Y.aw, rfl, c3.ga, _, rfl, Y.aw, _, rfl, DPut.k (k := Sum.inr n) c3.aw (by unfold awV; rw [List.length_map]; exact szl (by omega)), ?_⟩
        rw [put_aw]
        have c4 : MAt K (upd H3 Y.aw (.dK (awV (putL la n false)))) m Y bs (putL lp n p) (putL la n false) { s with row := n :: s.row, tempos := putL s.tempos n p } ts := c3.set_aw (putL la n false) s.leaving
        have x4 : Sx T (ownM m Y bs) H3 (upd H3 Y.aw (.dK (awV (putL la n false)))) := sx_upd c3.aw rfl (by simp [ownM])
        have x04 := x03.step x4
        clear x4 x03
        generalize upd H3 Y.aw (.dK (awV (putL la n false))) = H4 at *
        obtain ⟨kv, g1, g2⟩ := c4.led
        refine ⟨_, rfl, _, .ref Y.led, rfl, c4.ge, Y.led, rfl, .inl ⟨_, .inl g1⟩, _, rfl, ?_⟩
        refine ⟨by show 2 ≤ sizeLine; decide, fun q1 n1 => ⟨by show 2 ≤ sizeLine; decide, fun q2 n2 => ⟨by show 2 ≤ sizeLine; decide, fun q3 n3 => ⟨by show 3 ≤ sizeLine; decide, fun q4 n4 => ?_⟩⟩⟩⟩
        have v1 := same_upd (T := T) (o := HO.tup [V.int 0, V.int 1]) n1
        have v2 := same_upd (T := T) (o := HO.tup [V.int 0, V.int 1]) n2
        have v3 := same_upd (T := T) (o := HO.tup [V.int 0, V.int 1]) n3
        have v4 := same_upd (T := T) (o := HO.tup [V.ref q1, V.ref q2, V.ref q3]) n4
        have e0 : ∀ {G : Hp} {x : Addr}, SqT K (upd G x (.tup [V.int 0, V.int 1])) x (tv (am 0)) := SqT.of (by rw [upd_same, am_zero]; rfl)
        have d0 : Dp K (upd (upd (upd (upd H4 q1 (.tup [V.int 0, V.int 1])) q2 (.tup [V.int 0, V.int 1])) q3 (.tup [V.int 0, V.int 1])) q4 (.tup [V.ref q1, V.ref q2, V.ref q3])) (.ref q4) (ledD (0, 0, 0)) := .tup (SqT.of upd_same) (.cons (amD_dp (same_tup (v2.trans (v3.trans v4)) e0)) (.cons (amD_dp (same_tup (v3.trans v4) e0)) (.cons (amD_dp (same_tup v4 e0)) .nil)))
        have s5 := v1.trans (v2.trans (v3.trans v4))
        have c5 := c4.sm s5
        have g15 := s5.k g1
        have g25 : LedL K _ kv s.ledgers := (s5.sx (S := [])).led g2
        have x05 := x04.sm' s5
        clear v1 v2 v3 v4 n1 n2 n3 n4 e0 s5 x04 g1 g2
        generalize upd (upd (upd (upd H4 q1 (.tup [V.int 0, V.int 1])) q2 (.tup [V.int 0, V.int 1])) q3 (.tup [V.int 0, V.int 1])) q4 (.tup [V.ref q1, V.ref q2, V.ref q3]) = H5 at *
        refine ⟨_, DGet.k (k := Sum.inr n) g15, _, rfl, _, .ref Y.led, rfl, c5.ge, _, rfl, Y.led, _, rfl, DPut.k (k := Sum.inr n) g15 (by rw [led_len g25]; exact szl (by show s.ledgers.length < _; omega)), ?_⟩
        obtain ⟨x, hx, hd⟩ : ∃ x : Rat × Rat × Rat, (putL s.ledgers n x = if (getL s.ledgers n).isSome = true then s.ledgers else putL s.ledgers n (0, 0, 0)) ∧ Dp K H5 ((valV kv (Sum.inr n)).getD (.ref q4)) (ledD x) := by
          rcases led_val g25 n with ⟨e1, e2⟩ | ⟨x, v, e1, e2, e3⟩
          · have e1 : getL s.ledgers n = none := e1
            refine ⟨(0, 0, 0), by rw [e1]; rfl, by rw [e2]; exact d0⟩
          · have e1 : getL s.ledgers n = some x := e1
            refine ⟨x, ?_, by rw [e2]; exact e3⟩
            rw [e1]
            exact putL_same nc.ln e1
        have c6 : MAt K (upd H5 Y.led (.dK (putK kv (Sum.inr n) ((valV kv (Sum.inr n)).getD (.ref q4))))) m Y bs (putL lp n p) (putL la n false) { s with row := n :: s.row, tempos := putL s.tempos n p, ledgers := putL s.ledgers n x } ts := c5.set_led (led_put (n := n) g25 hd)
        rw [hx] at c6
        have x6 : Sx T (ownM m Y bs) H5 (upd H5 Y.led (.dK (putK kv (Sum.inr n) ((valV kv (Sum.inr n)).getD (.ref q4))))) := sx_upd g15 rfl (by simp [ownM])
        have x06 := x05.step x6
        clear x6 x05 hd g15 g25 d0
        generalize upd H5 Y.led (.dK (putK kv (Sum.inr n) ((valV kv (Sum.inr n)).getD (.ref q4)))) = H6 at *
        refine ⟨_, rfl, m, Y, bs, _, _, _, ts, rfl, c6, by omega, by show s.loads.length ≤ 1000; omega, by show s.spots.length ≤ 1000; omega, hts, fun b H7 x7 nb c7 => ?_⟩
        have x07 := x06.step x7
        have hbl := c.ta.len
        refine ⟨_, rfl, _, .ref Y.tl, rfl, c7.gt, Y.tl, _, rfl, .inl (SqL.of c7.tl), _, _, rfl, rfl, by show 2 ≤ sizeLine; decide, fun t nt => ?_⟩
        have u8 := same_upd (T := T) (o := HO.tup [V.str "", V.int (((bs ++ [b]).map V.ref).length - 1 : Int)]) nt
        refine k2 eW t b _ _ _ (x07.sm' u8) (x06.free _ nb) (c7.sm u8) ⟨fun n' hn' => ?_, fun n' hn' => ?_⟩ (putL_len _ _ _) (putL_len _ _ _) ?_
        · show getL (putL lp n p) n' = getL (putL s.tempos n p) n'
          rw [getL_put, getL_put]
          split
          · rfl
          · rename_i hne
            have hn' : n' ∈ n :: s.row := hn'
            exact mo.lp_ n' ((List.mem_cons.mp hn').resolve_left fun z => hne z.symm)
        · show getL (putL la n false) n' = some (decide (n' ∈ s.leaving))
          rw [getL_put]
          split
          · rename_i e
            rw [decide_eq_false (fun z => hm (by rw [e]; exact nc.lr _ z))]
          · rename_i hne
            have hn' : n' ∈ n :: s.row := hn'
            exact mo.la_ n' ((List.mem_cons.mp hn').resolve_left fun z => hne z.symm)
        · have el : (((bs ++ [b]).map V.ref).length : Int) - 1 = (s.marks.length : Int) := by
            rw [List.length_map, List.length_append]
            have : [b].length = 1 := rfl
            omega
          rw [upd_same]
          dsimp only
          rw [el]

/-! ### all that is told -/
def tsOf (s : Ch) : List (List Tl) := (List.range s.marks.length).map (storyM s)
theorem depOk_tls {n : Nat} {l : List Tl} (h : l.length ≤ 9000) : depOk (n + 3) (.list (l.map tlD)) = true := by
  show (decide ((l.map tlD).length ≤ 9000) && (l.map tlD).all (depOk (n + 2))) = true
  rw [List.length_map, decide_eq_true h, Bool.true_and, List.all_map]
  refine List.all_eq_true.mpr fun x _ => ?_
  show (decide (([PyData.str x.1, amD (am x.2.1), amD (am x.2.2)] : List PyData).length ≤ 9000) && ([PyData.str x.1, amD (am x.2.1), amD (am x.2.2)] : List PyData).all (depOk (n + 1))) = true
  cases n <;> rfl
theorem stRows_len (l : List (Str × Rat)) : (stRows l).length ≤ l.length := stFold_len l
theorem dpa_strs {K : PySem.W.Frag} {H : Hp} : ∀ l : List Str, DpAll K H (l.map V.str) (l.map PyData.str)
  | [] => .nil
  | n :: l => .cons (.str n) (dpa_strs l)
theorem dp_strs {K : PySem.W.Frag} {H : Hp} {a : Addr} {l : List Str} (h : SqL K H a (l.map V.str)) : Dp K H (.ref a) (.list (l.map PyData.str)) := .lst h (dpa_strs l)
theorem depOk_strs {n : Nat} {l : List Str} (h : l.length ≤ 9000) : depOk (n + 1) (.list (l.map PyData.str)) = true := by
  show (decide ((l.map PyData.str).length ≤ 9000) && (l.map PyData.str).all (depOk n)) = true
  rw [List.length_map, decide_eq_true h, Bool.true_and, List.all_map]
  exact List.all_eq_true.mpr fun x _ => by cases n <;> rfl
theorem idx_nd {l : List Str} (h : l.Nodup) {i : Nat} (hi : i < l.length) : l.idxOf l[i] = i := by
  have hl : l.idxOf l[i] < l.length := List.idxOf_lt_length_of_mem (List.getElem_mem hi)
  refine (List.getElem_inj (h₀ := hl) (h₁ := hi) h).mp ?_
  exact List.getElem_idxOf hl
/-- how a chain stands that can be asked -/
structure Ask (s : Ch) : Prop where
  ll : s.loads.length = s.row.length
  ls : s.spots.length = s.row.length
  n8 : s.row.length ≤ 8
  nd : s.row.Nodup
  tp : ∀ n ∈ s.row, (getL s.tempos n).isSome = true
  ml : s.marks.length ≤ 5000
  mm : ∀ m ∈ s.marks, m.length ≤ 4000
  pl : s.poured.length ≤ 9000
  gl : s.ledgers.length ≤ 9000
  ln : (s.ledgers.map (·.1)).Nodup
theorem story_len {s : Ch} (a : Ask s) (k : Nat) : (storyM s k).length ≤ 9000 := by
  have b := stRows_len (s.marks.getD k [] ++ bearer s k)
  rw [List.length_append] at b
  have c : (bearer s k).length ≤ 1 := by unfold bearer; split <;> simp
  have d : (s.marks.getD k []).length ≤ 4000 := by
    rcases Nat.lt_or_ge k s.marks.length with z | z
    · rw [getD_lt z]; exact a.mm _ (List.getElem_mem z)
    · rw [List.getD_eq_getElem?_getD, List.getElem?_eq_none z]; exact Nat.zero_le _
  unfold storyM
  omega
def sp_l_full_story (K : PySem.W.Frag) (T : Tb) (CC : Addr) : Sp := fun vs H Q _ => ∃ c A s m Y bs lp la k, vs = [.ref c, .ref m, .int (k : Nat)] ∧ ChAt K CC H c A s ∧ MAt K H m Y bs lp la s (tsOf s) ∧ Ask s ∧ k < s.marks.length ∧ ∀ H', Sm T H H' → Q (.bl true) H'
theorem ok_l_full_story {f : Addr} {fd : FuncData} (F : Fun K "_law_full_story" "_law_full_story" s_l_full_story f fd) {CP : Addr} {CC : Addr} (TC : Kl K CC) (F_l_same : Fn P w K mg base 6 "_law_same" ["_law_found", "_law_due"] (sp_l_same K T)) (M_story : Mx P w K mg base CC 4 "story" ["self", "pail"] (sp_p_Chain_story K T CP CC)) : FnOk P w K mg base CX0 7 f fd ["_law_line", "_law_m", "_law_number"] (sp_l_full_story K T CC) := by
  refine F.ok sc_l_full_story (fun vs H Q E h => ?_) (fun cdv A outer s H vs Q E hr h => ?_)
  · obtain ⟨c, A, s, m, Y, bs, lp, la, k, rfl, _⟩ := h
    rfl
  · obtain ⟨c, A, s, m, Y, bs, lp, la, k, rfl, ch, ma, ask, hk, q⟩ := h
    refine ⟨_, (pss_one (ps_ret (pe_fn F_l_same (hr.mono (by decide)) (pa_cons (pe_mx_ M_story TC.cl (hr.mono (by decide)) (pv 0) (pa_cons (pv 2) pa_nil)) (pa_cons (pe_ix ix_list (pe_dget (hu_of hr) (pv 1) pe_str (fun _ _ => rfl)) (pv 2) (fun _ _ => rfl)) pa_nil))))), ?_⟩
    refine ⟨_, rfl, c, _, _, rfl, ch.ins, fl_no (by decide +kernel), _, rfl, c, A, s, k, rfl, ch, ask.ll, ask.ls, by have := ask.n8; omega, ask.mm, fun j hj hjl p H1 ws s1 np ep hw => ?_, fun z => absurd ⟨by omega, by omega⟩ z⟩
    have hj : j = k := by omega
    subst hj
    have m1 := ma.sm s1
    obtain ⟨b, us, gb, eb, hu⟩ := m1.ta.at (i := j) (t := storyM s j) (by unfold tsOf; rw [List.getElem?_map, List.getElem?_range hjl]; rfl)
    refine ⟨_, rfl, _, .ref Y.tl, rfl, m1.gt, _, rfl, Y.tl, _, _, .ref b, rfl, rfl, SqL.of m1.tl, at_of (j := j) rfl (by rw [List.getElem?_map, gb]; rfl), ?_⟩
    exact ⟨_, _, .list ((storyM s j).map tlD), rfl, .lst (SqL.of ep) hw, .lst (SqL.of eb) hu, depOk_tls (story_len ask j), fun H2 s2 => q H2 (s1.trans s2)⟩
theorem okP_frz {H : Hp} {p : Addr × Option Str} {a : Addr} {od : Obj} {o u : HO} (h : OkP H p) (ha : H a = some (.frz od u)) : OkP (upd H a o) p := by
  have k : ∀ b v, H b = some v → (∀ od u, v ≠ .frz od u) → upd H a o b = some v := fun b v e n => by
    rw [upd_ne (fun z => by rw [z, ha] at e; cases e; exact n _ _ rfl)]
    exact e
  obtain ⟨Q, q⟩ := p
  cases q with
  | none =>
    obtain ⟨ps, h1, h2⟩ := (show GxR.TabG H Q from h)
    exact ⟨ps, k _ _ h1 (fun _ _ z => by cases z), h2⟩
  | some q =>
    obtain ⟨ps, h1, h2, h3⟩ := (show LamX.TabS H Q q from h)
    refine ⟨ps, k _ _ h1 (fun _ _ z => by cases z), h2, fun pos cv hc => ?_⟩
    obtain ⟨c, e1, e2⟩ := h3 pos cv hc
    exact ⟨c, e1, k _ _ e2 (fun _ _ z => by unfold LamX.CodeO at z; cases z)⟩
/-- a dict that was walked stands as before -/
theorem lock_back {T : Tb} {H H' : Hp} {d : Addr} {od : Obj} {u : HO} (hd : H d = some u) (x : Sx T [d] H H') (hd' : H' d = some (.frz od u)) : Sm T H (upd H' d u) := by
  refine ⟨fun b o e n => ?_, fun hk q hq => okP_frz (x.ok hk q hq) hd', fun l hl => ?_⟩
  · by_cases z : b = d
    · rw [z] at e ⊢
      rw [upd_same, ← hd, e]
    · rw [upd_ne z]
      exact x.keep b o e n (.inr (by simp [z]))
  · by_cases z : l = d
    · rw [z, upd_same] at hl; cases hl
    · rw [upd_ne z] at hl
      exact x.free l hl
theorem getL_nd {α : Type} {l : List (Str × α)} (nd : (l.map (·.1)).Nodup) {i : Nat} (hi : i < l.length) : getL l (l[i]).1 = some (l[i]).2 := by
  unfold getL
  cases e : l.find? (fun x => decide (x.1 = (l[i]).1)) with
  | none =>
    have := List.find?_eq_none.mp e _ (List.getElem_mem hi)
    simp at this
  | some y =>
    have hm := List.mem_of_find?_eq_some e
    have hk : y.1 = (l[i]).1 := by have := List.find?_some e; simpa using this
    obtain ⟨j, hj, ej⟩ := List.getElem_of_mem hm
    have : j = i := nd_ix nd (x := (l[i]).1) (by rw [List.getElem?_map, List.getElem?_eq_getElem hj, ej, Option.map_some, hk]) (by rw [List.getElem?_map, List.getElem?_eq_getElem hi]; rfl)
    subst this
    rw [Option.map_some, ← ej]
def sp_l_stands (K : PySem.W.Frag) (T : Tb) (CC : Addr) : Sp := fun vs H Q _ => ∃ c A s m Y bs lp la, vs = [.ref c, .ref m] ∧ ChAt K CC H c A s ∧ MAt K H m Y bs lp la s (tsOf s) ∧ MOk lp la s ∧ Ask s ∧ (∀ x ∈ ownC c A, x ∉ ownM m Y bs) ∧ ∀ H', Sm T H H' → Q (.bl true) H'
theorem ok_l_stands {f : Addr} {fd : FuncData} (F : Fun K "_law_stands" "_law_stands" s_l_stands f fd) (B : Bn mg) {CP : Addr} {CC : Addr} (TC : Kl K CC) (M_hands : Mt P w K mg base CC 1 "hands" ["self"] (sp_p_Chain_hands K T CC)) (M_emptied : Mt P w K mg base CC 1 "emptied" ["self"] (sp_p_Chain_emptied K T CC)) (M_pails : Mt P w K mg base CC 1 "pails" ["self"] (sp_p_Chain_pails K T CC)) (M_place : Mx P w K mg base CC 5 "place" ["self", "name"] (sp_p_Chain_place K T CP CC)) (M_ledger : Mx P w K mg base CC 4 "ledger" ["self", "name"] (sp_p_Chain_ledger K T CP CC)) (M_hour : Mt P w K mg base CC 1 "hour" ["self"] (sp_p_Chain_hour K T CC)) (F_l_same : Fn P w K mg base 6 "_law_same" ["_law_found", "_law_due"] (sp_l_same K T)) (M_called : Mt P w K mg base CC 1 "called" ["self"] (sp_p_Chain_called K T CC)) (M_pace : Mx P w K mg base CC 5 "pace" ["self", "name"] (sp_p_Chain_pace K T CP CC)) (M_pail : Mx P w K mg base CC 5 "pail" ["self", "name"] (sp_p_Chain_pail K T CP CC)) (F_l_full_story : Fn P w K mg base 7 "_law_full_story" ["_law_line", "_law_m", "_law_number"] (sp_l_full_story K T CC)) : FnOk P w K mg base CX0 8 f fd ["_law_line", "_law_m"] (sp_l_stands K T CC) := by
  refine F.ok sc_l_stands (fun vs H Q E h => ?_) (fun cdv A outer s H vs Q E hr h => ?_)
  · obtain ⟨c, A, s, m, Y, bs, lp, la, rfl, _⟩ := h
    rfl
  · obtain ⟨c, A, s, m, Y, bs, lp, la, rfl, ch, ma, mo, ask, hdj, q⟩ := h
    refine ⟨_, (pss_cons (ps_set (i := 2) sc_l_stands.nd rfl (.inl rfl) (pe_lst (pa_cons (pe_mt0 M_hour TC.cl (hr.mono (by decide)) (pv 0) ) (pa_cons (pe_mt0 M_hands TC.cl (hr.mono (by decide)) (pv 0) ) (pa_cons (pe_mt0 M_called TC.cl (hr.mono (by decide)) (pv 0) ) (pa_cons (pe_mt0 M_emptied TC.cl (hr.mono (by decide)) (pv 0) ) (pa_cons (pe_mt0 M_pails TC.cl (hr.mono (by decide)) (pv 0) ) pa_nil)))))))
      (pss_cons (ps_setLc (i := 4) (own := [("_law_name_here", 3)]) (g := (gName 3)) (by rfl) sc_l_stands.nd rfl rfl (sw_true rfl rfl rfl (by decide +kernel)) (pi_list (pe_dget (hu_of hr) (pv 1) pe_str (fun _ _ => rfl))) (blkOk_by (own := [("_law_name_here", 3)]) (N := ["_law_line", "_law_m", "_law_found", "_law_name_here", "_law_away", "_law_at", "_law_number", "_law_place"]) (sc := (defScope s_l_stands)) (by decide +kernel)) (fun _ _ _ _ _ => (pg_name (i := 3) sc_l_stands.nd rfl (.inl rfl))) (fun _ _ _ _ _ => (pts_one (pt_val (pe_dget (hu_of hr) (pe_dget (hu_of hr) (pv 1) pe_str (fun _ _ => rfl)) (pv 3) (fun _ _ => rfl))))) (fun _ _ _ _ _ => (pv 3)))
      (pss_cons (ps_if (pt_not (pt_val (pe_fn F_l_same (hr.mono (by decide)) (pa_cons (pv 2) (pa_cons (pe_lst (pa_cons (pe_dget (hu_of hr) (pv 1) pe_str (fun _ _ => rfl)) (pa_cons (pe_dget (hu_of hr) (pv 1) pe_str (fun _ _ => rfl)) (pa_cons (pv 4) (pa_cons (pe_dget (hu_of hr) (pv 1) pe_str (fun _ _ => rfl)) (pa_cons (pe_callB call_len_seq (by rfl) B.len_ (by decide +kernel) (pa_cons (pe_dget (hu_of hr) (pv 1) pe_str (fun _ _ => rfl)) pa_nil)) pa_nil)))))) pa_nil))))) (pss_one (ps_ret pe_bl)) pss_nil)
      (pss_cons (ps_for PassesOwn.never rfl (pi_range1 (by rfl) B.range_ (pa_cons (pe_callB call_len_seq (by rfl) B.len_ (by decide +kernel) (pa_cons (pe_dget (hu_of hr) (pv 1) pe_str (fun _ _ => rfl)) pa_nil)) pa_nil)) (pg_name (i := 5) sc_l_stands.nd rfl (.inl rfl))
      (pss_cons (ps_set (i := 3) sc_l_stands.nd rfl (.inl rfl) (pe_ix ix_list (pe_dget (hu_of hr) (pv 1) pe_str (fun _ _ => rfl)) (pv 5) (fun _ _ => rfl)))
      (pss_cons (ps_asg (pe_ix ix_list (pe_dget (hu_of hr) (pv 1) pe_str (fun _ _ => rfl)) (pv 5) (fun _ _ => rfl)) (pg_tup rfl (pgs_cons (pg_name (i := 6) sc_l_stands.nd rfl (.inl rfl)) (pgs_cons (pg_name (i := 7) sc_l_stands.nd rfl (.inl rfl)) pgs_nil))))
      (pss_one (ps_if (pt_not (pt_val (pe_fn F_l_same (hr.mono (by decide)) (pa_cons (pe_lst (pa_cons (pe_mx_ M_pace TC.cl (hr.mono (by decide)) (pv 0) (pa_cons (pv 3) pa_nil)) (pa_cons (pe_mx_ M_place TC.cl (hr.mono (by decide)) (pv 0) (pa_cons (pv 3) pa_nil)) (pa_cons (pe_mx_ M_pail TC.cl (hr.mono (by decide)) (pv 0) (pa_cons (pv 3) pa_nil)) pa_nil)))) (pa_cons (pe_lst (pa_cons (pe_dget (hu_of hr) (pe_dget (hu_of hr) (pv 1) pe_str (fun _ _ => rfl)) (pv 3) (fun _ _ => rfl)) (pa_cons (pv 7) (pa_cons (pv 6) pa_nil)))) pa_nil))))) (pss_one (ps_ret pe_bl)) pss_nil)))))
      (pss_cons (ps_lock (ps_for PassesOwn.never rfl (pi_keys (pe_dget (hu_of hr) (pv 1) pe_str (fun _ _ => rfl))) (pg_name (i := 3) sc_l_stands.nd rfl (.inl rfl))
      (pss_one (ps_if (pt_not (pt_val (pe_fn F_l_same (hr.mono (by decide)) (pa_cons (pe_mx_ M_ledger TC.cl (hr.mono (by decide)) (pv 0) (pa_cons (pv 3) pa_nil)) (pa_cons (pe_dget (hu_of hr) (pe_dget (hu_of hr) (pv 1) pe_str (fun _ _ => rfl)) (pv 3) (fun _ _ => rfl)) pa_nil))))) (pss_one (ps_ret pe_bl)) pss_nil))))
      (pss_one (ps_ret (pe_callB (cr_all rfl) (by rfl) B.all_ (by decide +kernel) (pa_cons (pe_lc (own := [("_law_number", 6)]) (g := (gName 6)) (tt := tYes) (by rfl) sc_l_stands.nd (pi_range1 (by rfl) B.range_ (pa_cons (pe_callB call_len_seq (by rfl) B.len_ (by decide +kernel) (pa_cons (pe_dget (hu_of hr) (pv 1) pe_str (fun _ _ => rfl)) pa_nil)) pa_nil)) (blkOk_by (own := [("_law_number", 6)]) (N := ["_law_line", "_law_m", "_law_found", "_law_name_here", "_law_away", "_law_at", "_law_number", "_law_place"]) (sc := (defScope s_l_stands)) (by decide +kernel)) (fun _ _ _ _ _ => (pg_name (i := 6) sc_l_stands.nd rfl (.inl rfl))) (fun _ _ _ _ _ => pts_nil) (fun _ _ _ _ _ => (pe_fn F_l_full_story (hr.mono (by decide)) (pa_cons (pv 0) (pa_cons (pv 1) (pa_cons (pv 6) pa_nil)))))) pa_nil))))))))), ?_⟩
    have n8 := ask.n8
    refine ⟨_, rfl, c, _, _, rfl, ch.ins, fl_no (by decide +kernel), c, A, s, rfl, ch, fun q1 e1 => ?_⟩
    refine ⟨_, rfl, c, _, _, rfl, ch.ins, fl_no (by decide +kernel), c, A, s, rfl, ch, fun p2 H2 s2 n2 e2 => ?_⟩
    have ch2 := ch.sm s2
    refine ⟨_, rfl, c, _, _, rfl, ch2.ins, fl_no (by decide +kernel), c, A, s, rfl, ch2, by omega, fun p3 H3 s3 n3 e3 => ?_⟩
    have ch3 := ch2.sm s3
    refine ⟨_, rfl, c, _, _, rfl, ch3.ins, fl_no (by decide +kernel), c, A, s, rfl, ch3, fun p4 H4 s4 n4 e4 => ?_⟩
    have ch4 := ch3.sm s4
    refine ⟨_, rfl, c, _, _, rfl, ch4.ins, fl_no (by decide +kernel), c, A, s, rfl, ch4, by show 5 ≤ sizeLine; decide, fun l5 n5 => ?_⟩
    have u5 := same_upd (T := T) (o := HO.lst [V.ref q1, V.ref p2, V.ref p3, V.ref p4, V.int s.marks.length]) n5
    have el5 : upd H4 l5 (.lst [V.ref q1, V.ref p2, V.ref p3, V.ref p4, V.int s.marks.length]) l5 = some (.lst [V.ref q1, V.ref p2, V.ref p3, V.ref p4, V.int s.marks.length]) := upd_same
    have e15 := same_tup (s2.trans (s3.trans (s4.trans u5))) e1
    have e25 := (s3.trans (s4.trans u5)).k e2
    have e35 := (s4.trans u5).k e3
    have e45 := u5.k e4
    have s05 := s2.trans (s3.trans (s4.trans u5))
    have ch5 := ch.sm s05
    have ma5 := ma.sm s05
    clear u5 n5 e1 e2 e3 e4 s4 s3 s2 n2 n3 n4 ch2 ch3 ch4
    generalize upd H4 l5 (.lst [V.ref q1, V.ref p2, V.ref p3, V.ref p4, V.int s.marks.length]) = H5 at *
    dsimp only [gName]
    refine ⟨_, rfl, _, .ref Y.row, rfl, ma5.gr, Y.row, rfl, ⟨_, SqL.of ma5.row⟩, fun D hD => lc_list (K := K) (a := Y.row) (xs := s.row.map V.str) (Qd := _) (fun i H' => Sm T H5 H' ∧ H' D = some (.lst (((s.row.take i).filter fun n => decide (n ∈ s.leaving)).map V.str))) ⟨same_upd hD, upd_same⟩ (fun i H' _ ⟨sm, _⟩ => SqL.of (sm.k ma5.row)) ?_ ?_⟩
    · rintro i v H' hi ⟨sm, eD⟩
      rw [List.getElem?_map] at hi
      obtain ⟨n, hq, rfl⟩ : ∃ n, s.row[i]? = some n ∧ V.str n = v := Option.map_eq_some_iff.mp hi
      have hil := (List.getElem?_eq_some_iff.mp hq).1
      have ma' := ma5.sm sm
      have ev : valV (awV la) (Sum.inr n) = some (.bl (decide (n ∈ s.leaving))) := by rw [val_aw, mo.la_ n (List.mem_of_getElem? hq)]; rfl
      have lt : ((s.row.take i).filter fun n => decide (n ∈ s.leaving)).length ≤ 1000 := Nat.le_trans (List.length_filter_le _ _) (by rw [List.length_take]; omega)
      refine ⟨rfl, ?_⟩
      refine ⟨_, rfl, _, .ref Y.aw, rfl, ma'.ga, _, rfl, Y.aw, _, rfl, by rw [← ev]; exact DGet.k (k := Sum.inr n) ma'.aw, _, rfl, ?_⟩
      rw [List.take_add_one, hq, List.filter_append, List.map_append]
      by_cases hm : n ∈ s.leaving
      · rw [decide_eq_true hm]
        refine iteT ⟨_, rfl, _, eD, by rw [List.length_map]; exact szl (by omega), same_mut sm hD eD, ?_⟩
        rw [upd_same]
        show _ = some (HO.lst (_ ++ List.map V.str (List.filter (fun n => decide (n ∈ s.leaving)) [n])))
        rw [List.filter_cons, if_pos (decide_eq_true hm)]
        rfl
      · rw [decide_eq_false hm]
        refine iteF ⟨sm, ?_⟩
        rw [eD]
        show _ = some (HO.lst (_ ++ List.map V.str (List.filter (fun n => decide (n ∈ s.leaving)) [n])))
        rw [List.filter_cons, if_neg (fun z => hm (of_decide_eq_true z))]
        simp
    · rintro H6 ⟨s6, eD⟩
      rw [List.length_map, List.take_length] at eD
      have ma6 := ma5.sm s6
      have lts : bs.length = s.marks.length := by rw [ma.ta.len]; unfold tsOf; rw [List.length_map, List.length_range]
      dsimp only [gName]
      refine ⟨_, rfl, _, rfl, _, .ref Y.clk, rfl, ma6.gc, _, rfl, _, .ref Y.row, rfl, ma6.gr, _, rfl, _, rfl, _, .ref Y.gn, rfl, ma6.gg, _, rfl, _, .ref Y.tl, rfl, ma6.gt, Y.tl, _, rfl, .inl (SqL.of ma6.tl), by show 5 ≤ sizeLine; decide, fun l7 n7 => ?_⟩
      rw [List.length_map, lts]
      have u7 := same_upd (T := T) (o := HO.lst [V.ref Y.clk, V.ref Y.row, V.ref D, V.ref Y.gn, V.int s.marks.length]) n7
      have el7 : upd H6 l7 (.lst [V.ref Y.clk, V.ref Y.row, V.ref D, V.ref Y.gn, V.int s.marks.length]) l7 = some (.lst [V.ref Y.clk, V.ref Y.row, V.ref D, V.ref Y.gn, V.int s.marks.length]) := upd_same
      have s57 := s6.trans u7
      have ma7 := ma5.sm s57
      have eD7 := u7.k eD
      clear u7 n7 eD s6 ma6
      generalize upd H6 l7 (.lst [V.ref Y.clk, V.ref Y.row, V.ref D, V.ref Y.gn, V.int s.marks.length]) = H7 at *
      refine ⟨.ref l5, .ref l7, .list [amD (am s.now), .list (s.row.map PyData.str), .list ((s.row.filter fun n => decide (n ∈ s.leaving)).map PyData.str), .list (s.poured.map PyData.int), .int s.marks.length], rfl, .lst (SqL.of (s57.k el5)) (.cons (amD_dp (same_tup s57 e15)) (.cons (dp_strs (SqL.of (s57.k e25))) (.cons (dp_strs (SqL.of (s57.k e35))) (.cons (dp_ints (SqL.of (s57.k e45))) (.cons (.int _) .nil))))), .lst (SqL.of el7) (.cons (amD_dp ma7.clk) (.cons (dp_strs (SqL.of ma7.row)) (.cons (dp_strs (SqL.of eD7)) (.cons (dp_ints (SqL.of ma7.gn)) (.cons (.int _) .nil))))), ?_, fun H8 s8 => ?_⟩
      · show (decide (([amD (am s.now), .list (s.row.map PyData.str), .list ((s.row.filter fun n => decide (n ∈ s.leaving)).map PyData.str), .list (s.poured.map PyData.int), .int s.marks.length] : List PyData).length ≤ 9000) && ([amD (am s.now), .list (s.row.map PyData.str), .list ((s.row.filter fun n => decide (n ∈ s.leaving)).map PyData.str), .list (s.poured.map PyData.int), .int s.marks.length] : List PyData).all (depOk 4)) = true
        rw [List.all_cons, List.all_cons, List.all_cons, List.all_cons, depOk_strs (n := 3) (by omega), depOk_strs (n := 3) (Nat.le_trans (List.length_filter_le _ _) (by omega)), depOk_ints (n := 3) ask.pl]
        rfl
      · have s58 := s57.trans s8
        have s08 := s05.trans s58
        have ch8 := ch.sm s08
        have ma8 := ma.sm s08
        clear e15 e25 e35 e45 el5 el7 eD7 ma7 ma5 ch5 s57 s8 s58 s05
        refine ⟨_, rfl, iteF ?_⟩
        refine ⟨_, rfl, _, .ref Y.row, rfl, ma8.gr, Y.row, _, rfl, .inl (SqL.of ma8.row), _, rfl, by rw [List.length_map]; omega, by rw [List.length_map]; omega, for_range (lo := 0) (n := (s.row.map V.str).length) (fun i σ H' => Sm T H8 H' ∧ ∃ x2 x3 x4 x5 x6 x7, σ = [some (.ref c), some (.ref m), x2, x3, x4, x5, x6, x7]) ⟨Sm.refl, _, _, _, _, _, _, rfl⟩ ?_ ?_⟩
        · rintro i σ H9 hi ⟨s9, x2, x3, x4, x5, x6, x7, rfl⟩
          rw [List.length_map] at hi
          have ch9 := ch8.sm s9
          have ma9 := ma8.sm s9
          obtain ⟨us, l1, l2⟩ := ma9.ld
          have hll := ask.ll
          have hls := ask.ls
          have gr : (s.row.map V.str)[i]? = some (.str s.row[i]) := by rw [List.getElem?_map, List.getElem?_eq_getElem hi]; rfl
          obtain ⟨v, f1, f2⟩ := dpa_get l2 (i := i) (d := loD (s.loads[i], s.spots[i])) (by rw [List.getElem?_map, List.getElem?_eq_getElem (by rw [List.length_zip]; omega), List.getElem_zip]; rfl)
          obtain ⟨b, qp, rfl, hb, hq⟩ : ∃ b qp, v = .ref b ∧ SqT K H9 b [.int s.loads[i], .ref qp] ∧ SqT K H9 qp (tv (am s.spots[i])) := by
            cases f2 with
            | tup hs hall =>
              cases hall with
              | cons h1 h2 =>
                cases h1
                cases h2 with
                | cons h3 h4 =>
                  obtain ⟨qp, rfl, e⟩ := pd_at h3
                  cases h4
                  exact ⟨_, qp, rfl, hs, e⟩
          have hmem : s.row[i] ∈ s.row := List.getElem_mem hi
          have hix : s.row.idxOf s.row[i] = i := idx_nd ask.nd hi
          obtain ⟨pc, hpc⟩ := Option.isSome_iff_exists.mp (ask.tp _ hmem)
          have evp : valV (tmV lp) (Sum.inr s.row[i]) = some (.int pc) := by rw [val_tm, mo.lp_ _ hmem, hpc]; rfl
          refine ⟨_, rfl, _, .ref Y.row, rfl, ma9.gr, _, rfl, Y.row, _, _, _, rfl, rfl, SqL.of ma9.row, at_of (j := i) (by omega) gr, ?_⟩
          dsimp only [gName, List.set]
          refine ⟨_, rfl, _, .ref Y.ld, rfl, ma9.gd, _, rfl, Y.ld, _, _, .ref b, rfl, rfl, SqL.of l1, at_of (j := i) (by omega) f1, ?_⟩
          refine ⟨b, _, rfl, hb, rfl, _, _, rfl, _, _, rfl, rfl, ?_⟩
          dsimp only [List.set]
          refine ⟨_, rfl, c, _, _, rfl, ch9.ins, fl_no (by decide +kernel), _, rfl, c, A, s, s.row[i], rfl, ch9, fun _ => ⟨pc, hpc, ?_⟩, fun z => absurd hmem z⟩
          refine ⟨_, rfl, c, _, _, rfl, ch9.ins, fl_no (by decide +kernel), _, rfl, c, A, s, s.row[i], rfl, ch9, hls, fun _ q9 e9 => ?_, fun z => absurd hmem z⟩
          refine ⟨_, rfl, c, _, _, rfl, ch9.ins, fl_no (by decide +kernel), _, rfl, c, A, s, s.row[i], rfl, ch9, hll, fun _ => ?_, fun z => absurd hmem z⟩
          rw [hix, getD_lt (show i < s.spots.length by omega)] at e9
          rw [hix, getD_lt (show i < s.loads.length by omega)]
          refine ⟨by show 3 ≤ sizeLine; decide, fun la1 na1 => ?_⟩
          have u1 := same_upd (T := T) (o := HO.lst [V.int pc, V.ref q9, V.int s.loads[i]]) na1
          have ma10 := ma9.sm u1
          refine ⟨_, rfl, _, .ref Y.pc, rfl, ma10.gp, _, rfl, Y.pc, _, rfl, by rw [← evp]; exact DGet.k (k := Sum.inr s.row[i]) ma10.pc, _, rfl, _, rfl, by show 3 ≤ sizeLine; decide, fun la2 na2 => ?_⟩
          have u2 := same_upd (T := T) (o := HO.lst [V.int pc, V.ref qp, V.int s.loads[i]]) na2
          have u12 := u1.trans u2
          refine ⟨.ref la1, .ref la2, .list [.int pc, amD (am s.spots[i]), .int s.loads[i]], rfl, .lst (SqL.of (u2.k upd_same)) (.cons (.int _) (.cons (amD_dp (same_tup u12 e9)) (.cons (.int _) .nil))), .lst (SqL.of upd_same) (.cons (.int _) (.cons (amD_dp (same_tup u12 hq)) (.cons (.int _) .nil))), rfl, fun H11 s11 => ?_⟩
          exact ⟨_, rfl, iteF ⟨s9.trans (u12.trans s11), _, _, _, _, _, _, rfl⟩⟩
        · rintro σ H9 ⟨s9, x2, x3, x4, x5, x6, x7, rfl⟩
          have ch9 := ch8.sm s9
          have ma9 := ma8.sm s9
          have s09 := s08.trans s9
          clear ch8 ma8 s9 s08
          obtain ⟨kv, g1, g2⟩ := ma9.led
          have lkv := led_len g2
          have mY : m ∉ [Y.led] := ma9.ne (i := 0) (j := 7) rfl rfl (by decide)
          refine ⟨Y.led, _, g1, trivial, fun od => ?_⟩
          have xL : Sx T [Y.led] H9 (upd H9 Y.led (.frz od (.dK kv))) := sx_upd g1 rfl (by simp)
          have eL : upd H9 Y.led (.frz od (.dK kv)) Y.led = some (.frz od (.dK kv)) := upd_same
          have gm : ∀ {G : Hp}, Sx T [Y.led] H9 G → DGet G m (.str "led") (some (.ref Y.led)) := fun x => DGet.k (k := Sum.inr "led") (x.keep _ _ ma9.d trivial (.inr mY))
          have cY : ∀ x ∈ ownC c A, x ∉ [Y.led] := fun x hx z => hdj x hx (by rw [List.mem_singleton.mp z]; simp [ownM])
          generalize upd H9 Y.led (.frz od (.dK kv)) = HL at *
          refine ⟨_, rfl, m, .ref Y.led, rfl, gm xL, Y.led, od, rfl, .inl ⟨kv, eL, for_it walk_keys (fun i σ H' => Sx T [Y.led] H9 H' ∧ H' Y.led = some (.frz od (.dK kv)) ∧ ∃ x2 x3 x4 x5 x6 x7, σ = [some (.ref c), some (.ref m), x2, x3, x4, x5, x6, x7]) ⟨xL, eL, _, _, _, _, _, _, rfl⟩ (fun i σ H' _ h => h.2.1) ?_ ?_⟩⟩
          · rintro i x σ HA HB hi ⟨xA, eA, y2, y3, y4, y5, y6, y7, rfl⟩ ⟨eH, k, v, hk, rfl⟩
            subst eH
            have hil : i < s.ledgers.length := by omega
            have ekv : k = Sum.inr (s.ledgers[i]).1 := by
              have := congrArg (fun l => l[i]?) g2.1
              simp only [List.getElem?_map, hk, List.getElem?_eq_getElem hil, Option.map_some] at this
              exact Option.some.inj this
            subst ekv
            have gl := getL_nd ask.ln hil
            have chA := ch9.sx xA cY
            have ledA := xA.led g2
            obtain ⟨x, v2, f1, f2, f3⟩ : ∃ x v, getL s.ledgers (s.ledgers[i]).1 = some x ∧ valV kv (Sum.inr (s.ledgers[i]).1) = some v ∧ Dp K HB v (ledD x) := by
              rcases led_val ledA (s.ledgers[i]).1 with ⟨e1, _⟩ | h
              · rw [gl] at e1; cases e1
              · exact h
            refine ⟨_, rfl, c, _, _, rfl, chA.ins, fl_no (by decide +kernel), _, rfl, c, A, s, (s.ledgers[i]).1, rfl, chA, fun x' hx' v' hv' => ?_, fun z => by rw [gl] at z; cases z⟩
            rw [f1] at hx'
            cases hx'
            refine ⟨_, rfl, m, .ref Y.led, rfl, gm xA, _, rfl, Y.led, v2, rfl, .inl ⟨kv, Sum.inr (s.ledgers[i]).1, .inr ⟨od, eA⟩, rfl, f2.symm⟩, ?_⟩
            refine ⟨_, _, ledD x, rfl, hv', f3, rfl, fun HC sC => ?_⟩
            exact ⟨_, rfl, iteF ⟨xA.sm' sC, sC.keep _ _ eA trivial, _, _, _, _, _, _, rfl⟩⟩
          · rintro σ HA ⟨xA, eA, y2, y3, y4, y5, y6, y7, rfl⟩
            refine ⟨eA, ?_⟩
            have sB := lock_back g1 xA eA
            have s0B := s09.trans sB
            have chB := ch.sm s0B
            have maB := ma.sm s0B
            clear xA eA xL eL gm sB ma9 ch9 g1 g2 s09
            generalize upd HA Y.led (.dK kv) = HB at *
            refine ⟨_, rfl, _, .ref Y.tl, rfl, maB.gt, Y.tl, _, rfl, .inl (SqL.of maB.tl), _, rfl, by rw [List.length_map, lts]; have := ask.ml; omega, by rw [List.length_map, lts]; have := ask.ml; omega, fun Dl hDl => lc_range (lo := 0) (n := (bs.map V.ref).length) (Qd := _) (fun j H' => Sm T HB H' ∧ H' Dl = some (.lst ((List.replicate j true).map V.bl))) ⟨same_upd hDl, upd_same⟩ ?_ ?_⟩
            · rintro j H' hj ⟨sm, eDl⟩
              rw [List.length_map, lts] at hj
              refine ⟨rfl, tyes_i ?_⟩
              refine ⟨_, rfl, _, rfl, _, rfl, c, A, s, m, Y, bs, lp, la, j, by show [V.ref c, V.ref m, V.int (0 + (j : Int))] = _; rw [Int.zero_add], chB.sm sm, maB.sm sm, ask, hj, fun HC sC => ?_⟩
              have eDC := sC.k eDl
              refine ⟨_, eDC, by rw [List.length_map, List.length_replicate]; exact szl (by have := ask.ml; omega), same_mut (sm.trans sC) hDl eDC, ?_⟩
              rw [upd_same, List.replicate_succ', List.map_append]
              rfl
            · rintro H' ⟨sm, eDl⟩
              refine ⟨Dl, List.replicate (bs.map V.ref).length true, rfl, SqL.of eDl, ?_⟩
              rw [show (List.replicate (bs.map V.ref).length true).all id = true from by rw [List.all_replicate]; simp]
              exact q H' (s0B.trans sm)

/-! ### list.remove of a text -/
theorem str_beqL (x y : Str) : (x == y) = (x.cps.toList == y.cps.toList) := by
  by_cases h : x = y
  · subst h; simp
  · have h2 : x.cps.toList ≠ y.cps.toList := fun z => h (by
      obtain ⟨⟨a⟩⟩ := x
      obtain ⟨⟨b⟩⟩ := y
      exact congrArg (fun l => (⟨⟨l⟩⟩ : Str)) z)
    rw [beq_false_of_ne h, beq_false_of_ne h2]
def eqkS (k : Str) (v : Value) : Bool := match v with
  | .str n _ => n == k
  | _ => false
inductive StrsAre : List Value → List Str → Prop
  | nil : StrsAre [] []
  | cons (n : Str) (t : Tok) {us : List Value} {ns : List Str} (h : StrsAre us ns) : StrsAre (.str n t :: us) (n :: ns)
theorem strs_of_vals : ∀ {ns : List Str} {us : List Value}, Vals (ns.map V.str) us → StrsAre us ns
  | [], _, h => by cases h; exact .nil
  | n :: ns, _, h => by
    cases h with
    | cons h1 h2 =>
      obtain ⟨t, rfl⟩ := h1
      exact .cons n t (strs_of_vals h2)
theorem eqkS_gives {k : Str} {t : Tok} : ∀ {us : List Value} {ns : List Str}, StrsAre us ns → ∀ y ∈ us, MeetsSeq.EqGives y (.str k t) (eqkS k y)
  | _, _, .nil => fun y hy => (nomatch hy)
  | _, _, .cons n t' h => fun y hy => by
    rcases List.mem_cons.mp hy with e | e
    · rw [e]
      have g := SeqRoads2.EqGives.str n k t' t
      rw [← str_beqL] at g
      exact g
    · exact eqkS_gives h y e
theorem StrsAre.get : ∀ {us : List Value} {ns : List Str}, StrsAre us ns → ∀ (j : Nat) (k : Str), ns[j]? = some k → ∃ t, us[j]? = some (.str k t)
  | _, _, .nil, j, k, h => by simp at h
  | _, _, .cons n t h, 0, k, e => by cases e; exact ⟨t, rfl⟩
  | _, _, .cons n t h, j + 1, k, e => h.get j k e
def rRemS : V → List V → Hp → VK → Prop := fun x xs H Q => ∃ (l : Addr) (ns : List Str) (k : Str), x = .ref l ∧ xs = [.str k] ∧ H l = some (.lst (ns.map V.str)) ∧ k ∈ ns ∧ Q .non (upd H l (.lst ((ns.eraseIdx (ns.idxOf k)).map V.str)))
theorem mt_remS {X : Cx} : MtM X "list.remove" rRemS := by
  intro pn s0 σ₁ H x0 as0 v0 us0 R I rx0 rs0 hh
  obtain ⟨l, ns, k, rfl, rfl, hH, hk, q⟩ := hh
  cases rx0; obtain ⟨u, rfl, ru⟩ := rs0.one; obtain ⟨t, rfl⟩ := ru; obtain ⟨z, its, n, r, hl, e⟩ := I.lstM hH
  have hi := strs_of_vals r
  rw [List.length_map] at hl z
  have hjn : ns.idxOf k < ns.length := List.idxOf_lt_length_of_mem hk
  have hjl : ns.idxOf k < its.toArray.size := by rw [List.size_toArray]; omega
  refine call_meets PySem.F.slot_list_remove ⟨_, e, rfl⟩ PySem.F.entry_list_remove (PySem.F.args_list_remove_2 _ _) (MeetsSeq.list_remove l its.toArray n (.str k t) (eqkS k) (fun y hy => eqkS_gives hi y (by simpa using hy)) (ns.idxOf k) hjl ?_ ?_ (by rw [List.size_toArray]; omega)) ⟨e, ?_⟩
  · obtain ⟨tj, hjt⟩ := hi.get (ns.idxOf k) k (by rw [List.getElem?_eq_getElem hjn, List.getElem_idxOf])
    obtain ⟨g1, h2⟩ := List.getElem?_eq_some_iff.mp hjt
    have e1 : its.toArray[ns.idxOf k] = .str k tj := by simpa using h2
    rw [e1]
    show (k == k) = true
    simp
  · intro m hm hmj
    have hmn : m < ns.length := by omega
    obtain ⟨tm, hmt⟩ := hi.get m ns[m] (List.getElem?_eq_getElem hmn); obtain ⟨h1, h2⟩ := List.getElem?_eq_some_iff.mp hmt
    have e1 : its.toArray[m] = .str ns[m] tm := by simpa using h2
    rw [e1]
    have := List.not_of_lt_findIdx (p := (· == k)) (xs := ns) (i := m) hmj
    show (ns[m] == k) = false
    simpa using this
  · have rr := r.eraseIdx (ns.idxOf k)
    have em : ∀ (l : List Str) (j : Nat), (l.map V.str).eraseIdx j = (l.eraseIdx j).map V.str := fun l => by
      induction l with
      | nil => intro j; simp
      | cons a l ih =>
        intro j
        cases j with
        | zero => simp
        | succ j => simp [ih j]
    rw [em] at rr
    refine ⟨.non, _, I.lset (its' := its.eraseIdx (ns.idxOf k)) (t' := s0.toks) hH e ?_ rr ?_, rfl, q⟩
    · show its.toArray.eraseIdxIfInBounds (ns.idxOf k) = (its.eraseIdx (ns.idxOf k)).toArray
      exact List.eraseIdxIfInBounds_toArray ..
    · have z2 : (ns.eraseIdx (ns.idxOf k)).length ≤ ns.length := by rw [List.length_eraseIdx]; split <;> omega
      rw [List.length_map]
      omega

/-! ### called away, told to stay, a new pace -/
def callW (s : Ch) (n : Str) : Option Str := if n ∈ s.row then (if n ∈ s.leaving then some "called" else none) else some "no hand"
def callS (s : Ch) (n : Str) : Ch := { s with leaving := s.leaving ++ [n] }
def sp_p_Chain_call (K : PySem.W.Frag) (T : Tb) (CP CC : Addr) : Sp := fun vs H Q E => ∃ (c : Addr) (A : Ad) (s : Ch) (n : Str), vs = [.ref c, .str n] ∧ ChAt K CC H c A s ∧ s.leaving.length ≤ 1000 ∧
  (callW s n = none → ∀ H', Sx T (ownC c A) H H' → ChAt K CC H' c A (callS s n) → Q .non H') ∧ (∀ wd, callW s n = some wd → ∀ cls d H', Sm T H H' → Rf K CP wd cls d H' → E cls d H')
theorem ok_p_Chain_call {f : Addr} {fd : FuncData} (F : Fun K "call" "Chain.call" s_p_Chain_call f fd) {CP : Addr} (R_Called : Err P w K mg base CP "Called" "called") {CC : Addr} (TC : Kl K CC) (M_number_of : Mx P w K mg base CC 4 "number_of" ["self", "name"] (sp_p_Chain_number_of K T CP CC)) : FnOk P w K mg base (L2.CX P w) 5 f fd ["self", "name"] (sp_p_Chain_call K T CP CC) := by
  refine F.okX sc_p_Chain_call (fun vs H Q E h => ?_) (fun cdv A outer s H vs Q E hr h => ?_)
  · obtain ⟨c, A, s, n, rfl, _⟩ := h
    rfl
  · obtain ⟨c, A, s, n, rfl, h, hl, k1, k2⟩ := h
    refine ⟨_, (pss_cons (ps_expr (pe_mx M_number_of TC.cl (hr.mono (by decide)) (takes_of rfl rfl rfl rfl) (pv 0) (pa_cons (pv 1) pa_nil)))
      (pss_cons (ps_if (pt_cmpR op_in_seq (pv 1) (pe_fc TC.cl (TC.no "leaving" (by decide +kernel)) (pv 0)) (by rfl)) (pss_one (ps_raise rfl (takes_of rfl rfl rfl rfl) (pmk_err R_Called (hr.mono (by decide)) (by rfl)))) pss_nil)
      (pss_one (ps_expr (pe_bm PySem.F.plainAttrs_list PySem.F.slot_list_append PySem.F.type_list_append mt_append (pe_fc TC.cl (TC.no "leaving" (by decide +kernel)) (pv 0)) (pa_cons (pv 1) pa_nil)))))), ?_⟩
    refine ⟨_, rfl, c, _, _, rfl, h.ins, fl_no (by decide +kernel), _, rfl, c, A, s, n, rfl, h, fun hm => ?_, fun hm cls d H' s' rf => k2 "no hand" (by unfold callW; rw [if_neg hm]) cls d H' s' rf⟩
    refine ⟨_, rfl, _, rfl, c, _, _, _, rfl, h.ins, fl_lv, A.lv, _, rfl, .inl (SqL.of h.lv), rfl, flat_strs _, _, rfl, ?_⟩
    show if inV (.str n) (s.leaving.map V.str) = true then _ else _
    rw [inV_strs]
    by_cases hv : n ∈ s.leaving
    · rw [decide_eq_true hv]
      exact iteT fun cls dd hn' rf => k2 "called" (by unfold callW; rw [if_pos hm, if_pos hv]) cls (some dd) _ (same_upd hn') rf
    · rw [decide_eq_false hv]
      refine iteF ⟨_, rfl, c, _, _, _, rfl, h.ins, fl_lv, .inl ⟨rfl, _, SqL.of h.lv⟩, _, rfl, A.lv, _, _, rfl, rfl, h.lv, szl (by rw [List.length_map]; omega), ?_⟩
      have h2 := h.set_lv (s.leaving ++ [n])
      have x2 : Sx T (ownC c A) H (upd H A.lv (.lst ((s.leaving ++ [n]).map V.str))) := sx_upd h.lv rfl (by simp [ownC])
      rw [show s.leaving.map V.str ++ [V.str n] = (s.leaving ++ [n]).map V.str from by rw [List.map_append]; rfl]
      exact k1 (by unfold callW; rw [if_pos hm, if_neg hv]) _ x2 h2
def paceW (s : Ch) (n : Str) (p : Int) : Option Str := if n ∈ s.row then (if paceB p = true then none else some "bad pace") else some "no hand"
def paceS (s : Ch) (n : Str) (p : Int) : Ch := { s with tempos := putL s.tempos n p }
def sp_p_Chain_set_pace (K : PySem.W.Frag) (T : Tb) (CP CC : Addr) : Sp := fun vs H Q E => ∃ (c : Addr) (A : Ad) (s : Ch) (n : Str) (p : Int), vs = [.ref c, .str n, .int p] ∧ ChAt K CC H c A s ∧ s.tempos.length ≤ 1000 ∧
  (paceW s n p = none → ∀ H', Sx T (ownC c A) H H' → ChAt K CC H' c A (paceS s n p) → Q .non H') ∧ (∀ wd, paceW s n p = some wd → ∀ cls d H', Sm T H H' → Rf K CP wd cls d H' → E cls d H')
theorem ok_p_Chain_set_pace {f : Addr} {fd : FuncData} (F : Fun K "set_pace" "Chain.set_pace" s_p_Chain_set_pace f fd) {CP : Addr} {CC : Addr} (TC : Kl K CC) (F_p_check_pace : Fx P w K mg base 4 "check_pace" ["pace"] (sp_p_check_pace K T CP)) (M_number_of : Mx P w K mg base CC 4 "number_of" ["self", "name"] (sp_p_Chain_number_of K T CP CC)) : FnOk P w K mg base (L2.CX P w) 5 f fd ["self", "name", "pace"] (sp_p_Chain_set_pace K T CP CC) := by
  refine F.okX sc_p_Chain_set_pace (fun vs H Q E h => ?_) (fun cdv A outer s H vs Q E hr h => ?_)
  · obtain ⟨c, A, s, n, p, rfl, _⟩ := h
    rfl
  · obtain ⟨c, A, s, n, p, rfl, h, hl, k1, k2⟩ := h
    refine ⟨_, (pss_cons (ps_expr (pe_mx M_number_of TC.cl (hr.mono (by decide)) (takes_of rfl rfl rfl rfl) (pv 0) (pa_cons (pv 1) pa_nil)))
      (pss_cons (ps_expr (pe_fx F_p_check_pace (hr.mono (by decide)) (takes_of rfl rfl rfl rfl) (pa_cons (pv 2) pa_nil)))
      (pss_one (ps_dput (hu_of hr) (pe_fc TC.cl (TC.no "tempos" (by decide +kernel)) (pv 0)) (pv 1) (pv 2) rfl)))), ?_⟩
    refine ⟨_, rfl, c, _, _, rfl, h.ins, fl_no (by decide +kernel), _, rfl, c, A, s, n, rfl, h, fun hm => ?_, fun hm cls d H' s' rf => k2 "no hand" (by unfold paceW; rw [if_neg hm]) cls d H' s' rf⟩
    refine ⟨_, rfl, p, rfl, fun hp => ?_, fun hp cls d H' s' rf => k2 "bad pace" (by unfold paceW; rw [if_pos hm, hp]; rfl) cls d H' s' rf⟩
    refine ⟨_, rfl, _, rfl, c, _, _, _, rfl, h.ins, fl_tm, _, rfl, A.tm, _, rfl, DPut.k (k := Sum.inr n) h.tm (by unfold tmV; rw [List.length_map]; exact szl (by omega)), ?_⟩
    rw [put_tm]
    have h2 := h.set_tm (putL s.tempos n p)
    have x2 : Sx T (ownC c A) H (upd H A.tm (.dK (tmV (putL s.tempos n p)))) := sx_upd h.tm rfl (by simp [ownC])
    exact k1 (by unfold paceW; rw [if_pos hm, if_pos hp]) _ x2 h2
def stayW (s : Ch) (n : Str) : Option Str := if n ∈ s.row then (if n ∈ s.leaving then none else some "not called") else some "no hand"
def stayS (s : Ch) (n : Str) : Ch := { s with leaving := s.leaving.eraseIdx (s.leaving.idxOf n) }
def sp_p_Chain_stay (K : PySem.W.Frag) (T : Tb) (CP CC : Addr) : Sp := fun vs H Q E => ∃ (c : Addr) (A : Ad) (s : Ch) (n : Str), vs = [.ref c, .str n] ∧ ChAt K CC H c A s ∧
  (stayW s n = none → ∀ H', Sx T (ownC c A) H H' → ChAt K CC H' c A (stayS s n) → Q .non H') ∧ (∀ wd, stayW s n = some wd → ∀ cls d H', Sm T H H' → Rf K CP wd cls d H' → E cls d H')
theorem ok_p_Chain_stay {f : Addr} {fd : FuncData} (F : Fun K "stay" "Chain.stay" s_p_Chain_stay f fd) {CP : Addr} (R_NotCalled : Err P w K mg base CP "NotCalled" "not called") {CC : Addr} (TC : Kl K CC) (M_number_of : Mx P w K mg base CC 4 "number_of" ["self", "name"] (sp_p_Chain_number_of K T CP CC)) : FnOk P w K mg base (L2.CX P w) 5 f fd ["self", "name"] (sp_p_Chain_stay K T CP CC) := by
  refine F.okX sc_p_Chain_stay (fun vs H Q E h => ?_) (fun cdv A outer s H vs Q E hr h => ?_)
  · obtain ⟨c, A, s, n, rfl, _⟩ := h
    rfl
  · obtain ⟨c, A, s, n, rfl, h, k1, k2⟩ := h
    refine ⟨_, (pss_cons (ps_expr (pe_mx M_number_of TC.cl (hr.mono (by decide)) (takes_of rfl rfl rfl rfl) (pv 0) (pa_cons (pv 1) pa_nil)))
      (pss_cons (ps_if (pt_cmpR op_notIn_seq (pv 1) (pe_fc TC.cl (TC.no "leaving" (by decide +kernel)) (pv 0)) (by rfl)) (pss_one (ps_raise rfl (takes_of rfl rfl rfl rfl) (pmk_err R_NotCalled (hr.mono (by decide)) (by rfl)))) pss_nil)
      (pss_one (ps_expr (pe_bm PySem.F.plainAttrs_list PySem.F.slot_list_remove PySem.F.type_list_remove mt_remS (pe_fc TC.cl (TC.no "leaving" (by decide +kernel)) (pv 0)) (pa_cons (pv 1) pa_nil)))))), ?_⟩
    refine ⟨_, rfl, c, _, _, rfl, h.ins, fl_no (by decide +kernel), _, rfl, c, A, s, n, rfl, h, fun hm => ?_, fun hm cls d H' s' rf => k2 "no hand" (by unfold stayW; rw [if_neg hm]) cls d H' s' rf⟩
    refine ⟨_, rfl, _, rfl, c, _, _, _, rfl, h.ins, fl_lv, A.lv, _, rfl, .inl (SqL.of h.lv), rfl, flat_strs _, _, rfl, ?_⟩
    show if (!inV (.str n) (s.leaving.map V.str)) = true then _ else _
    rw [inV_strs]
    by_cases hv : n ∈ s.leaving
    · rw [decide_eq_true hv]
      refine iteF ⟨_, rfl, c, _, _, _, rfl, h.ins, fl_lv, .inl ⟨rfl, _, SqL.of h.lv⟩, _, rfl, A.lv, s.leaving, n, rfl, rfl, h.lv, hv, ?_⟩
      have h2 := h.set_lv (s.leaving.eraseIdx (s.leaving.idxOf n))
      have x2 : Sx T (ownC c A) H (upd H A.lv (.lst ((s.leaving.eraseIdx (s.leaving.idxOf n)).map V.str))) := sx_upd h.lv rfl (by simp [ownC])
      exact k1 (by unfold stayW; rw [if_pos hm, if_pos hv]) _ x2 h2
    · rw [decide_eq_false hv]
      exact iteT fun cls dd hn' rf => k2 "not called" (by unfold stayW; rw [if_pos hm, if_neg hv]) cls (some dd) _ (same_upd hn') rf

/-! ### xs[a:b] = ys as a line of a def -/
def sSlP (to : TE) (tl th : TO) (tv : TE) : TS := fun D σ H => tv σ H fun v H1 => to σ H1 fun x H2 => tl σ H2 fun p H3 => th σ H3 fun q H4 =>
  ∃ (l b : Addr) (xs ys : List V) (i j : Int), x = .ref l ∧ v = .ref b ∧ p = some i ∧ q = some j ∧ H4 l = some (.lst xs) ∧ H4 b = some (.lst ys) ∧ l ≠ b ∧ 0 ≤ i ∧ i ≤ j ∧ j ≤ xs.length ∧ xs.length + ys.length ≤ sizeLine ∧
    D.nx σ (upd H4 l (.lst (xs.take i.toNat ++ ys ++ xs.drop j.toNat)))
theorem ps_slp {X : Cx} {o value : Expr} {lo hi : Option Expr} {to tv : TE} {tl th : TO} {pos p2 pos' : Pos} (ho : PE X o to) (hl : PO X lo tl) (hh : PO X hi th) (hv : PE X value tv)
    (hs : swapsWith value (some (.Subscript o (.Slice lo hi none p2) pos')) pos.line X.env = pure false) : PS X (.Assign [.Subscript o (.Slice lo hi none p2) pos'] value pos) (sSlP to tl th tv) := by
  refine ⟨fun pins s0 σ0 H D I h => ?_⟩
  refine wpAny_Assign_Subscript (thn (hv.run pins s0 σ0 H _ I h) fun rv s1 ⟨v, H1, I1, r1, q1⟩ => thn (ho.run pins s1 σ0 H1 _ I1 q1) fun ru s2 ⟨x, H2, I2, r2, q2⟩ => ?_) hs
  refine wpAny_Slice (thn (hl.run pins s2 σ0 H2 _ I2 q2) fun vl s3 ⟨p, H3, I3, r3, q3⟩ => thn (hh.run pins s3 σ0 H3 _ I3 q3) fun vu s4 ⟨q, H4, I4, r4, q4⟩ => ?_)
  obtain ⟨l, b, xs, ys, i, j, rfl, rfl, rfl, rfl, g1, g2, ne, i0, ij, jn, sz, fin⟩ := q4
  cases r1; cases r2
  rw [evalPart_none]
  have I5 := I4.kept (h' := s4.heap.push { cls := .type "slice", data := .fields #[vl, vu, .none] }) (t' := s4.toks) fun _ _ z => Heap.get?_push_of_some _ z
  cases r3 with
  | int _ ta => cases r4 with
    | int _ tb => exact wpAny_pure (set_slice I5 g1 g2 ne (Heap.IsSliceOf.new ..) ⟨ta, rfl⟩ ⟨tb, rfl⟩ i0 ij jn sz fun s6 I6 => ⟨σ0, _, I6, fin⟩)

/-- at the place at the bearer is noted -/
def markS (s : Ch) (i : Nat) : Ch := { s with marks := s.marks.set (s.loads.getD i 0).toNat (s.marks.getD (s.loads.getD i 0).toNat [] ++ [(s.row.getD i "", s.spots.getD i 0)]) }
/-- lists side by side -/
structure Side (s : Ch) : Prop where
  ll : s.loads.length = s.row.length
  ls : s.spots.length = s.row.length
  n8 : s.row.length ≤ 8
  ld : ∀ l ∈ s.loads, 0 ≤ l ∧ l < (s.marks.length : Int)
theorem markS_side {s : Ch} (h : Side s) (i : Nat) : Side (markS s i) := ⟨h.ll, h.ls, h.n8, fun l hl => by
  show 0 ≤ l ∧ l < ((s.marks.set _ _).length : Int)
  rw [List.length_set]
  exact h.ld l hl⟩
theorem map_set_mk (l : List (List (Str × Rat))) (k : Nat) (m : List (Str × Rat)) : (l.set k m).map mkD = (l.map mkD).set k (mkD m) := by rw [List.map_set]
theorem dpa_set {K : PySem.W.Frag} {H : Hp} : ∀ {vs : List V} {ds : List PyData} {v : V} {d : PyData} (k : Nat), DpAll K H vs ds → Dp K H v d → DpAll K H (vs.set k v) (ds.set k d)
  | _, [], _, _, _, h, _ => by cases h; exact .nil
  | _, _ :: _, _, _, 0, h, g => by
    cases h with
    | cons h1 h2 => exact .cons g h2
  | _, _ :: _, _, _, k + 1, h, g => by
    cases h with
    | cons h1 h2 => exact .cons h1 (dpa_set k h2 g)
def sp_p_Chain_mark (K : PySem.W.Frag) (T : Tb) (CC : Addr) : Sp := fun vs H Q _ => ∃ (c : Addr) (A : Ad) (s : Ch) (i : Nat), vs = [.ref c, .int i] ∧ ChAt K CC H c A s ∧ Side s ∧ i < s.row.length ∧ (∀ m ∈ s.marks, m.length ≤ 5000) ∧ ∀ H', Sx T (ownC c A) H H' → ChAt K CC H' c A (markS s i) → Q .non H'
theorem ok_p_Chain_mark {f : Addr} {fd : FuncData} (F : Fun K "mark" "Chain.mark" s_p_Chain_mark f fd) {CC : Addr} (TC : Kl K CC) : FnOk P w K mg base CX0 1 f fd ["self", "at"] (sp_p_Chain_mark K T CC) := by
  refine F.ok sc_p_Chain_mark (fun vs H Q E h => ?_) (fun cdv A outer s H vs Q E hr h => ?_)
  · obtain ⟨c, A, s, i, rfl, _⟩ := h
    rfl
  · obtain ⟨c, A, s, i, rfl, h, sd, hi, hm, q⟩ := h
    refine ⟨_, (pss_cons (ps_set (i := 2) sc_p_Chain_mark.nd rfl (.inl rfl) (pe_ix ix_list (pe_fc TC.cl (TC.no "loads" (by decide +kernel)) (pv 0)) (pv 1) (fun _ _ => rfl)))
      (pss_one (ps_asg (pe_op op_catA (pe_ix ix_list (pe_fc TC.cl (TC.no "marks" (by decide +kernel)) (pv 0)) (pv 2) (fun _ _ => rfl)) (pe_tup (pa_cons (pe_tup (pa_cons (pe_ix ix_list (pe_fc TC.cl (TC.no "row" (by decide +kernel)) (pv 0)) (pv 1) (fun _ _ => rfl)) (pa_cons (pe_ix ix_list (pe_fc TC.cl (TC.no "spots" (by decide +kernel)) (pv 0)) (pv 1) (fun _ _ => rfl)) pa_nil))) pa_nil))) (pg_sub (pe_fc TC.cl (TC.no "marks" (by decide +kernel)) (pv 0)) (pv 2) set_list)))), ?_⟩
    obtain ⟨ms, m1, m2⟩ := h.mr
    obtain ⟨ps, p1, p2⟩ := h.sp
    have lm : ms.length = s.marks.length := by rw [dpa_len m2, List.length_map]
    have hl := sd.ld _ (getD_mem (d := (0 : Int)) (show i < s.loads.length by rw [sd.ll]; exact hi))
    have gl : s.loads[i]? = some (s.loads.getD i 0) := by rw [getD_lt (show i < s.loads.length by rw [sd.ll]; exact hi), List.getElem?_eq_getElem (show i < s.loads.length by rw [sd.ll]; exact hi)]
    obtain ⟨k, hk⟩ : ∃ k : Nat, s.loads.getD i 0 = (k : Int) := ⟨(s.loads.getD i 0).toNat, by omega⟩
    have hkl : k < s.marks.length := by omega
    have gr : (s.row.map V.str)[i]? = some (.str (s.row.getD i "")) := by rw [List.getElem?_map, getD_lt hi, List.getElem?_eq_getElem hi]; rfl
    obtain ⟨b, gb, qb⟩ := p2.at (i := i) (by rw [sd.ls]; exact hi)
    obtain ⟨v, gv, dv⟩ := dpa_get m2 (i := k) (d := mkD s.marks[k]) (by rw [List.getElem?_map, List.getElem?_eq_getElem hkl]; rfl)
    obtain ⟨tm, us, rfl, htm, hus⟩ : ∃ tm us, v = .ref tm ∧ SqT K H tm us ∧ DpAll K H us (s.marks[k].map fun x => PyData.tuple [.str x.1, amD (am x.2)]) := by
      unfold mkD at dv
      cases dv with
      | tup hs ha => exact ⟨_, _, rfl, hs, ha⟩
    have lus : us.length = s.marks[k].length := by rw [dpa_len hus, List.length_map]
    have hm9 := hm _ (List.getElem_mem hkl)
    refine ⟨_, rfl, c, _, _, _, rfl, h.ins, fl_ld, _, rfl, A.ld, _, _, .int k, rfl, rfl, SqL.of h.ld, by rw [← hk]; exact at_map (i := i) rfl gl, ?_⟩
    refine ⟨_, rfl, c, _, _, _, rfl, h.ins, fl_mk, _, rfl, A.mr, ms, _, .ref tm, rfl, rfl, SqL.of m1, at_of (j := k) rfl gv, ?_⟩
    refine ⟨_, rfl, c, _, _, _, rfl, h.ins, fl_rw, _, rfl, A.rw, _, _, _, rfl, rfl, SqL.of h.rw, at_of (j := i) rfl gr, ?_⟩
    refine ⟨_, rfl, c, _, _, _, rfl, h.ins, fl_sp, _, rfl, A.sp, ps, _, .ref b, rfl, rfl, SqL.of p1, at_of (j := i) rfl gb, by show 2 ≤ sizeLine; decide, fun t1 n1 => ⟨by show 1 ≤ sizeLine; decide, fun t2 n2 => ?_⟩⟩
    have u1 := same_upd (T := T) (o := .tup [.str (s.row.getD i ""), .ref b]) n1
    have u2 := same_upd (T := T) (o := .tup [.ref t1]) n2
    have s2 := u1.trans u2
    have d1 : Dp K (upd (upd H t1 (.tup [.str (s.row.getD i ""), .ref b])) t2 (.tup [.ref t1])) (.ref t1) (.tuple [.str (s.row.getD i ""), amD (am (s.spots.getD i 0))]) := .tup (SqT.of (u2.k upd_same)) (.cons (.str _) (.cons (amD_dp (same_tup s2 qb)) .nil))
    have fin : ∀ (tn : Addr) (H3 : Hp), Sm T H H3 → Dp K H3 (.ref tn) (mkD (s.marks[k] ++ [(s.row.getD i "", s.spots.getD i 0)])) → Q .non (upd H3 A.mr (.lst (ms.set k (.ref tn)))) := fun tn H3 s3 d3 => by
      have h3 := h.sm s3
      have m4 : DpAll K H3 (ms.set k (.ref tn)) ((s.marks.set k (s.marks[k] ++ [(s.row.getD i "", s.spots.getD i 0)])).map mkD) := by
        rw [map_set_mk]
        exact dpa_set k (dpa_same s3 _ _ m2) d3
      have h4 := h3.set_mr m4
      have e4 : ({ s with marks := s.marks.set k (s.marks[k] ++ [(s.row.getD i "", s.spots.getD i 0)]) } : Ch) = markS s i := by
        unfold markS
        rw [hk, Int.toNat_natCast, getD_lt hkl]
      rw [e4] at h4
      exact q _ (s3.sx.step (sx_upd (s3.k m1) rfl (by simp [ownC]))) h4
    have ixk : ixN ms.length (k : Int) = some k := by
      unfold ixN
      rw [if_pos (by omega), if_pos (by omega), Int.toNat_natCast]
    refine ⟨tm, t2, us, [.ref t1], rfl, rfl, same_tup s2 htm, SqT.of upd_same, sz (by show _ + 1 ≤ _; omega), fun e => ?_, fun _ e => absurd e (by simp), fun _ _ p np => ?_⟩
    · have h3 := h.sm s2
      refine ⟨_, rfl, c, _, _, _, rfl, h3.ins, fl_mk, _, rfl, A.mr, ms, k, k, rfl, rfl, s2.k m1, ixk, fin t2 _ s2 ?_⟩
      have e0 : s.marks[k] = [] := by rw [e] at lus; exact List.length_eq_zero_iff.mp lus.symm
      rw [e0]
      exact .tup (SqT.of upd_same) (.cons d1 .nil)
    · have u3 := same_upd (T := T) (o := .tup (us ++ [.ref t1])) np
      have s3 := s2.trans u3
      have h3 := h.sm s3
      refine ⟨_, rfl, c, _, _, _, rfl, h3.ins, fl_mk, _, rfl, A.mr, ms, k, k, rfl, rfl, s3.k m1, ixk, fin p _ s3 ?_⟩
      unfold mkD
      rw [List.map_append]
      exact .tup (SqT.of upd_same) (dpa_app (dpa_same s3 _ _ hus) (.cons (dp_same u3 _ _ d1) .nil))

/-! ### places changed -/
def swapL (l : List Str) (i : Nat) : List Str := (l.set i (l.getD (i + 1) "")).set (i + 1) (l.getD i "")
def swapW (s : Ch) (n : Str) : Option Str := if n ∈ s.row then (if s.row.idxOf n + 1 = s.row.length then some "no next" else none) else some "no hand"
def swapS (s : Ch) (n : Str) : Ch := { markS (markS s (s.row.idxOf n)) (s.row.idxOf n + 1) with row := swapL s.row (s.row.idxOf n) }
def sp_p_Chain_swap (K : PySem.W.Frag) (T : Tb) (CP CC : Addr) : Sp := fun vs H Q E => ∃ (c : Addr) (A : Ad) (s : Ch) (n : Str), vs = [.ref c, .str n] ∧ ChAt K CC H c A s ∧ Side s ∧ (∀ m ∈ s.marks, m.length ≤ 4900) ∧
  (swapW s n = none → ∀ H', Sx T (ownC c A) H H' → ChAt K CC H' c A (swapS s n) → Q .non H') ∧ (∀ wd, swapW s n = some wd → ∀ cls d H', Sm T H H' → Rf K CP wd cls d H' → E cls d H')
theorem ok_p_Chain_swap {f : Addr} {fd : FuncData} (F : Fun K "swap" "Chain.swap" s_p_Chain_swap f fd) (B : Bn mg) {CP : Addr} (R_NoNext : Err P w K mg base CP "NoNext" "no next") {CC : Addr} (TC : Kl K CC) (M_number_of : Mx P w K mg base CC 4 "number_of" ["self", "name"] (sp_p_Chain_number_of K T CP CC)) (M_mark : Mt P w K mg base CC 1 "mark" ["self", "at"] (sp_p_Chain_mark K T CC)) : FnOk P w K mg base (L2.CX P w) 5 f fd ["self", "name"] (sp_p_Chain_swap K T CP CC) := by
  refine F.okX sc_p_Chain_swap (fun vs H Q E h => ?_) (fun cdv A outer s H vs Q E hr h => ?_)
  · obtain ⟨c, A, s, n, rfl, _⟩ := h
    rfl
  · obtain ⟨c, A, s, n, rfl, h, sd, hmm, k1, k2⟩ := h
    refine ⟨_, (pss_cons (ps_set (i := 2) sc_p_Chain_swap.nd rfl (.inl rfl) (pe_mx M_number_of TC.cl (hr.mono (by decide)) (takes_of rfl rfl rfl rfl) (pv 0) (pa_cons (pv 1) pa_nil)))
      (pss_cons (ps_if (pt_cmpR op_eq (pv 2) (pe_op op_sub (pe_callB call_len_seq (by rfl) B.len_ (by decide +kernel) (pa_cons (pe_fc TC.cl (TC.no "row" (by decide +kernel)) (pv 0)) pa_nil)) pe_int) (nomark _)) (pss_one (ps_raise rfl (takes_of rfl rfl rfl rfl) (pmk_err R_NoNext (hr.mono (by decide)) (by rfl)))) pss_nil)
      (pss_cons (ps_expr (pe_mt M_mark TC.cl (hr.mono (by decide)) (pv 0) (pa_cons (pv 2) pa_nil)))
      (pss_cons (ps_expr (pe_mt M_mark TC.cl (hr.mono (by decide)) (pv 0) (pa_cons (pe_op op_add (pv 2) pe_int) pa_nil)))
      (pss_one (ps_asg (pe_tup (pa_cons (pe_ix ix_list (pe_fc TC.cl (TC.no "row" (by decide +kernel)) (pv 0)) (pe_op op_add (pv 2) pe_int) (fun _ _ => rfl)) (pa_cons (pe_ix ix_list (pe_fc TC.cl (TC.no "row" (by decide +kernel)) (pv 0)) (pv 2) (fun _ _ => rfl)) pa_nil))) (pg_tup rfl (pgs_cons (pg_sub (pe_fc TC.cl (TC.no "row" (by decide +kernel)) (pv 0)) (pv 2) set_list) (pgs_cons (pg_sub (pe_fc TC.cl (TC.no "row" (by decide +kernel)) (pv 0)) (pe_op op_add (pv 2) pe_int) set_list) pgs_nil))))))))), ?_⟩
    refine ⟨_, rfl, c, _, _, rfl, h.ins, fl_no (by decide +kernel), _, rfl, c, A, s, n, rfl, h, fun hm => ?_, fun hm cls d H' s' rf => k2 "no hand" (by unfold swapW; rw [if_neg hm]) cls d H' s' rf⟩
    have hi := List.idxOf_lt_length_of_mem hm
    dsimp only [gName]
    refine ⟨_, rfl, _, rfl, c, _, _, _, rfl, h.ins, fl_rw, A.rw, _, rfl, .inl (SqL.of h.rw), _, _, rfl, rfl, rfl, _, rfl, ?_⟩
    rw [List.length_map]
    by_cases hl : s.row.idxOf n + 1 = s.row.length
    · rw [decide_eq_true (show V.int (s.row.idxOf n : Nat) = V.int ((s.row.length : Int) - 1) from congrArg V.int (by omega))]
      exact iteT fun cls dd hn' rf => k2 "no next" (by unfold swapW; rw [if_pos hm, if_pos hl]) cls (some dd) _ (same_upd hn') rf
    · rw [decide_eq_false (fun z => hl (by have := V.int.inj z; omega))]
      refine iteF ?_
      have hl2 : s.row.idxOf n + 1 < s.row.length := by omega
      refine ⟨_, rfl, c, _, _, rfl, h.ins, fl_no (by decide +kernel), _, rfl, c, A, s, s.row.idxOf n, rfl, h, sd, hi, fun m hm' => Nat.le_trans (hmm m hm') (by decide), fun H1 x1 h1 => ?_⟩
      have sd1 := markS_side sd (s.row.idxOf n)
      refine ⟨_, rfl, c, _, _, rfl, h1.ins, fl_no (by decide +kernel), _, rfl, _, _, rfl, rfl, c, A, markS s (s.row.idxOf n), s.row.idxOf n + 1, rfl, h1, sd1, hl2, fun m hm' => ?_, fun H2 x2 h2 => ?_⟩
      · have hm' : m ∈ s.marks.set _ _ := hm'
        rcases List.mem_or_eq_of_mem_set hm' with z | z
        · exact Nat.le_trans (hmm m z) (by decide)
        · rw [z, List.length_append]
          have : (s.marks.getD (s.loads.getD (s.row.idxOf n) 0).toNat []).length ≤ 4900 := by
            rcases Nat.lt_or_ge (s.loads.getD (s.row.idxOf n) 0).toNat s.marks.length with y | y
            · exact hmm _ (getD_mem (d := []) y)
            · rw [List.getD_eq_getElem?_getD, List.getElem?_eq_none y]; exact Nat.zero_le _
          show _ + 1 ≤ 5000
          omega
      · have x12 := x1.step x2
        have er : (markS (markS s (s.row.idxOf n)) (s.row.idxOf n + 1)).row = s.row := rfl
        have g1 : (s.row.map V.str)[s.row.idxOf n + 1]? = some (.str (s.row.getD (s.row.idxOf n + 1) "")) := by rw [List.getElem?_map, List.getElem?_eq_getElem hl2, getD_lt hl2]; rfl
        have g0 : (s.row.map V.str)[s.row.idxOf n]? = some (.str (s.row.getD (s.row.idxOf n) "")) := by rw [List.getElem?_map, List.getElem?_eq_getElem hi, getD_lt hi]; rfl
        have e2 : H2 A.rw = some (.lst (s.row.map V.str)) := h2.rw
        refine ⟨_, rfl, c, _, _, _, rfl, h2.ins, fl_rw, _, rfl, _, _, rfl, rfl, A.rw, _, _, _, rfl, rfl, SqL.of e2, at_of (j := s.row.idxOf n + 1) (by omega) g1, _, rfl, c, _, _, _, rfl, h2.ins, fl_rw, _, rfl, A.rw, _, _, _, rfl, rfl, SqL.of e2, at_of (j := s.row.idxOf n) rfl g0, by show 2 ≤ sizeLine; decide, fun t3 n3 => ?_⟩
        have u3 := same_upd (T := T) (o := HO.tup [V.str (s.row.getD (s.row.idxOf n + 1) ""), V.str (s.row.getD (s.row.idxOf n) "")]) n3
        have h3 := h2.sm u3
        have x03 := x12.sm' u3
        have et : upd H2 t3 (.tup [V.str (s.row.getD (s.row.idxOf n + 1) ""), V.str (s.row.getD (s.row.idxOf n) "")]) t3 = some (.tup [V.str (s.row.getD (s.row.idxOf n + 1) ""), V.str (s.row.getD (s.row.idxOf n) "")]) := upd_same
        have e3 := u3.k e2
        clear u3 n3 x12 x1 x2 e2 h2 h1
        generalize upd H2 t3 (.tup [V.str (s.row.getD (s.row.idxOf n + 1) ""), V.str (s.row.getD (s.row.idxOf n) "")]) = H3 at *
        have ix : ∀ {k : Nat} {l : List V}, k < l.length → ixN l.length (k : Int) = some k := fun {k l} hk => by
          unfold ixN
          rw [if_pos (by omega), if_pos (by omega)]
          congr 1
        refine ⟨t3, _, rfl, SqT.of et, rfl, _, _, rfl, _, rfl, c, _, _, _, rfl, h3.ins, fl_rw, _, rfl, A.rw, _, _, s.row.idxOf n, rfl, rfl, e3, ix (by rw [List.length_map]; exact hi), ?_⟩
        have h4 := h3.set_rw (s.row.set (s.row.idxOf n) (s.row.getD (s.row.idxOf n + 1) ""))
        have x4 : Sx T (ownC c A) H3 (upd H3 A.rw (.lst ((s.row.set (s.row.idxOf n) (s.row.getD (s.row.idxOf n + 1) "")).map V.str))) := sx_upd e3 rfl (by simp [ownC])
        rw [show (s.row.map V.str).set (s.row.idxOf n) (V.str (s.row.getD (s.row.idxOf n + 1) "")) = (s.row.set (s.row.idxOf n) (s.row.getD (s.row.idxOf n + 1) "")).map V.str from by rw [List.map_set]]
        have x04 := x03.step x4
        have e4 : upd H3 A.rw (.lst ((s.row.set (s.row.idxOf n) (s.row.getD (s.row.idxOf n + 1) "")).map V.str)) A.rw = some (.lst ((s.row.set (s.row.idxOf n) (s.row.getD (s.row.idxOf n + 1) "")).map V.str)) := upd_same
        clear x4 x03 e3 h3 et
        generalize upd H3 A.rw (.lst ((s.row.set (s.row.idxOf n) (s.row.getD (s.row.idxOf n + 1) "")).map V.str)) = H4 at *
        refine ⟨_, _, rfl, _, rfl, c, _, _, _, rfl, h4.ins, fl_rw, _, rfl, _, _, rfl, rfl, A.rw, _, _, s.row.idxOf n + 1, rfl, rfl, e4, ix (by rw [List.length_map, List.length_set]; exact hl2), ?_⟩
        have h5 := h4.set_rw (swapL s.row (s.row.idxOf n))
        have x5 : Sx T (ownC c A) H4 (upd H4 A.rw (.lst ((swapL s.row (s.row.idxOf n)).map V.str))) := sx_upd e4 rfl (by simp [ownC])
        rw [show ((s.row.set (s.row.idxOf n) (s.row.getD (s.row.idxOf n + 1) "")).map V.str).set (s.row.idxOf n + 1) (V.str (s.row.getD (s.row.idxOf n) "")) = (swapL s.row (s.row.idxOf n)).map V.str from by unfold swapL; simp only [List.map_set]]
        exact ⟨rfl, k1 (by unfold swapW; rw [if_pos hm, if_neg hl]) _ (x04.step x5) h5⟩

/-! ### the law's own small deeds -/
inductive Deed
  | enter (n : Str) (p : Int)
  | call (n : Str)
  | stay (n : Str)
  | swap (n : Str)
  | pace (n : Str) (p : Int)
def Deed.nm : Deed → Str
  | .enter n _ | .call n | .stay n | .swap n | .pace n _ => n
def Deed.wd : Deed → Str
  | .enter .. => "enter"
  | .call _ => "call"
  | .stay _ => "stay"
  | .swap _ => "swap"
  | .pace .. => "pace"
def Deed.vs : Deed → List V
  | .enter n p => [.str "enter", .str n, .int p]
  | .call n => [.str "call", .str n]
  | .stay n => [.str "stay", .str n]
  | .swap n => [.str "swap", .str n]
  | .pace n p => [.str "pace", .str n, .int p]
def Deed.no (s : Ch) : Deed → Option Str
  | .enter n p => enterW s n p
  | .call n => callW s n
  | .stay n => stayW s n
  | .swap n => swapW s n
  | .pace n p => paceW s n p
def Deed.to (s : Ch) : Deed → Ch
  | .enter n p => enterS s n p
  | .call n => callS s n
  | .stay n => stayS s n
  | .swap n => swapS s n
  | .pace n p => paceS s n p
theorem MAt.as {K : PySem.W.Frag} {H : Hp} {m : Addr} {Y : Bd9} {bs : List Addr} {lp : List (Str × Int)} {la : List (Str × Bool)} {s s' : Ch} {ts : List (List Tl)} (c : MAt K H m Y bs lp la s ts)
    (e1 : s'.fire = s.fire) (e2 : s'.now = s.now) (e3 : s'.row = s.row) (e4 : s'.loads = s.loads) (e5 : s'.spots = s.spots) (e6 : s'.poured = s.poured) (e7 : s'.ledgers = s.ledgers) : MAt K H m Y bs lp la s' ts :=
  ⟨by rw [e1]; exact c.d, by rw [e2]; exact c.clk, by rw [e3]; exact c.row, by rw [e4, e5]; exact c.ld, by rw [e6]; exact c.gn, c.tl, c.ta, c.pc, c.aw, by rw [e7]; exact c.led, c.nd⟩
theorem swapL_cut {l : List Str} {i : Nat} (h : i + 1 < l.length) : swapL l i = l.take i ++ [l.getD (i + 1) "", l.getD i ""] ++ l.drop (i + 2) := by
  unfold swapL
  apply List.ext_getElem?
  intro j
  rw [List.getElem?_append, List.getElem?_append, List.getElem?_set, List.getElem?_set, List.length_set]
  simp only [List.length_append, List.length_take, List.length_cons, List.length_nil, List.getElem?_drop, List.getElem?_take]
  rcases (by omega : j < i ∨ j = i ∨ j = i + 1 ∨ i + 1 < j) with z | z | z | z
  · rw [if_neg (by omega), if_neg (by omega), if_pos (by omega), if_pos (by omega), if_pos z]
  · subst z
    rw [if_neg (by omega), if_pos rfl, if_pos (by omega), if_pos (by omega), if_neg (by omega), show j - min j l.length = 0 by omega]
    rfl
  · subst z
    rw [if_pos rfl, if_pos (by omega), if_pos (by omega), if_neg (by omega), show i + 1 - min i l.length = 1 by omega]
    rfl
  · rw [if_neg (by omega), if_neg (by omega), if_neg (by omega)]
    congr 1
    omega
theorem mem_swapL {l : List Str} {i : Nat} (h : i + 1 < l.length) {x : Str} (hx : x ∈ swapL l i) : x ∈ l := by
  rw [swapL_cut h, List.mem_append, List.mem_append] at hx
  rcases hx with (z | z) | z
  · exact List.mem_of_mem_take z
  · rcases List.mem_cons.mp z with z | z
    · rw [z]; exact getD_mem (by omega)
    · rw [List.mem_singleton.mp z]; exact getD_mem (by omega)
  · exact List.mem_of_mem_drop z
theorem sN (a b : Str) (h : a ≠ b) : decide (V.str a = V.str b) = false := decide_eq_false fun z => h (V.str.inj z)
theorem in_c : inV (.str "call") [.str "call", .str "stay"] = true := by decide +kernel
theorem in_s : inV (.str "stay") [.str "call", .str "stay"] = true := by decide +kernel
theorem in_w : inV (.str "swap") [.str "call", .str "stay"] = false := by decide +kernel
theorem in_p : inV (.str "pace") [.str "call", .str "stay"] = false := by decide +kernel
theorem blE {a b : Bool} (h : a = b) : decide (V.bl a = V.bl b) = true := decide_eq_true (congrArg V.bl h)
theorem blN {a b : Bool} (h : a ≠ b) : decide (V.bl a = V.bl b) = false := decide_eq_false fun z => h (V.bl.inj z)
theorem mem_gone {l : List Str} (nd : l.Nodup) {n x : Str} : x ∈ l.eraseIdx (l.idxOf n) ↔ x ≠ n ∧ x ∈ l := by
  rw [← List.erase_eq_eraseIdx_of_idxOf rfl]
  exact nd.mem_erase_iff
theorem ifY {b : Bool} {A B : Prop} (h : b = true) (x : A) : if b = true then A else B := by rw [if_pos h]; exact x
theorem ifN {b : Bool} {A B : Prop} (h : b = false) (x : B) : if b = true then A else B := by rw [if_neg (by rw [h]; exact Bool.false_ne_true)]; exact x
theorem two_of {T : Tb} {K : PySem.W.Frag} {H : Hp} {d : Addr} {D : Deed} {K' : PySem.W.Frag} {nn : Nat} {tg : TGs} {sg : L2.St} {QQ : _} (hd : SqT K H d (Deed.vs D)) (g : ∀ e H1, Sm T H H1 → SqT K H1 e [.str D.wd, .str D.nm] → gTup K' nn tg (.ref e) sg H1 QQ) :
    (HT.sIx (Deed.vs D).length 0 none = 0 ∧ HT.sIx (Deed.vs D).length (Deed.vs D).length (some 2) = (Deed.vs D).length → gTup K' nn tg (.ref d) sg H QQ) ∧ (¬ (HT.sIx (Deed.vs D).length 0 none = 0 ∧ HT.sIx (Deed.vs D).length (Deed.vs D).length (some 2) = (Deed.vs D).length) → ∀ p, H p = none → gTup K' nn tg (.ref p) sg (upd H p (.tup (cutV (Deed.vs D) none (some 2)))) QQ) := by
  refine ⟨fun z => ?_, fun z p np => g p _ (same_upd np) (SqT.of (by rw [upd_same]; cases D <;> rfl))⟩
  cases D with
  | enter n p => exact absurd z.2 (by show ¬ (2 : Nat) = 3; decide)
  | pace n p => exact absurd z.2 (by show ¬ (2 : Nat) = 3; decide)
  | call n => exact g d H (Sm.refl) hd
  | stay n => exact g d H (Sm.refl) hd
  | swap n => exact g d H (Sm.refl) hd
def sp_l_small (K : PySem.W.Frag) (T : Tb) : Sp := fun vs H Q _ => ∃ m Y bs lp la s ts d D, vs = [.ref m, .ref d] ∧ SqT K H d (Deed.vs D) ∧ MAt K H m Y bs lp la s ts ∧ Nc s ∧ MOk lp la s ∧ D.nm.length ≤ 1000 ∧ (bs.length ≤ 8000 ∧ s.loads.length ≤ 900 ∧ s.spots.length ≤ 900 ∧ s.row.length ≤ 900 ∧ lp.length ≤ 900 ∧ la.length ≤ 900 ∧ s.ledgers.length ≤ 900) ∧ ts.length = s.marks.length ∧ s.leaving.Nodup ∧
  (∀ wd, Deed.no s D = some wd → ∀ t H', Sm T H H' → H' t = some (.tup [.str wd, .non]) → Q (.ref t) H') ∧
  (Deed.no s D = none → ∀ t bs' H' lp' la' ts' v, Sx T (ownM m Y bs) H H' → (∀ b ∈ bs', b ∈ bs ∨ H b = none) → MAt K H' m Y bs' lp' la' (Deed.to s D) ts' → MOk lp' la' (Deed.to s D) → lp'.length ≤ lp.length + 1 → la'.length ≤ la.length + 1 →
    (v = .non ∧ ts' = ts ∧ bs' = bs ∧ (∀ n p, D ≠ .enter n p) ∨ v = .int s.marks.length ∧ ts' = ts ++ [[]] ∧ ∃ n p, D = .enter n p) → H' t = some (.tup [.str "", v]) → Q (.ref t) H')
theorem ok_l_small {f : Addr} {fd : FuncData} (F : Fun K "_law_small" "_law_small" s_l_small f fd) (B : Bn mg) (F_l_enters : Fn P w K mg base 2 "_law_enters" ["_law_m", "_law_name_here", "_law_pace"] (sp_l_enters K T)) : FnOk P w K mg base CX0 3 f fd ["_law_m", "_law_deed"] (sp_l_small K T) := by
  refine F.ok sc_l_small (fun vs H Q E h => ?_) (fun cdv A outer s H vs Q E hr h => ?_)
  · obtain ⟨m, Y, bs, lp, la, s, ts, d, D, rfl, _⟩ := h
    rfl
  · obtain ⟨m, Y, bs, lp, la, s, ts, d, D, rfl, hd, c, nc, mo, hn, ⟨z1, z2, z3, z4, z5, z6, z7⟩, hts, hlv, k1, k2⟩ := h
    refine ⟨_, (pss_cons (ps_asg (pe_slice sl_tupA (pv 1) po_none (po_some pe_int)) (pg_tup rfl (pgs_cons (pg_name (i := 2) sc_l_small.nd rfl (.inl rfl)) (pgs_cons (pg_name (i := 3) sc_l_small.nd rfl (.inl rfl)) pgs_nil))))
      (pss_cons (ps_if (pt_cmpR op_eq (pv 2) pe_str (nomark _)) (pss_one (ps_ret (pe_fn F_l_enters (hr.mono (by decide)) (pa_cons (pv 0) (pa_cons (pv 3) (pa_cons (pe_ix ix_tup (pv 1) pe_int (fun _ _ => rfl)) pa_nil)))))) pss_nil)
      (pss_cons (ps_if (pt_cmpR op_notIn_seq (pv 3) (pe_dget (hu_of hr) (pv 0) pe_str (fun _ _ => rfl)) (by rfl)) (pss_one (ps_ret (pe_tup (pa_cons pe_str (pa_cons pe_non pa_nil))))) pss_nil)
      (pss_cons (ps_if (pt_cmpR op_eq (pv 2) pe_str (nomark _)) (pss_cons (ps_if (pt_not (pt_chain op_le op_le pe_int (pe_ix ix_tup (pv 1) pe_int (fun _ _ => rfl)) pe_int)) (pss_one (ps_ret (pe_tup (pa_cons pe_str (pa_cons pe_non pa_nil))))) pss_nil)
      (pss_one (ps_dput (hu_of hr) (pe_dget (hu_of hr) (pv 0) pe_str (fun _ _ => rfl)) (pv 3) (pe_ix ix_tup (pv 1) pe_int (fun _ _ => rfl)) rfl))) pss_nil)
      (pss_cons (ps_if (pt_cmpR op_in_seq (pv 2) (pe_lst (pa_cons pe_str (pa_cons pe_str pa_nil))) (by rfl)) (pss_cons (ps_if (pt_cmpR op_eq (pe_dget (hu_of hr) (pe_dget (hu_of hr) (pv 0) pe_str (fun _ _ => rfl)) (pv 3) (fun _ _ => rfl)) (pe_cmpR op_eq (pv 2) pe_str (nomark _)) (nomark _)) (pss_one (ps_ret (pe_tup (pa_cons (pe_ix ix_list (pe_lst (pa_cons pe_str (pa_cons pe_str pa_nil))) (pe_callTy call_int1 (by rfl) B.int_ (by decide +kernel) (pa_cons (pe_cmpR op_eq (pv 2) pe_str (nomark _)) pa_nil)) (fun _ _ => rfl)) (pa_cons pe_non pa_nil))))) pss_nil)
      (pss_one (ps_dput (hu_of hr) (pe_dget (hu_of hr) (pv 0) pe_str (fun _ _ => rfl)) (pv 3) (pe_cmpR op_eq (pv 2) pe_str (nomark _)) rfl))) pss_nil)
      (pss_cons (ps_if (pt_cmpR op_eq (pv 2) pe_str (nomark _)) (pss_cons (ps_set (i := 4) sc_l_small.nd rfl (.inl rfl) (pe_bm PySem.F.plainAttrs_list PySem.F.slot_list_index PySem.F.type_list_index mt_index (pe_dget (hu_of hr) (pv 0) pe_str (fun _ _ => rfl)) (pa_cons (pv 3) pa_nil)))
      (pss_cons (ps_if (pt_cmpR op_eq (pe_op op_add (pv 4) pe_int) (pe_callB call_len_seq (by rfl) B.len_ (by decide +kernel) (pa_cons (pe_dget (hu_of hr) (pv 0) pe_str (fun _ _ => rfl)) pa_nil)) (nomark _)) (pss_one (ps_ret (pe_tup (pa_cons pe_str (pa_cons pe_non pa_nil))))) pss_nil)
      (pss_one (ps_slp (pe_dget (hu_of hr) (pv 0) pe_str (fun _ _ => rfl)) (po_some (pv 4)) (po_some (pe_op op_add (pv 4) pe_int)) (pe_lst (pa_cons (pe_ix ix_list (pe_dget (hu_of hr) (pv 0) pe_str (fun _ _ => rfl)) (pe_op op_add (pv 4) pe_int) (fun _ _ => rfl)) (pa_cons (pv 3) pa_nil))) rfl)))) pss_nil)
      (pss_one (ps_ret (pe_tup (pa_cons pe_str (pa_cons pe_non pa_nil))))))))))), ?_⟩
    refine ⟨_, rfl, 2, rfl, d, _, rfl, hd, ?_⟩
    refine two_of (T := T) hd fun e H1 s1 he => ⟨e, _, rfl, he, rfl, ?_⟩
    refine ⟨_, _, rfl, _, _, rfl, rfl, ?_⟩
    dsimp only [gName]
    have c1 := c.sm s1
    have hd1 := same_tup s1 hd
    have two : ∀ (wd : Str), Deed.no s D = some wd → 2 ≤ sizeLine ∧ ∀ t, H1 t = none → Q (.ref t) (upd H1 t (.tup [.str wd, .non])) := fun wd e => ⟨by decide, fun t nt => k1 wd e t _ (s1.trans (same_upd nt)) upd_same⟩
    by_cases hen : ∃ n p, D = .enter n p
    · obtain ⟨n, p, rfl⟩ := hen
      refine ⟨_, rfl, rfl, _, rfl, ifY (decide_eq_true rfl) ?_⟩
      refine ⟨_, rfl, _, rfl, _, rfl, d, _, _, .int p, rfl, rfl, hd1, at_of (j := 2) rfl rfl, m, Y, bs, lp, la, s, ts, n, p, rfl, c1, nc, mo, hn, ⟨z1, z2, z3, z4, z5, z6, z7⟩, hts, fun wd e t H' s' ht => k1 wd e t H' (s1.trans s') ht, fun e t b H' lp' la' x' nb c' mo' l1 l2 ht => ?_⟩
      exact k2 e t _ H' lp' la' _ _ ((s1.sx).step x') (fun y hy => (List.mem_append.mp hy).imp id fun z => by rw [List.mem_singleton.mp z]; exact s1.free _ nb) c' mo' l1 l2 (.inr ⟨rfl, rfl, n, p, rfl⟩) ht
    have hne : decide (V.str D.wd = V.str "enter") = false := by
      cases D with
      | enter n p => exact absurd ⟨n, p, rfl⟩ hen
      | call n => exact sN "call" "enter" (by decide +kernel)
      | stay n => exact sN "stay" "enter" (by decide +kernel)
      | swap n => exact sN "swap" "enter" (by decide +kernel)
      | pace n p => exact sN "pace" "enter" (by decide +kernel)
    refine ⟨_, rfl, rfl, _, rfl, ifN hne ?_⟩
    refine ⟨_, rfl, _, rfl, _, .ref Y.row, rfl, c1.gr, Y.row, _, rfl, .inl (SqL.of c1.row), rfl, flat_strs _, _, rfl, ?_⟩
    show if (!inV (.str D.nm) (s.row.map V.str)) = true then _ else _
    rw [inV_strs]
    by_cases hm : D.nm ∈ s.row
    case neg =>
      rw [decide_eq_false hm]
      refine iteT (two "no hand" ?_)
      cases D with
      | enter n p => exact absurd ⟨n, p, rfl⟩ hen
      | call n => exact if_neg hm
      | stay n => exact if_neg hm
      | swap n => exact if_neg hm
      | pace n p => exact if_neg hm
    rw [decide_eq_true hm]
    refine iteF ?_
    cases D with
    | enter n p => exact absurd ⟨n, p, rfl⟩ hen
    | call n =>
      have hm : n ∈ s.row := hm
      refine ⟨_, rfl, rfl, _, rfl, ifN (sN "call" "pace" (by decide +kernel)) ?_⟩
      refine ⟨_, rfl, by show 2 ≤ sizeLine; decide, fun l nl => ?_⟩
      have u2 := same_upd (T := T) (o := HO.lst [V.str "call", V.str "stay"]) nl
      have c2 := c1.sm u2
      have ga : DGet (upd H1 l (.lst [V.str "call", V.str "stay"])) Y.aw (.str n) (some (.bl (decide (n ∈ s.leaving)))) := by
        have := DGet.k (k := Sum.inr n) c2.aw
        rw [val_aw, mo.la_ n hm] at this
        exact this
      refine ⟨l, _, rfl, .inl (SqL.of upd_same), rfl, rfl, _, rfl, ifY in_c ?_⟩
      refine ⟨_, rfl, _, .ref Y.aw, rfl, c2.ga, _, rfl, Y.aw, _, rfl, ga, _, rfl, rfl, rfl, _, rfl, ?_⟩
      clear ga
      have eq0 : decide (V.str (Deed.call n).wd = V.str "call") = true := (decide_eq_true rfl)
      generalize hbb : decide (V.str (Deed.call n).wd = V.str "call") = bb at *
      subst eq0
      by_cases hv : n ∈ s.leaving
      · refine ifY (blE (decide_eq_true hv)) ?_
        refine ⟨by show 2 ≤ sizeLine; decide, fun l2 n2 => ⟨_, rfl, rfl, .inr ⟨_, rfl, l2, _, _, .str "called", rfl, rfl, SqL.of upd_same, ?_, by show 2 ≤ sizeLine; decide, fun t nt => ?_⟩⟩⟩
        · rw [hbb]; exact at_of (j := 1) rfl rfl
        · exact k1 "called" (by show callW s n = _; unfold callW; rw [if_pos hm, if_pos hv]) t _ (s1.trans (u2.trans ((same_upd n2).trans (same_upd nt)))) upd_same
      · refine ifN (blN fun z => hv (of_decide_eq_true z)) ?_
        refine ⟨_, rfl, rfl, _, rfl, _, .ref Y.aw, rfl, c2.ga, _, rfl, Y.aw, _, rfl, DPut.k (k := Sum.inr n) c2.aw (by unfold awV; rw [List.length_map]; exact szl (by omega)), ?_⟩
        rw [hbb, put_aw]
        have c3 : MAt K (upd (upd H1 l (.lst [V.str "call", V.str "stay"])) Y.aw (.dK (awV (putL la n true)))) m Y bs lp (putL la n true) (callS s n) ts := c2.set_aw (putL la n true) (s.leaving ++ [n])
        have x3 : Sx T (ownM m Y bs) (upd H1 l (.lst [V.str "call", V.str "stay"])) (upd (upd H1 l (.lst [V.str "call", V.str "stay"])) Y.aw (.dK (awV (putL la n true)))) := sx_upd c2.aw rfl (by simp [ownM])
        have x03 := ((s1.trans u2).sx (S := ownM m Y bs)).step x3
        clear x3
        refine ⟨_, rfl, rfl, _, rfl, ifN (sN "call" "swap" (by decide +kernel)) ?_⟩
        refine ⟨by show 2 ≤ sizeLine; decide, fun t nt => ?_⟩
        have u5 := same_upd (T := T) (o := HO.tup [V.str "", V.non]) nt
        refine k2 (by show callW s n = none; unfold callW; rw [if_pos hm, if_neg hv]) t bs _ lp _ ts .non (x03.sm' u5) (fun b hb => .inl hb) (c3.sm u5) ⟨mo.lp_, fun n' hn' => ?_⟩ (Nat.le_succ _) (putL_len _ _ _) (.inl ⟨rfl, rfl, rfl, fun _ _ z => nomatch z⟩) upd_same
        show getL (putL la n true) n' = some (decide (n' ∈ s.leaving ++ [n]))
        rw [getL_put]
        split
        · rename_i e
          rw [decide_eq_true (show n' ∈ s.leaving ++ [n] by rw [← e]; simp)]
        · rename_i hne
          rw [mo.la_ n' hn']
          have : n' ∈ s.leaving ↔ n' ∈ s.leaving ++ [n] := by
            rw [List.mem_append, List.mem_singleton]
            exact ⟨.inl, fun z => z.resolve_right fun y => hne y.symm⟩
          rw [decide_eq_decide.mpr this]
    | stay n =>
      have hm : n ∈ s.row := hm
      refine ⟨_, rfl, rfl, _, rfl, ifN (sN "stay" "pace" (by decide +kernel)) ?_⟩
      refine ⟨_, rfl, by show 2 ≤ sizeLine; decide, fun l nl => ?_⟩
      have u2 := same_upd (T := T) (o := HO.lst [V.str "call", V.str "stay"]) nl
      have c2 := c1.sm u2
      have ga : DGet (upd H1 l (.lst [V.str "call", V.str "stay"])) Y.aw (.str n) (some (.bl (decide (n ∈ s.leaving)))) := by
        have := DGet.k (k := Sum.inr n) c2.aw
        rw [val_aw, mo.la_ n hm] at this
        exact this
      refine ⟨l, _, rfl, .inl (SqL.of upd_same), rfl, rfl, _, rfl, ifY in_s ?_⟩
      refine ⟨_, rfl, _, .ref Y.aw, rfl, c2.ga, _, rfl, Y.aw, _, rfl, ga, _, rfl, rfl, rfl, _, rfl, ?_⟩
      clear ga
      have eq0 : decide (V.str (Deed.stay n).wd = V.str "call") = false := (sN "stay" "call" (by decide +kernel))
      generalize hbb : decide (V.str (Deed.stay n).wd = V.str "call") = bb at *
      subst eq0
      by_cases hv : n ∉ s.leaving
      · refine ifY (blE (decide_eq_false hv)) ?_
        refine ⟨by show 2 ≤ sizeLine; decide, fun l2 n2 => ⟨_, rfl, rfl, .inr ⟨_, rfl, l2, _, _, .str "not called", rfl, rfl, SqL.of upd_same, ?_, by show 2 ≤ sizeLine; decide, fun t nt => ?_⟩⟩⟩
        · rw [hbb]; exact at_of (j := 0) rfl rfl
        · exact k1 "not called" (by show stayW s n = _; unfold stayW; rw [if_pos hm, if_neg hv]) t _ (s1.trans (u2.trans ((same_upd n2).trans (same_upd nt)))) upd_same
      · refine ifN (blN fun z => hv (of_decide_eq_false z)) ?_
        refine ⟨_, rfl, rfl, _, rfl, _, .ref Y.aw, rfl, c2.ga, _, rfl, Y.aw, _, rfl, DPut.k (k := Sum.inr n) c2.aw (by unfold awV; rw [List.length_map]; exact szl (by omega)), ?_⟩
        rw [hbb, put_aw]
        have c3 : MAt K (upd (upd H1 l (.lst [V.str "call", V.str "stay"])) Y.aw (.dK (awV (putL la n false)))) m Y bs lp (putL la n false) (stayS s n) ts := c2.set_aw (putL la n false) (s.leaving.eraseIdx (s.leaving.idxOf n))
        have x3 : Sx T (ownM m Y bs) (upd H1 l (.lst [V.str "call", V.str "stay"])) (upd (upd H1 l (.lst [V.str "call", V.str "stay"])) Y.aw (.dK (awV (putL la n false)))) := sx_upd c2.aw rfl (by simp [ownM])
        have x03 := ((s1.trans u2).sx (S := ownM m Y bs)).step x3
        clear x3
        refine ⟨_, rfl, rfl, _, rfl, ifN (sN "stay" "swap" (by decide +kernel)) ?_⟩
        refine ⟨by show 2 ≤ sizeLine; decide, fun t nt => ?_⟩
        have u5 := same_upd (T := T) (o := HO.tup [V.str "", V.non]) nt
        refine k2 (by show stayW s n = none; unfold stayW; rw [if_pos hm, if_pos (Classical.not_not.mp hv)]) t bs _ lp _ ts .non (x03.sm' u5) (fun b hb => .inl hb) (c3.sm u5) ⟨mo.lp_, fun n' hn' => ?_⟩ (Nat.le_succ _) (putL_len _ _ _) (.inl ⟨rfl, rfl, rfl, fun _ _ z => nomatch z⟩) upd_same
        show getL (putL la n false) n' = some (decide (n' ∈ s.leaving.eraseIdx (s.leaving.idxOf n)))
        rw [getL_put]
        split
        · rename_i e
          rw [decide_eq_false (show ¬ n' ∈ s.leaving.eraseIdx (s.leaving.idxOf n) by rw [← e, mem_gone hlv]; exact fun z => z.1 rfl)]
        · rename_i hne
          rw [mo.la_ n' hn']
          have : n' ∈ s.leaving ↔ n' ∈ s.leaving.eraseIdx (s.leaving.idxOf n) := by
            rw [mem_gone hlv]
            exact ⟨fun z => ⟨fun y => hne y.symm, z⟩, fun z => z.2⟩
          rw [decide_eq_decide.mpr this]
    | swap n =>
      have hm : n ∈ s.row := hm
      refine ⟨_, rfl, rfl, _, rfl, ifN (sN "swap" "pace" (by decide +kernel)) ?_⟩
      refine ⟨_, rfl, by show 2 ≤ sizeLine; decide, fun l nl => ?_⟩
      have u2 := same_upd (T := T) (o := HO.lst [V.str "call", V.str "stay"]) nl
      have c2 := c1.sm u2
      refine ⟨l, _, rfl, .inl (SqL.of upd_same), rfl, rfl, _, rfl, ifN in_w ?_⟩
      refine ⟨_, rfl, rfl, _, rfl, ifY (decide_eq_true rfl) ?_⟩
      have s2 := s1.trans u2
      clear u2 nl
      generalize upd H1 l (.lst [V.str "call", V.str "stay"]) = H2 at *
      have e := strs_ix hm
      have hi := List.idxOf_lt_length_of_mem hm
      refine ⟨_, rfl, _, .ref Y.row, rfl, c2.gr, .inl ⟨rfl, _, SqL.of c2.row⟩, _, rfl, Y.row, _, _, s.row.idxOf n, .str n, rfl, rfl, SqL.of c2.row, rfl, flat_strs _, e.1, ?_, e.2, ?_⟩
      · show (n == n) = true
        simp
      dsimp only [gName]
      refine ⟨_, rfl, _, _, rfl, rfl, _, rfl, _, .ref Y.row, rfl, c2.gr, Y.row, _, rfl, .inl (SqL.of c2.row), rfl, _, rfl, ?_⟩
      rw [List.length_map]
      by_cases hl : s.row.idxOf n + 1 = s.row.length
      · refine ifY (decide_eq_true (congrArg V.int (by omega))) ⟨by show 2 ≤ sizeLine; decide, fun t nt => ?_⟩
        exact k1 "no next" (by show swapW s n = _; unfold swapW; rw [if_pos hm, if_pos hl]) t _ (s2.trans (same_upd nt)) upd_same
      refine ifN (decide_eq_false fun z => hl (by have := V.int.inj z; omega)) ?_
      have hl2 : s.row.idxOf n + 1 < s.row.length := by omega
      have hx : (s.row.map V.str)[s.row.idxOf n + 1]? = some (.str (s.row.getD (s.row.idxOf n + 1) "")) := by
        rw [List.getElem?_map, List.getD_eq_getElem?_getD, List.getElem?_eq_getElem hl2]; rfl
      have hg : s.row.getD (s.row.idxOf n) "" = n := by
        rw [List.getD_eq_getElem?_getD, List.getElem?_eq_getElem hi, List.getElem_idxOf]; rfl
      refine ⟨_, rfl, _, .ref Y.row, rfl, c2.gr, _, rfl, _, _, rfl, rfl, Y.row, _, _, _, rfl, rfl, SqL.of c2.row, at_of (j := s.row.idxOf n + 1) (by omega) hx, _, rfl, by show 2 ≤ sizeLine; decide, fun b nb => ?_⟩
      have u3 := same_upd (T := T) (o := HO.lst [V.str (s.row.getD (s.row.idxOf n + 1) ""), V.str n]) nb
      have c3 := c2.sm u3
      refine ⟨_, rfl, _, .ref Y.row, rfl, c3.gr, _, rfl, _, rfl, _, rfl, _, _, rfl, rfl, _, rfl, Y.row, b, _, _, _, _, rfl, rfl, rfl, rfl, c3.row, upd_same, ?_, ?_, ?_, ?_, ?_, ?_⟩
      · exact fun z => by rw [← z, c2.row] at nb; cases nb
      · omega
      · omega
      · rw [List.length_map]; omega
      · rw [List.length_map]; exact Nat.le_trans (Nat.add_le_add_right z4 2) (by decide)
      have eL : (s.row.map V.str).take ((s.row.idxOf n : Nat) : Int).toNat ++ [V.str (s.row.getD (s.row.idxOf n + 1) ""), V.str n] ++ (s.row.map V.str).drop (((s.row.idxOf n : Nat) : Int) + 2).toNat = (swapL s.row (s.row.idxOf n)).map V.str := by
        rw [swapL_cut hl2, hg, show (((s.row.idxOf n : Nat) : Int) + 2).toNat = s.row.idxOf n + 2 by omega, Int.toNat_natCast, List.map_append, List.map_append, List.map_take, List.map_drop]
        rfl
      dsimp only [Deed.nm]
      rw [eL]
      have c5 : MAt K _ m Y bs lp la (swapS s n) ts := (c3.set_row (swapL s.row (s.row.idxOf n))).as rfl rfl rfl rfl rfl rfl rfl
      have x4 := sx_upd (T := T) (S := ownM m Y bs) (o := HO.lst ((swapL s.row (s.row.idxOf n)).map V.str)) c3.row rfl (by simp [ownM])
      refine ⟨by show 2 ≤ sizeLine; decide, fun t nt => ?_⟩
      have u5 := same_upd (T := T) (o := HO.tup [V.str "", V.non]) nt
      exact k2 (by show swapW s n = none; unfold swapW; rw [if_pos hm, if_neg hl]) t bs _ lp la ts .non ((((s2.trans u3).sx (S := ownM m Y bs)).step x4).sm' u5) (fun b hb => .inl hb) (c5.sm u5) ⟨fun n' hn' => mo.lp_ n' (mem_swapL hl2 hn'), fun n' hn' => mo.la_ n' (mem_swapL hl2 hn')⟩ (Nat.le_succ _) (Nat.le_succ _) (.inl ⟨rfl, rfl, rfl, fun _ _ z => nomatch z⟩) upd_same
    | pace n p =>
      have hm : n ∈ s.row := hm
      refine ⟨_, rfl, rfl, _, rfl, ifY (decide_eq_true rfl) ?_⟩
      refine ⟨_, rfl, d, _, _, .int p, rfl, rfl, hd1, at_of (j := 2) rfl rfl, _, _, rfl, rfl, _, rfl, ?_⟩
      by_cases p1 : 1 ≤ p
      case neg =>
        rw [decide_eq_false p1]
        exact iteF ⟨_, rfl, iteT (two "bad pace" (by show paceW s n p = _; unfold paceW paceB; rw [if_pos hm, decide_eq_false p1]; rfl))⟩
      rw [decide_eq_true p1]
      refine iteT ⟨_, _, rfl, rfl, _, rfl, ?_⟩
      by_cases p12 : p ≤ 12
      case neg =>
        rw [decide_eq_false p12]
        exact iteT (two "bad pace" (by show paceW s n p = _; unfold paceW paceB; rw [if_pos hm, decide_eq_false p12, Bool.and_false]; rfl))
      rw [decide_eq_true p12]
      refine iteF ?_
      have hpB : paceB p = true := by unfold paceB; rw [decide_eq_true p1, decide_eq_true p12]; rfl
      refine ⟨_, rfl, d, _, _, .int p, rfl, rfl, hd1, at_of (j := 2) rfl rfl, _, rfl, _, .ref Y.pc, rfl, c1.gp, _, rfl, Y.pc, _, rfl, DPut.k (k := Sum.inr n) c1.pc (by unfold tmV; rw [List.length_map]; exact szl (by omega)), ?_⟩
      rw [put_tm]
      have c3 := c1.set_pc (putL lp n p) (putL s.tempos n p)
      have x3 : Sx T (ownM m Y bs) H1 (upd H1 Y.pc (.dK (tmV (putL lp n p)))) := sx_upd c1.pc rfl (by simp [ownM])
      have x03 := (s1.sx (S := ownM m Y bs)).step x3
      clear x3
      generalize upd H1 Y.pc (.dK (tmV (putL lp n p))) = H3 at *
      refine ⟨_, rfl, by show 2 ≤ sizeLine; decide, fun l nl => ?_⟩
      have u4 := same_upd (T := T) (o := HO.lst [V.str "call", V.str "stay"]) nl
      refine ⟨l, _, rfl, .inl (SqL.of upd_same), rfl, rfl, _, rfl, ifN in_p ?_⟩
      refine ⟨_, rfl, rfl, _, rfl, ifN (sN "pace" "swap" (by decide +kernel)) ?_⟩
      refine ⟨by show 2 ≤ sizeLine; decide, fun t nt => ?_⟩
      have u5 := same_upd (T := T) (o := HO.tup [V.str "", V.non]) nt
      have u45 := u4.trans u5
      refine k2 (by show paceW s n p = none; unfold paceW; rw [if_pos hm, if_pos hpB]) t bs _ _ la ts .non (x03.sm' u45) (fun b hb => .inl hb) (c3.sm u45) ⟨fun n' hn' => ?_, mo.la_⟩ (putL_len _ _ _) (Nat.le_succ _) (.inl ⟨rfl, rfl, rfl, fun _ _ z => nomatch z⟩) upd_same
      show getL (putL lp n p) n' = getL (putL s.tempos n p) n'
      rw [getL_put, getL_put]
      split
      · rfl
      · exact mo.lp_ n' hn'

/-! ### the deed asked of the chain (nobody comes, no going) -/
theorem pe_never {X : Cx} {e : Expr} : PE X e (fun _ _ _ => False) := ⟨fun _ _ _ _ _ _ h => h.elim⟩
def sp_l_ask (K : PySem.W.Frag) (T : Tb) (CP CC : Addr) : Sp := fun vs H Q E => ∃ (c : Addr) (A : Ad) (s : Ch) (d : Addr) (D : Deed), vs = [.ref c, .ref d] ∧ SqT K H d (Deed.vs D) ∧ ChAt K CC H c A s ∧ (∀ n p, D ≠ .enter n p) ∧ Side s ∧ (∀ m ∈ s.marks, m.length ≤ 4900) ∧ s.leaving.length ≤ 1000 ∧ s.tempos.length ≤ 1000 ∧
  (Deed.no s D = none → ∀ H', Sx T (ownC c A) H H' → ChAt K CC H' c A (Deed.to s D) → Q .non H') ∧ (∀ wd, Deed.no s D = some wd → ∀ cls d H', Sm T H H' → Rf K CP wd cls d H' → E cls d H')
theorem ok_l_ask {f : Addr} {fd : FuncData} (F : Fun K "_law_ask" "_law_ask" s_l_ask f fd) {CP : Addr} {CC : Addr} (TC : Kl K CC) (M_call : Mx P w K mg base CC 5 "call" ["self", "name"] (sp_p_Chain_call K T CP CC)) (M_set_pace : Mx P w K mg base CC 5 "set_pace" ["self", "name", "pace"] (sp_p_Chain_set_pace K T CP CC)) (M_stay : Mx P w K mg base CC 5 "stay" ["self", "name"] (sp_p_Chain_stay K T CP CC)) (M_swap : Mx P w K mg base CC 5 "swap" ["self", "name"] (sp_p_Chain_swap K T CP CC)) : FnOk P w K mg base (L2.CX P w) 6 f fd ["_law_line", "_law_deed"] (sp_l_ask K T CP CC) := by
  refine F.okX sc_l_ask (fun vs H Q E h => ?_) (fun cdv A outer s H vs Q E hr h => ?_)
  · obtain ⟨c, A, s, d, D, rfl, _⟩ := h
    rfl
  · obtain ⟨c, A, s, d, D, rfl, hd, h, hne, sd, hmm, hl, ht, k1, k2⟩ := h
    refine ⟨_, (pss_cons (ps_if (pt_cmpR op_eq (pe_ix ix_tup (pv 1) pe_int (fun _ _ => rfl)) pe_str (nomark _)) (pss_one (ps_ret pe_never)) pss_nil)
      (pss_cons (ps_if (pt_cmpR op_eq (pe_ix ix_tup (pv 1) pe_int (fun _ _ => rfl)) pe_str (nomark _)) (pss_one (ps_ret (pe_mx M_call TC.cl (hr.mono (by decide)) (takes_of rfl rfl rfl rfl) (pv 0) (pa_cons (pe_ix ix_tup (pv 1) pe_int (fun _ _ => rfl)) pa_nil)))) pss_nil)
      (pss_cons (ps_if (pt_cmpR op_eq (pe_ix ix_tup (pv 1) pe_int (fun _ _ => rfl)) pe_str (nomark _)) (pss_one (ps_ret (pe_mx M_stay TC.cl (hr.mono (by decide)) (takes_of rfl rfl rfl rfl) (pv 0) (pa_cons (pe_ix ix_tup (pv 1) pe_int (fun _ _ => rfl)) pa_nil)))) pss_nil)
      (pss_cons (ps_if (pt_cmpR op_eq (pe_ix ix_tup (pv 1) pe_int (fun _ _ => rfl)) pe_str (nomark _)) (pss_one (ps_ret (pe_mx M_swap TC.cl (hr.mono (by decide)) (takes_of rfl rfl rfl rfl) (pv 0) (pa_cons (pe_ix ix_tup (pv 1) pe_int (fun _ _ => rfl)) pa_nil)))) pss_nil)
      (pss_cons (ps_if (pt_cmpR op_eq (pe_ix ix_tup (pv 1) pe_int (fun _ _ => rfl)) pe_str (nomark _)) (pss_one (ps_ret (pe_mx M_set_pace TC.cl (hr.mono (by decide)) (takes_of rfl rfl rfl rfl) (pv 0) (pa_cons (pe_ix ix_tup (pv 1) pe_int (fun _ _ => rfl)) (pa_cons (pe_ix ix_tup (pv 1) pe_int (fun _ _ => rfl)) pa_nil))))) pss_nil)
      (pss_cons (ps_if (pt_cmpR op_eq (pe_ix ix_tup (pv 1) pe_int (fun _ _ => rfl)) pe_str (nomark _)) (pss_one (ps_ret pe_never)) pss_nil)
      (pss_one (ps_ret pe_never)))))))), ?_⟩
    cases D with
    | enter n p => exact absurd rfl (hne n p)
    | call n =>
      refine ⟨_, rfl, d, _, _, .str "call", rfl, rfl, hd, at_of (j := 0) rfl rfl, rfl, _, rfl, ifN (sN "call" "enter" (by decide +kernel)) ?_⟩
      refine ⟨_, rfl, d, _, _, .str "call", rfl, rfl, hd, at_of (j := 0) rfl rfl, rfl, _, rfl, ifY (decide_eq_true rfl) ?_⟩
      refine ⟨_, rfl, c, _, _, rfl, h.ins, fl_no (by decide +kernel), _, rfl, d, _, _, .str n, rfl, rfl, hd, at_of (j := 1) rfl rfl, c, A, s, n, rfl, h, hl, k1, k2⟩
    | stay n =>
      refine ⟨_, rfl, d, _, _, .str "stay", rfl, rfl, hd, at_of (j := 0) rfl rfl, rfl, _, rfl, ifN (sN "stay" "enter" (by decide +kernel)) ?_⟩
      refine ⟨_, rfl, d, _, _, .str "stay", rfl, rfl, hd, at_of (j := 0) rfl rfl, rfl, _, rfl, ifN (sN "stay" "call" (by decide +kernel)) ?_⟩
      refine ⟨_, rfl, d, _, _, .str "stay", rfl, rfl, hd, at_of (j := 0) rfl rfl, rfl, _, rfl, ifY (decide_eq_true rfl) ?_⟩
      exact ⟨_, rfl, c, _, _, rfl, h.ins, fl_no (by decide +kernel), _, rfl, d, _, _, .str n, rfl, rfl, hd, at_of (j := 1) rfl rfl, c, A, s, n, rfl, h, k1, k2⟩
    | swap n =>
      refine ⟨_, rfl, d, _, _, .str "swap", rfl, rfl, hd, at_of (j := 0) rfl rfl, rfl, _, rfl, ifN (sN "swap" "enter" (by decide +kernel)) ?_⟩
      refine ⟨_, rfl, d, _, _, .str "swap", rfl, rfl, hd, at_of (j := 0) rfl rfl, rfl, _, rfl, ifN (sN "swap" "call" (by decide +kernel)) ?_⟩
      refine ⟨_, rfl, d, _, _, .str "swap", rfl, rfl, hd, at_of (j := 0) rfl rfl, rfl, _, rfl, ifN (sN "swap" "stay" (by decide +kernel)) ?_⟩
      refine ⟨_, rfl, d, _, _, .str "swap", rfl, rfl, hd, at_of (j := 0) rfl rfl, rfl, _, rfl, ifY (decide_eq_true rfl) ?_⟩
      exact ⟨_, rfl, c, _, _, rfl, h.ins, fl_no (by decide +kernel), _, rfl, d, _, _, .str n, rfl, rfl, hd, at_of (j := 1) rfl rfl, c, A, s, n, rfl, h, sd, hmm, k1, k2⟩
    | pace n p =>
      refine ⟨_, rfl, d, _, _, .str "pace", rfl, rfl, hd, at_of (j := 0) rfl rfl, rfl, _, rfl, ifN (sN "pace" "enter" (by decide +kernel)) ?_⟩
      refine ⟨_, rfl, d, _, _, .str "pace", rfl, rfl, hd, at_of (j := 0) rfl rfl, rfl, _, rfl, ifN (sN "pace" "call" (by decide +kernel)) ?_⟩
      refine ⟨_, rfl, d, _, _, .str "pace", rfl, rfl, hd, at_of (j := 0) rfl rfl, rfl, _, rfl, ifN (sN "pace" "stay" (by decide +kernel)) ?_⟩
      refine ⟨_, rfl, d, _, _, .str "pace", rfl, rfl, hd, at_of (j := 0) rfl rfl, rfl, _, rfl, ifN (sN "pace" "swap" (by decide +kernel)) ?_⟩
      refine ⟨_, rfl, d, _, _, .str "pace", rfl, rfl, hd, at_of (j := 0) rfl rfl, rfl, _, rfl, ifY (decide_eq_true rfl) ?_⟩
      exact ⟨_, rfl, c, _, _, rfl, h.ins, fl_no (by decide +kernel), _, rfl, d, _, _, .str n, rfl, rfl, hd, at_of (j := 1) rfl rfl, _, rfl, d, _, _, .int p, rfl, rfl, hd, at_of (j := 2) rfl rfl, c, A, s, n, p, rfl, h, ht, k1, k2⟩

/-! ### small things of the laws of comings and deeds -/
theorem app_len (x y : Str) : (x ++ y).length = x.length + y.length := by rw [str_len, str_app, List.length_append]; rfl
theorem putL_keys {α : Type} {l : List (Str × α)} {n : Str} {a : α} (nd : (l.map (·.1)).Nodup) (h : getL l n = none) : ((putL l n a).map (·.1)).Nodup := by
  have na : ¬ (l.any fun x => decide (x.1 = n)) = true := fun z => by
    obtain ⟨x, hx, hd⟩ := List.any_eq_true.mp z
    unfold getL at h
    rw [Option.map_eq_none_iff, List.find?_eq_none] at h
    exact h x hx hd
  unfold putL
  rw [if_neg na, List.map_append, List.nodup_append]
  refine ⟨nd, by simp, fun x hx y hy e => na ?_⟩
  obtain ⟨z, hz, rfl⟩ := List.mem_map.mp hx
  exact List.any_eq_true.mpr ⟨z, hz, decide_eq_true (by rw [e]; simpa using hy)⟩
theorem enterW_none {s : Ch} {n : Str} {p : Int} (h : enterW s n p = none) : nameB n = true ∧ n ∉ s.row ∧ s.row.length < 8 := by
  unfold enterW at h
  split at h
  · rename_i hb
    split at h
    · cases h
    · rename_i hm
      split at h
      · split at h
        · rename_i h8
          exact ⟨hb, hm, h8⟩
        · cases h
      · cases h
  · cases h
theorem enterW_ne {s : Ch} {n : Str} {p : Int} {wd : Str} (h : enterW s n p = some wd) : wd ≠ "" := by
  unfold enterW at h
  split at h
  · split at h
    · cases h; decide
    · split at h
      · split at h
        · cases h
        · cases h; decide
      · cases h; decide
  · cases h; decide
theorem pow30 : CPow 10 30 := ⟨by decide, by decide, by decide⟩
theorem way_ok' {qs : List Am} (h : wayB qs = true) : ∀ q ∈ qs, wOk q = true := by
  unfold wayB at h
  simp only [Bool.and_eq_true, List.all_eq_true] at h
  exact h.2

/-! ### a chain that has not gone yet: hands come, are called, stay, change places, take paces -/
theorem stRows0 {l : List (Str × Rat)} (h : ∀ x ∈ l, x.2 = 0) : stRows l = [] := by
  have : ∀ l : List (Str × Rat), (∀ x ∈ l, x.2 = 0) → l.foldl stStep ([], 0) = ([], 0) := by
    intro l
    induction l with
    | nil => intro _; rfl
    | cons x l ih =>
      intro h
      have e : stStep ([], 0) x = ([], 0) := if_pos (h x List.mem_cons_self)
      rw [List.foldl_cons, e]
      exact ih fun y hy => h y (List.mem_cons_of_mem _ hy)
  unfold stRows stFold
  rw [this l h]
structure E12 (s : Ch) (i : Nat) : Prop where
  mk' ::
  ll : s.loads.length = s.row.length
  ls : s.spots.length = s.row.length
  n8 : s.row.length ≤ 8
  nd : s.row.Nodup
  tp : ∀ n ∈ s.row, (getL s.tempos n).isSome = true
  mks : ∀ m ∈ s.marks, ∀ x ∈ m, x.2 = 0
  mm : ∀ m ∈ s.marks, m.length ≤ 2 * i
  sp : ∀ x ∈ s.spots, x = 0
  ml : s.marks.length ≤ i
  po : s.poured = []
  lr : ∀ x ∈ s.leaving, x ∈ s.row
  lv : s.leaving.Nodup
  gl : s.ledgers.length ≤ i
  ln : (s.ledgers.map (·.1)).Nodup
  tl : s.tempos.length ≤ i
  ld : ∀ l ∈ s.loads, 0 ≤ l ∧ l < (s.marks.length : Int)
theorem E12.ask {s : Ch} {i : Nat} (h : E12 s i) (hi : i ≤ 2000) : Ask s := ⟨h.ll, h.ls, h.n8, h.nd, h.tp, by have := h.ml; omega, fun m hm => Nat.le_trans (h.mm m hm) (by omega), by rw [h.po]; exact Nat.zero_le _, by have := h.gl; omega, h.ln⟩
theorem E12.nc {s : Ch} {i : Nat} (h : E12 s i) : Nc s := ⟨h.ln, h.lr⟩
theorem E12.side {s : Ch} {i : Nat} (h : E12 s i) : Side s := ⟨h.ll, h.ls, h.n8, h.ld⟩
theorem nd_le : ∀ {l r : List Str}, l.Nodup → (∀ x ∈ l, x ∈ r) → l.length ≤ r.length
  | [], _, _, _ => Nat.zero_le _
  | x :: l, r, hn, hs => by
    have hx := hs x List.mem_cons_self
    have := nd_le (l := l) (r := r.erase x) (List.nodup_cons.mp hn).2 fun y hy => (List.mem_erase_of_ne (fun e => (List.nodup_cons.mp hn).1 (by rw [← e]; exact hy))).mpr (hs y (List.mem_cons_of_mem _ hy))
    rw [List.length_erase_of_mem hx] at this
    have : 0 < r.length := List.length_pos_of_mem hx
    show l.length + 1 ≤ _
    omega
theorem E12.lvl {s : Ch} {i : Nat} (h : E12 s i) : s.leaving.length ≤ 8 := Nat.le_trans (nd_le h.lv h.lr) h.n8
theorem E12.up {s : Ch} {i j : Nat} (h : E12 s i) (hij : i ≤ j) : E12 s j := ⟨h.ll, h.ls, h.n8, h.nd, h.tp, h.mks, fun m hm => Nat.le_trans (h.mm m hm) (by omega), h.sp, Nat.le_trans h.ml hij, h.po, h.lr, h.lv, Nat.le_trans h.gl hij, h.ln, Nat.le_trans h.tl hij, h.ld⟩
theorem E12.new (L : Int) (qs : List Am) : E12 (newS L qs) 0 := ⟨rfl, rfl, Nat.zero_le _, List.nodup_nil, fun _ h => (nomatch h), fun _ h => (nomatch h), fun _ h => (nomatch h), fun _ h => (nomatch h), Nat.le_refl _, rfl, fun _ h => (nomatch h), List.nodup_nil, Nat.le_refl _, List.nodup_nil, Nat.le_refl _, fun _ h => (nomatch h)⟩
theorem E12.ts {s : Ch} {i : Nat} (h : E12 s i) : tsOf s = List.replicate s.marks.length [] := by
  unfold tsOf
  rw [List.eq_replicate_iff]
  refine ⟨by rw [List.length_map, List.length_range], fun b hb => ?_⟩
  obtain ⟨k, _, rfl⟩ := List.mem_map.mp hb
  unfold storyM
  refine stRows0 fun x hx => ?_
  rcases List.mem_append.mp hx with z | z
  · rcases Nat.lt_or_ge k s.marks.length with y | y
    · exact h.mks _ (getD_mem (d := []) y) x z
    · rw [List.getD_eq_getElem?_getD, List.getElem?_eq_none y] at z; exact (nomatch z)
  · unfold bearer at z
    split at z
    · rename_i hm
      rw [List.mem_singleton.mp z]
      exact h.sp _ (getD_mem (d := (0 : Rat)) (by rw [h.ls, ← h.ll]; exact List.idxOf_lt_length_of_mem hm))
    · exact (nomatch z)
theorem E12.enter {s : Ch} {i : Nat} (h : E12 s i) {n : Str} {p : Int} (e : enterW s n p = none) : E12 (enterS s n p) (i + 1) := by
  obtain ⟨hb, hm, h8⟩ := enterW_none e
  have hml : (enterS s n p).marks.length = s.marks.length + 1 := by
    show (s.marks ++ [[]]).length = _
    rw [List.length_append]
    rfl
  refine ⟨congrArg (· + 1) h.ll, congrArg (· + 1) h.ls, h8, List.nodup_cons.mpr ⟨hm, h.nd⟩, fun n' hn' => ?_, fun m hm' => ?_, fun m hm' => ?_, fun x hx => ?_, ?_, h.po, fun x hx => List.mem_cons_of_mem _ (h.lr x hx), h.lv, ?_, ?_, Nat.le_trans (putL_len _ _ _) (Nat.succ_le_succ h.tl), fun l hl => ?_⟩
  · show (getL (putL s.tempos n p) n').isSome = true
    rw [getL_put]
    split
    · rfl
    · rename_i hne
      have hn' : n' ∈ n :: s.row := hn'
      exact h.tp n' ((List.mem_cons.mp hn').resolve_left fun z => hne z.symm)
  · have hm' : m ∈ s.marks ++ [[]] := hm'
    rcases List.mem_append.mp hm' with z | z
    · exact h.mks m z
    · rw [List.mem_singleton.mp z]; exact fun _ h => (nomatch h)
  · have hm' : m ∈ s.marks ++ [[]] := hm'
    rcases List.mem_append.mp hm' with z | z
    · exact Nat.le_trans (h.mm m z) (by omega)
    · rw [List.mem_singleton.mp z]; exact Nat.zero_le _
  · have hx : x ∈ (0 : Rat) :: s.spots := hx
    rcases List.mem_cons.mp hx with z | z
    · exact z
    · exact h.sp x z
  · rw [hml]
    exact Nat.succ_le_succ h.ml
  · show (if (getL s.ledgers n).isSome = true then s.ledgers else putL s.ledgers n (0, 0, 0)).length ≤ i + 1
    split
    · exact Nat.le_succ_of_le h.gl
    · exact Nat.le_trans (putL_len _ _ _) (Nat.succ_le_succ h.gl)
  · show ((if (getL s.ledgers n).isSome = true then s.ledgers else putL s.ledgers n (0, 0, 0)).map (·.1)).Nodup
    cases g : getL s.ledgers n with
    | some x => exact h.ln
    | none => exact putL_keys h.ln g
  · rw [hml]
    have hl : l ∈ ((s.marks.length : Nat) : Int) :: s.loads := hl
    rcases List.mem_cons.mp hl with z | z
    · omega
    · have := h.ld l z
      omega
theorem E12.tsE {s : Ch} {i : Nat} (h : E12 s i) {n : Str} {p : Int} (e : enterW s n p = none) : tsOf (enterS s n p) = tsOf s ++ [[]] := by
  rw [(h.enter e).ts, h.ts]
  have hml : (enterS s n p).marks.length = s.marks.length + 1 := by
    show (s.marks ++ [[]]).length = _
    rw [List.length_append]
    rfl
  rw [hml, List.replicate_succ']
theorem swapL_perm {l : List Str} {i : Nat} (h : i + 1 < l.length) : (swapL l i).Perm l := by
  rw [swapL_cut h]
  have e : l = l.take i ++ [l.getD i "", l.getD (i + 1) ""] ++ l.drop (i + 2) := by
    rw [getD_lt h, getD_lt (show i < l.length by omega)]
    have e1 : l.drop i = l[i] :: l[i + 1] :: l.drop (i + 2) := by
      rw [List.drop_eq_getElem_cons (show i < l.length by omega), List.drop_eq_getElem_cons h]
    rw [List.append_assoc]
    show l = l.take i ++ (l[i] :: l[i + 1] :: l.drop (i + 2))
    rw [← e1, List.take_append_drop]
  conv => rhs; rw [e]
  exact ((List.Perm.swap _ _ []).append_left _).append_right _
theorem markS_e {s : Ch} {i j : Nat} (h : E12 s i) {b : Nat} (hb : ∀ m ∈ s.marks, m.length ≤ b) (hj : j < s.row.length) : (∀ m ∈ (markS s j).marks, m.length ≤ b + 1) ∧ (∀ m ∈ (markS s j).marks, ∀ x ∈ m, x.2 = 0) := by
  have hl : (s.marks.getD (s.loads.getD j 0).toNat []) ∈ s.marks := by
    have := h.ld _ (getD_mem (d := (0 : Int)) (show j < s.loads.length by rw [h.ll]; exact hj))
    exact getD_mem (by omega)
  have hz : s.spots.getD j 0 = 0 := h.sp _ (getD_mem (by rw [h.ls]; exact hj))
  constructor
  · intro m hm
    have hm : m ∈ s.marks.set _ _ := hm
    rcases List.mem_or_eq_of_mem_set hm with z | z
    · exact Nat.le_succ_of_le (hb m z)
    · rw [z, List.length_append]
      exact Nat.succ_le_succ (hb _ hl)
  · intro m hm x hx
    have hm : m ∈ s.marks.set _ _ := hm
    rcases List.mem_or_eq_of_mem_set hm with z | z
    · exact h.mks m z x hx
    · rw [z] at hx
      rcases List.mem_append.mp hx with y | y
      · exact h.mks _ hl x y
      · rw [List.mem_singleton.mp y]; exact hz
theorem swapW_none {s : Ch} {n : Str} (e : swapW s n = none) : n ∈ s.row ∧ s.row.idxOf n + 1 < s.row.length := by
  unfold swapW at e
  split at e
  · rename_i hm
    split at e
    · cases e
    · rename_i hl
      have := List.idxOf_lt_length_of_mem hm
      exact ⟨hm, by omega⟩
  · cases e
theorem swapL_len (l : List Str) (i : Nat) : (swapL l i).length = l.length := by unfold swapL; rw [List.length_set, List.length_set]
theorem markS_ml (s : Ch) (j : Nat) : (markS s j).marks.length = s.marks.length := by
  show (s.marks.set _ _).length = _
  rw [List.length_set]
theorem E12.mark {s : Ch} {i j : Nat} (h : E12 s i) (hj : j < s.row.length) : (∀ m ∈ (markS s j).marks, m.length ≤ 2 * i + 1) ∧ (∀ m ∈ (markS s j).marks, ∀ x ∈ m, x.2 = 0) := markS_e h h.mm hj
theorem E12.swap {s : Ch} {i : Nat} (h : E12 s i) {n : Str} (e : swapW s n = none) : E12 (swapS s n) (i + 1) := by
  obtain ⟨hm, hl⟩ := swapW_none e
  have pm := swapL_perm hl
  have a1 := h.mark (j := s.row.idxOf n) (by omega)
  have e1 : E12 (markS s (s.row.idxOf n)) (i + 1) := ⟨h.ll, h.ls, h.n8, h.nd, h.tp, a1.2, fun m hm => Nat.le_trans (a1.1 m hm) (by omega), h.sp, by rw [markS_ml]; exact Nat.le_succ_of_le h.ml, h.po, h.lr, h.lv, Nat.le_succ_of_le h.gl, h.ln, Nat.le_succ_of_le h.tl, fun l hl => by rw [markS_ml]; exact h.ld l hl⟩
  have a2 := markS_e (j := s.row.idxOf n + 1) e1 a1.1 hl
  have ml : (swapS s n).marks.length = s.marks.length := (markS_ml (markS s (s.row.idxOf n)) _).trans (markS_ml _ _)
  exact ⟨h.ll.trans (swapL_len _ _).symm, h.ls.trans (swapL_len _ _).symm, by show (swapL _ _).length ≤ 8; rw [swapL_len]; exact h.n8, pm.nodup_iff.mpr h.nd, fun n' hn' => h.tp n' (pm.mem_iff.mp hn'), a2.2, fun m hm => Nat.le_trans (a2.1 m hm) (by omega), h.sp, by rw [ml]; exact Nat.le_succ_of_le h.ml, h.po, fun x hx => pm.mem_iff.mpr (h.lr x hx), h.lv, Nat.le_succ_of_le h.gl, h.ln, Nat.le_succ_of_le h.tl, fun l hl => by rw [ml]; exact h.ld l hl⟩
theorem E12.step {s : Ch} {i : Nat} (h : E12 s i) {D : Deed} (hD : ∀ n p, D ≠ .enter n p) (e : Deed.no s D = none) : E12 (Deed.to s D) (i + 1) ∧ (Deed.to s D).marks.length = s.marks.length := by
  cases D with
  | enter n p => exact absurd rfl (hD n p)
  | swap n => exact ⟨h.swap e, (markS_ml (markS s (s.row.idxOf n)) _).trans (markS_ml _ _)⟩
  | call n =>
    have e : callW s n = none := e
    unfold callW at e
    split at e
    · rename_i hm
      split at e
      · cases e
      · rename_i hv
        have h := h.up (Nat.le_succ i)
        refine ⟨⟨h.ll, h.ls, h.n8, h.nd, h.tp, h.mks, h.mm, h.sp, h.ml, h.po, fun x hx => ?_, ?_, h.gl, h.ln, h.tl, h.ld⟩, rfl⟩
        · have hx : x ∈ s.leaving ++ [n] := hx
          rcases List.mem_append.mp hx with z | z
          · exact h.lr x z
          · rw [List.mem_singleton.mp z]; exact hm
        · show (s.leaving ++ [n]).Nodup
          rw [List.nodup_append]
          exact ⟨h.lv, by simp, fun a ha b hb e => hv (by rw [← List.mem_singleton.mp hb, ← e]; exact ha)⟩
    · cases e
  | stay n =>
    have h := h.up (Nat.le_succ i)
    exact ⟨⟨h.ll, h.ls, h.n8, h.nd, h.tp, h.mks, h.mm, h.sp, h.ml, h.po, fun x hx => h.lr x (List.mem_of_mem_eraseIdx hx), h.lv.sublist (List.eraseIdx_sublist _ _), h.gl, h.ln, h.tl, h.ld⟩, rfl⟩
  | pace n p =>
    refine ⟨⟨h.ll, h.ls, h.n8, h.nd, fun n' hn' => ?_, h.mks, fun m hm => Nat.le_trans (h.mm m hm) (by omega), h.sp, Nat.le_succ_of_le h.ml, h.po, h.lr, h.lv, Nat.le_succ_of_le h.gl, h.ln, Nat.le_trans (putL_len _ _ _) (Nat.succ_le_succ h.tl), h.ld⟩, rfl⟩
    show (getL (putL s.tempos n p) n').isSome = true
    rw [getL_put]
    split
    · rfl
    · exact h.tp n' hn'
theorem E12.tsD {s : Ch} {i : Nat} (h : E12 s i) {D : Deed} (hD : ∀ n p, D ≠ .enter n p) (e : Deed.no s D = none) : tsOf (Deed.to s D) = tsOf s := by
  obtain ⟨h1, h2⟩ := h.step hD e
  rw [h1.ts, h.ts, h2]
theorem no_ne {s : Ch} {D : Deed} (hD : ∀ n p, D ≠ .enter n p) {wd : Str} (e : Deed.no s D = some wd) : wd ≠ "" := by
  cases D with
  | enter n p => exact absurd rfl (hD n p)
  | swap n =>
    have e : swapW s n = some wd := e
    unfold swapW at e
    split at e
    · split at e
      · cases e; decide
      · cases e
    · cases e; decide
  | call n =>
    have e : callW s n = some wd := e
    unfold callW at e
    split at e
    · split at e
      · cases e; decide
      · cases e
    · cases e; decide
  | stay n =>
    have e : stayW s n = some wd := e
    unfold stayW at e
    split at e
    · split at e
      · cases e
      · cases e; decide
    · cases e; decide
  | pace n p =>
    have e : paceW s n p = some wd := e
    unfold paceW at e
    split at e
    · split at e
      · cases e
      · cases e; decide
    · cases e; decide
theorem Drawn.at : ∀ {ds qs : List Int}, Drawn ds qs → ∀ {i : Nat} {q : Int}, qs[i]? = some q → ∃ d, ds[i]? = some d ∧ 0 ≤ d ∧ d < q
  | [], [], _, i, q, e => by simp at e
  | d :: ds, r :: qs, h, 0, q, e => by cases e; exact ⟨d, rfl, h.1⟩
  | d :: ds, r :: qs, h, i + 1, q, e => h.2.at (i := i) e
  | [], _ :: _, h, _, _, _ => h.elim
  | _ :: _, [], h, _, _, _ => h.elim
theorem paceB_of {p : Int} (h0 : 1 ≤ p) (h1 : p ≤ 12) : paceB p = true := by unfold paceB; rw [decide_eq_true h0, decide_eq_true h1]; rfl
theorem enterW_new {s : Ch} {k : Nat} {z p : Int} (hr : ∀ x ∈ s.row, ∃ j, j < k ∧ x = nameF j z) (hk : k < 8) (hl : s.row.length = k) (h0 : 1 ≤ p) (h1 : p ≤ 12) : enterW s (nameF k z) p = none := by
  unfold enterW
  rw [if_pos (name_ok k z).1, if_neg (fun h => by obtain ⟨j, hj, e⟩ := hr _ h; have := name_inj (by omega) (by omega) e; omega), if_pos (paceB_of h0 h1), if_pos (by omega)]

def sp_l_odd_name (K : PySem.W.Frag) (T : Tb) : Sp := fun vs H Q _ => ∃ (n : Str) (k : Int), vs = [.str n, .int k] ∧ n.length ≤ 100 ∧ ∀ (n' : Str) H', Sm T H H' → n'.length ≤ 200 → Q (.str n') H'
theorem ok_l_odd_name {f : Addr} {fd : FuncData} (F : Fun K "_law_odd_name" "_law_odd_name" s_l_odd_name f fd) : FnOk P w K mg base CX0 1 f fd ["_law_name_here", "_law_number"] (sp_l_odd_name K T) := by
  refine F.ok sc_l_odd_name (fun vs H Q E h => ?_) (fun cdv A outer s H vs Q E hr h => ?_)
  · obtain ⟨n, k, rfl, _⟩ := h
    rfl
  · obtain ⟨n, k, rfl, hn, q⟩ := h
    refine ⟨_, (pss_one (ps_ret (pe_ix ix_list (pe_lst (pa_cons pe_str (pa_cons (pe_op op_add_str (pv 0) pe_str) (pa_cons (pe_op op_repS pe_str pe_int) (pa_cons pe_str (pa_cons (pe_op op_add_str (pe_slice sl_str (pv 0) (po_some pe_int) po_none) pe_str) (pa_cons pe_str (pa_cons (pe_op op_repS pe_str pe_int) pa_nil)))))))) (pe_op op_mod (pv 1) pe_int) (fun _ _ => rfl)))), ?_⟩
    have sz1 : n.length ≤ sizeLine := Nat.le_trans hn (by decide)
    refine ⟨_, rfl, n, "A", rfl, rfl, Nat.le_trans (Nat.add_le_add_right hn 1) (by decide), "z", 9, rfl, rfl, ?_, ?_⟩
    · exact ⟨by decide, fun _ _ => by decide +kernel, fun _ _ => by decide +kernel⟩
    refine ⟨_, rfl, 1, rfl, n, rfl, sz1, _, "0", rfl, rfl, ?_, "q", 8, rfl, rfl, ?_, by show 7 ≤ sizeLine; decide, fun l2 n2 => ?_⟩
    · exact Nat.le_trans (Nat.add_le_add_right (Nat.le_trans (cutS_length n _ _) hn) 1) (by decide)
    · exact ⟨by decide, fun _ _ => by decide +kernel, fun _ _ => by decide +kernel⟩
    have hc := cutS_length n (some 1) none
    obtain ⟨wf, i, hi, hwf, hlf⟩ : ∃ (wf : Str) (i : Nat), k % 7 = (i : Int) ∧ ([V.str "", V.str (n ++ "A"), V.str (Txt.mul "z" 9), V.str "a b", V.str (cutS n (some 1) none ++ "0"), V.str "a\n", V.str (Txt.mul "q" 8)] : List V)[i]? = some (.str wf) ∧ wf.length ≤ 200 := by
      rcases (by omega : k % 7 = 0 ∨ k % 7 = 1 ∨ k % 7 = 2 ∨ k % 7 = 3 ∨ k % 7 = 4 ∨ k % 7 = 5 ∨ k % 7 = 6) with e | e | e | e | e | e | e
      · exact ⟨_, 0, e, rfl, by decide +kernel⟩
      · exact ⟨_, 1, e, rfl, by rw [app_len]; have : (("A" : Str)).length = 1 := by decide +kernel
                                omega⟩
      · exact ⟨_, 2, e, rfl, by decide +kernel⟩
      · exact ⟨_, 3, e, rfl, by decide +kernel⟩
      · exact ⟨_, 4, e, rfl, by rw [app_len]; have : (("0" : Str)).length = 1 := by decide +kernel
                                omega⟩
      · exact ⟨_, 5, e, rfl, by decide +kernel⟩
      · exact ⟨_, 6, e, rfl, by decide +kernel⟩
    exact ⟨_, rfl, _, _, rfl, rfl, (by decide : (0 : Int) < 7), l2, _, _, .str wf, rfl, rfl, SqL.of upd_same, at_of (j := i) hi hwf, q wf _ (same_upd n2) hlf⟩
/-- what is found of a deed -/
def fdN (o : Option Str) : PyData := match o with
  | none => .tuple [.str "told", .none]
  | some wd => .tuple [.str wd]
def sp_LAW (K : PySem.W.Frag) (T : Tb) (CP CC : Addr) : Sp := fun vs H Q _ => ∃ (a : Addr) (ns : List Int), vs = [.ref a] ∧ SqL K H a (ns.map V.int) ∧ ns.length ≤ 63 ∧ (∀ z ∈ ns, Builtin.Int.intBits z ≤ 1048576) ∧ Ok T H ∧ ∀ H', Q (.bl true) H'
theorem ok_LAW {f : Addr} {fd : FuncData} {c PT : Addr} (F : FunC K "law" "law" s_LAW f fd c) (hnT : (T.map (·.1)).Nodup) (hPT : (PT, some (("law" : Str) ++ ".<locals>." ++ "<lambda>")) ∈ T) (TB : LamX.TabB base mg c PT) (B : Bn mg) {CP : Addr} (W : Word K mg CP) {CC : Addr} (TC : Kl K CC) (F_l_cell : Fn P w K mg base 1 "_law_cell" ["_law_script", "_law_k"] (sp_l_cell K T)) (F_l_draws : Fn P w K mg base 1 "_law_draws" ["_law_cell_here", "_law_parts"] (sp_l_draws K T)) (F_l_many : Fn P w K mg base 1 "_law_many" ["_law_script", "_law_few"] (sp_l_many K T)) (M_enter : Mx P w K mg base CC 5 "enter" ["self", "name", "pace"] (sp_p_Chain_enter K T CP CC)) (M_init : Mnx P w K mg base CC 6 "Chain" ["self", "way"] (sp_p_Chain___init__ K T CP CC)) (F_l_same : Fn P w K mg base 6 "_law_same" ["_law_found", "_law_due"] (sp_l_same K T)) (F_l_name : Fn P w K mg base 2 "_law_name" ["_law_k", "_law_salt"] (sp_l_name K T)) (F_l_split : Fn P w K mg base 1 "_law_split" ["_law_cell_here", "_law_many_here"] (sp_l_split K T)) (F_l_way : Fn P w K mg base 2 "_law_way" ["_law_cell_here"] (sp_l_way K T)) (F_l_labour : Fn P w K mg base 1 "_law_labour" ["_law_way_here"] (sp_l_labour K T)) (F_l_new : Fn P w K mg base 1 "_law_new" ["_law_length"] (sp_l_new K T)) (F_l_enters : Fn P w K mg base 2 "_law_enters" ["_law_m", "_law_name_here", "_law_pace"] (sp_l_enters K T)) (F_l_stands : Fn P w K mg base 8 "_law_stands" ["_law_line", "_law_m"] (sp_l_stands K T CC)) (F_l_small : Fn P w K mg base 3 "_law_small" ["_law_m", "_law_deed"] (sp_l_small K T)) (F_l_ask : Fx P w K mg base 6 "_law_ask" ["_law_line", "_law_deed"] (sp_l_ask K T CP CC)) (F_l_odd_name : Fn P w K mg base 1 "_law_odd_name" ["_law_name_here", "_law_number"] (sp_l_odd_name K T)) : FnOk P w K mg base (L2.CX P w) 20 f fd ["_law_script"] (sp_LAW K T CP CC) := by
  refine F.okX sc_LAW (fun vs H Q E h => ?_) (fun A outer s H vs Q E hr h => ?_)
  · obtain ⟨a, ns, rfl, _⟩ := h
    rfl
  · obtain ⟨a, script, rfl, hS, hlen, hbits, hok, q⟩ := h
    refine ⟨_, (pss_cons (ps_asg (pe_fn F_l_split (hr.mono (by decide)) (pa_cons (pe_fn F_l_cell (hr.mono (by decide)) (pa_cons (pv 0) (pa_cons pe_int pa_nil))) (pa_cons pe_int pa_nil))) (pg_unl rfl (pgs_cons (pg_name (i := 1) sc_LAW.nd rfl (.inl rfl)) (pgs_cons (pg_name (i := 2) sc_LAW.nd rfl (.inl rfl)) (pgs_cons (pg_name (i := 3) sc_LAW.nd rfl (.inl rfl)) pgs_nil)))))
      (pss_cons (ps_set (i := 4) sc_LAW.nd rfl (.inl rfl) (pe_fn F_l_way (hr.mono (by decide)) (pa_cons (pv 1) pa_nil)))
      (pss_cons (ps_set (i := 16) sc_LAW.nd rfl (.inr rfl) (pe_mnx M_init (hr.mono (by decide)) (takes_of rfl rfl rfl rfl) (pa_cons (pv 4) pa_nil)))
      (pss_cons (ps_set (i := 5) sc_LAW.nd rfl (.inl rfl) (pe_fn F_l_new (hr.mono (by decide)) (pa_cons (pe_fn F_l_labour (hr.mono (by decide)) (pa_cons (pv 4) pa_nil)) pa_nil)))
      (pss_cons (ps_set (i := 6) sc_LAW.nd rfl (.inl rfl) (pe_ix ix_list (pe_fn F_l_draws (hr.mono (by decide)) (pa_cons (pv 3) (pa_cons (pe_lst (pa_cons pe_int pa_nil)) pa_nil))) pe_int (fun _ _ => rfl)))
      (pss_cons (ps_for (passes_of rfl) rfl (pi_range1 (by rfl) B.range_ (pa_cons (pv 6) pa_nil)) (pg_name (i := 7) sc_LAW.nd rfl (.inl rfl))
      (pss_cons (ps_set (i := 8) sc_LAW.nd rfl (.inl rfl) (pe_op op_add pe_int (pe_ix ix_list (pe_fn F_l_draws (hr.mono (by decide)) (pa_cons (pv 3) (pa_cons (pe_op op_cat (pe_lst (pa_cons pe_int pa_nil)) (pe_op op_rep (pe_lst (pa_cons pe_int pa_nil)) pe_int)) pa_nil))) (pe_op op_add pe_int (pv 7)) (fun _ _ => rfl))))
      (pss_cons (ps_expr (pe_mx M_enter TC.cl (hr.mono (by decide)) (takes_of rfl rfl rfl rfl) (pv 16) (pa_cons (pe_fn F_l_name (hr.mono (by decide)) (pa_cons (pv 7) (pa_cons (pv 2) pa_nil))) (pa_cons (pv 8) pa_nil))))
      (pss_one (ps_expr (pe_fn F_l_enters (hr.mono (by decide)) (pa_cons (pv 5) (pa_cons (pe_fn F_l_name (hr.mono (by decide)) (pa_cons (pv 7) (pa_cons (pv 2) pa_nil))) (pa_cons (pv 8) pa_nil)))))))))
      (pss_cons (ps_for (passes_of rfl) rfl (pi_range2 (by rfl) B.range_ (pa_cons pe_int (pa_cons (pe_fn F_l_many (hr.mono (by decide)) (pa_cons (pv 0) (pa_cons pe_int pa_nil))) pa_nil))) (pg_name (i := 7) sc_LAW.nd rfl (.inl rfl))
      (pss_cons (ps_asg (pe_fn F_l_draws (hr.mono (by decide)) (pa_cons (pe_fn F_l_cell (hr.mono (by decide)) (pa_cons (pv 0) (pa_cons (pv 7) pa_nil))) (pa_cons (pe_lst (pa_cons pe_int (pa_cons pe_int (pa_cons pe_int (pa_cons pe_int pa_nil))))) pa_nil))) (pg_unl rfl (pgs_cons (pg_name (i := 9) sc_LAW.nd rfl (.inl rfl)) (pgs_cons (pg_name (i := 10) sc_LAW.nd rfl (.inl rfl)) (pgs_cons (pg_name (i := 8) sc_LAW.nd rfl (.inl rfl)) (pgs_cons (pg_name (i := 11) sc_LAW.nd rfl (.inl rfl)) pgs_nil))))))
      (pss_cons (ps_set (i := 15) sc_LAW.nd rfl (.inr rfl) (pe_tup (pa_cons (pe_ix ix_list (pe_lst (pa_cons pe_str (pa_cons pe_str (pa_cons pe_str (pa_cons pe_str (pa_cons pe_str (pa_cons pe_str (pa_cons pe_str (pa_cons pe_str (pa_cons pe_str pa_nil)))))))))) (pv 9) (fun _ _ => rfl)) (pa_cons (pe_fn F_l_name (hr.mono (by decide)) (pa_cons (pv 10) (pa_cons (pv 2) pa_nil))) pa_nil))))
      (pss_cons (ps_if (pt_cmpR op_eq (pe_ix ix_tup (pv 15) pe_int (fun _ _ => rfl)) pe_str (nomark _)) (pss_one (ps_set (i := 15) sc_LAW.nd rfl (.inr rfl) (pe_op op_catA (pv 15) (pe_tup (pa_cons (pe_ifExp (pt_cmpR op_lt (pv 11) pe_int (nomark _)) (pe_ix ix_list (pe_lst (pa_cons pe_int (pa_cons pe_int (pa_cons (pe_un un_neg pe_int) (pa_cons (pe_op op_pow pe_int pe_int) pa_nil))))) (pv 11) (fun _ _ => rfl)) (pe_op op_add pe_int (pv 8))) pa_nil))))) (pss_one (ps_if (pt_cmpR op_eq (pv 11) pe_int (nomark _)) (pss_one (ps_set (i := 15) sc_LAW.nd rfl (.inr rfl) (pe_tup (pa_cons (pe_ix ix_tup (pv 15) pe_int (fun _ _ => rfl)) (pa_cons (pe_fn F_l_odd_name (hr.mono (by decide)) (pa_cons (pe_ix ix_tup (pv 15) pe_int (fun _ _ => rfl)) (pa_cons (pv 8) pa_nil))) pa_nil))))) pss_nil)))
      (pss_cons (ps_asg (pe_fn F_l_small (hr.mono (by decide)) (pa_cons (pv 5) (pa_cons (pv 15) pa_nil))) (pg_tup rfl (pgs_cons (pg_name (i := 12) sc_LAW.nd rfl (.inl rfl)) (pgs_cons (pg_name (i := 13) sc_LAW.nd rfl (.inl rfl)) pgs_nil))))
      (pss_cons (ps_set (i := 14) sc_LAW.nd rfl (.inl rfl) (pe_word (k := 9) W hnT (by rfl) TB rfl hPT (hr.mono (by decide)) (LamX.lamS_by (sc := defScope s_LAW) (by decide +kernel)) rfl (fun _ _ _ _ _ => rfl) (fun A outer s H E f c' hr => (pe_fx (E := E) F_l_ask (hr.mono (by decide)) (takes_of rfl rfl rfl rfl) (pa_cons (pv 16) (pa_cons (pv 15) pa_nil))))))
      (pss_cons (ps_if (pt_not (pt_val (pe_fn F_l_same (hr.mono (by decide)) (pa_cons (pv 14) (pa_cons (pe_ifExp (pt_cmpR op_eq (pv 12) pe_str (nomark _)) (pe_tup (pa_cons pe_str (pa_cons pe_non pa_nil))) (pe_tup (pa_cons (pv 12) pa_nil))) pa_nil))))) (pss_one (ps_ret pe_bl)) pss_nil)
      (pss_one (ps_if (PW.pt (pw_and (pt_cmpR op_lt (pv 11) pe_int (nomark _)) (pw_and1 (pt_not (pt_val (pe_fn F_l_stands (hr.mono (by decide)) (pa_cons (pv 16) (pa_cons (pv 5) pa_nil)))))))) (pss_one (ps_ret pe_bl)) pss_nil)))))))))
      (pss_one (ps_ret (pe_fn F_l_stands (hr.mono (by decide)) (pa_cons (pv 16) (pa_cons (pv 5) pa_nil)))))))))))), ?_⟩
    refine ⟨_, rfl, a, script, 0, rfl, hS, by decide, fun c0 => ⟨c0, 3, rfl, by decide, fun o H1 zs s1 no eo hl => ?_⟩⟩
    obtain ⟨z1, z2, z3, rfl⟩ : ∃ z1 z2 z3, zs = [z1, z2, z3] := match zs, hl with | [z1, z2, z3], _ => ⟨z1, z2, z3, rfl⟩
    refine ⟨o, _, rfl, SqL.of eo, rfl, _, _, rfl, _, _, rfl, _, _, rfl, rfl, ?_⟩
    refine ⟨_, rfl, z1, rfl, fun w0 H2 us qs s2 nw ew hu hw => ?_⟩
    dsimp only [gName, List.set]
    have s02 := s1.trans s2
    have lw := wayB_b hw
    refine ⟨_, rfl, fun c' dx nc ndx nex => ?_⟩
    refine ⟨_, c', dx, w0, us, qs, rfl, rfl, nc, ndx, nex, SqL.of ew, hu, by omega, s02.ok hok, fun _ H4 A s4 ch4 fr4 => ⟨rfl, ?_⟩, fun z => absurd z (by rw [hw]; decide)⟩
    dsimp only [gName, List.set]
    have s04 := s02.trans s4
    have ew4 := s4.k ew
    have hu4 := dpa_same s4 _ _ hu
    have cH : ∀ x ∈ ownC c' A, H x = none := fun x hx => s02.free _ (fr4 x hx)
    refine ⟨_, rfl, w0, us, qs, rfl, SqL.of ew4, hu4, way_ok' hw, labourM qs, rfl, fun m Y H8 qs' s8 fm ma8 => ?_⟩
    dsimp only [gName, List.set]
    have s08 := s04.trans s8
    have ch8 := ch4.sm s8
    have dj8 : ∀ x ∈ ownC c' A, x ∉ ownM m Y [] := fun x hx z => by
      obtain ⟨o, e, _⟩ := ch4.some hx
      have := fm x z
      rw [e] at this
      cases this
    have mH : ∀ x ∈ ownM m Y [], H x = none := fun x hx => s04.free _ (fm x hx)
    have ma8' : MAt K H8 m Y [] [] [] (newS (labourM qs) qs) (tsOf (newS (labourM qs) qs)) := ⟨ma8.d, ma8.clk, ma8.row, ma8.ld, ma8.gn, ma8.tl, ma8.ta, ma8.pc, ma8.aw, ma8.led, ma8.nd⟩
    refine ⟨_, rfl, by show 1 ≤ sizeLine; decide, fun l1 nl1 => ⟨z3, l1, [9], rfl, SqL.of upd_same, by decide, by decide, fun pd HA ds sA npA eA hdr => ?_⟩⟩
    obtain ⟨n0, r1, rfl, h10, h11, hdr⟩ := hdr.cons
    obtain rfl := hdr.nil
    refine ⟨pd, _, _, .int n0, rfl, rfl, SqL.of eA, at_of (j := 0) rfl rfl, ?_⟩
    dsimp only [gName, List.set]
    obtain ⟨mn, rfl⟩ : ∃ mn : Nat, n0 = (mn : Int) := ⟨n0.toNat, by omega⟩
    have sAA := (same_upd (T := T) (o := HO.lst [V.int 9]) nl1).trans sA
    have s0A := s08.trans sAA
    have chA := ch8.sm sAA
    have maA := ma8'.sm sAA
    refine ⟨_, rfl, mn, rfl, by omega, by omega, for_range (lo := 0) (n := mn) (fun i σ H' => ∃ (s : Ch) (bs : List Addr) (lp : List (Str × Int)) (la : List (Str × Bool)) (x7 x8 : Option V), Sm T H H' ∧ ChAt K CC H' c' A s ∧ MAt K H' m Y bs lp la s (tsOf s) ∧ MOk lp la s ∧ E12 s i ∧ (lp.length ≤ i ∧ la.length ≤ i) ∧ (∀ x ∈ ownC c' A, x ∉ ownM m Y bs) ∧ (∀ x ∈ ownM m Y bs, H x = none) ∧ (∀ x ∈ s.row, ∃ j, j < i ∧ x = nameF j z2) ∧ s.row.length = i ∧ σ = [some (.ref a), some (.int z1), some (.int z2), some (.int z3), some (.ref w0), some (.ref m), some (.int mn), x7, x8, none, none, none, none, none, none, none, some (.ref c')]) ⟨newS (labourM qs) qs, [], [], [], _, _, s0A, chA, maA, ⟨fun _ h => (nomatch h), fun _ h => (nomatch h)⟩, E12.new _ _, ⟨Nat.le_refl _, Nat.le_refl _⟩, dj8, mH, fun _ h => (nomatch h), rfl, rfl⟩ ?_ ?_⟩
    · rintro i σ H9 hi ⟨s, bs, lp, la, x7, x8, s09, ch9, ma9, mo, en, ⟨lp9, la9⟩, dj, mH9, hrow, hrl, rfl⟩
      rw [show (0 : Int) + (i : Int) = (i : Int) from Int.zero_add _]
      dsimp only [gName, List.set]
      refine ⟨_, rfl, by show 1 ≤ sizeLine; decide, fun l2 nl2 => ⟨by show 1 ≤ sizeLine; decide, fun l3 nl3 => ?_⟩⟩
      have u2 := same_upd (T := T) (o := HO.lst [V.int 9]) nl2
      have u3 := same_upd (T := T) (o := HO.lst [V.int 12]) nl3
      refine ⟨l3, 8, [V.int 12], rfl, rfl, upd_same, by decide, by decide, by show 1 * 8 ≤ sizeLine; decide, fun l4 nl4 => ?_⟩
      have u4 := same_upd (T := T) (o := HO.lst (List.replicate (8 : Int).toNat [V.int 12]).flatten) nl4
      refine ⟨l2, l4, [V.int 9], _, rfl, rfl, (u3.trans u4).k upd_same, upd_same, by show 9 ≤ sizeLine; decide, fun l5 nl5 => ?_⟩
      have u5 := same_upd (T := T) (o := HO.lst ([V.int 9] ++ (List.replicate (8 : Int).toNat [V.int 12]).flatten)) nl5
      refine ⟨z3, l5, [9, 12, 12, 12, 12, 12, 12, 12, 12], rfl, SqL.of upd_same, by decide, by decide, fun pd2 HB ds sB npB eB hdr => ?_⟩
      have sB' := u2.trans (u3.trans (u4.trans (u5.trans sB)))
      clear u2 u3 u4 u5 sB nl2 nl3 nl4 nl5
      obtain ⟨d, hd, d0, d1⟩ := hdr.at (i := 1 + i) (q := 12) (by
        rcases (by omega : i = 0 ∨ i = 1 ∨ i = 2 ∨ i = 3 ∨ i = 4 ∨ i = 5 ∨ i = 6 ∨ i = 7) with rfl | rfl | rfl | rfl | rfl | rfl | rfl | rfl <;> rfl)
      refine ⟨_, rfl, _, _, rfl, rfl, pd2, _, _, .int d, rfl, rfl, SqL.of eB, at_of (j := 1 + i) (by omega) (by rw [List.getElem?_map, hd]; rfl), _, _, rfl, rfl, ?_⟩
      dsimp only [gName, List.set]
      have hew := enterW_new hrow (by omega) hrl (show 1 ≤ 1 + d by omega) (by omega)
      have nlen := (name_ok i z2).2
      have ell := en.ll
      have els := en.ls
      have eml := en.ml
      have egl := en.gl
      have etl := en.tl
      have hbl : bs.length = s.marks.length := by rw [ma9.ta.len]; unfold tsOf; rw [List.length_map, List.length_range]
      refine ⟨_, rfl, c', _, _, rfl, (ch9.sm sB').ins, fl_no (by decide +kernel), _, rfl, _, rfl, i, z2, rfl, by omega, fun HC sC => ?_⟩
      have sC' := sB'.trans sC
      refine ⟨_, rfl, c', A, s, nameF i z2, 1 + d, rfl, ch9.sm sC', Nat.le_trans nlen (by decide), (s09.trans sC').ok hok, ⟨by omega, by omega, by omega, by omega, by omega, by omega⟩, fun _ HD xD chD => ?_, fun wd eW => absurd eW (by rw [hew]; exact fun z => nomatch z)⟩
      have sD : Sm T H HD := Sx.sm ((((s09.trans sC').sx (S := [])).trans xD fun y hy => .inr (cH y hy)))
      have maD := (ma9.sm sC').sx xD fun x hx z => dj x z hx
      refine ⟨_, rfl, _, rfl, _, rfl, i, z2, rfl, by omega, fun HE sE => ?_⟩
      have chE := chD.sm sE
      refine ⟨_, rfl, m, Y, bs, lp, la, s, tsOf s, nameF i z2, 1 + d, rfl, maD.sm sE, en.nc, mo, by omega, ⟨by omega, by omega, by omega, by omega, by omega, by omega, by omega⟩, by unfold tsOf; rw [List.length_map, List.length_range], fun wd eW => absurd eW (by rw [hew]; exact fun z => nomatch z), fun _ t2 b HF lp' la' xF nb maF moF l1' l2' eF => ?_⟩
      have sDE := sD.trans sE
      refine ⟨enterS s (nameF i z2) (1 + d), bs ++ [b], lp', la', _, _, Sx.sm ((sDE.sx (S := [])).trans xF fun y hy => .inr (mH9 y hy)), chE.sx xF dj, by rw [en.tsE hew]; exact maF, moF, en.enter hew, ⟨by omega, by omega⟩, fun x hx z => ?_, fun x hx => ?_, fun x hx => ?_, congrArg (· + 1) hrl, rfl⟩
      · unfold ownM at z
        rw [← List.append_assoc] at z
        rcases List.mem_append.mp z with z | z
        · exact dj x hx z
        · obtain ⟨o, e, _⟩ := chE.some hx
          rw [List.mem_singleton.mp z, nb] at e
          cases e
      · unfold ownM at hx
        rw [← List.append_assoc] at hx
        rcases List.mem_append.mp hx with z | z
        · exact mH9 x z
        · rw [List.mem_singleton.mp z]; exact sDE.free _ nb
      · have hx : x ∈ nameF i z2 :: s.row := hx
        rcases List.mem_cons.mp hx with z | z
        · exact ⟨i, by omega, z⟩
        · obtain ⟨j, hj, e⟩ := hrow x z
          exact ⟨j, by omega, e⟩
    · rintro σ H9 ⟨s, bs, lp, la, x7, x8, s09, ch9, ma9, mo, en, ⟨lp9, la9⟩, dj, mH9, hrow, hrl, rfl⟩
      clear hrow hrl ma8' maA ma8 chA ch8 ch4 s0A s08 sAA s8 fm mH dj8 s04 fr4 s4 ew4 hu4
      refine ⟨_, rfl, a, script, 14, rfl, s09.seq hS, by decide, by decide, fun mm hmm => ?_⟩
      refine ⟨1, mm, rfl, ⟨by decide, by decide, by omega, by omega⟩, for_range (lo := 1) (n := ((mm : Int) - 1).toNat) (fun i σ H' => ∃ (s : Ch) (bs : List Addr) (lp : List (Str × Int)) (la : List (Str × Bool)) (x7 x8 x9 x10 x11 x12 x13 x14 x15 : Option V), Sm T H H' ∧ ChAt K CC H' c' A s ∧ MAt K H' m Y bs lp la s (tsOf s) ∧ MOk lp la s ∧ E12 s (mn + i) ∧ (lp.length ≤ mn + i ∧ la.length ≤ mn + i) ∧ (∀ x ∈ ownC c' A, x ∉ ownM m Y bs) ∧ (∀ x ∈ ownM m Y bs, H x = none) ∧ σ = [some (.ref a), some (.int z1), some (.int z2), some (.int z3), some (.ref w0), some (.ref m), some (.int mn), x7, x8, x9, x10, x11, x12, x13, x14, x15, some (.ref c')]) ⟨s, bs, lp, la, _, _, _, _, _, _, _, _, _, s09, ch9, ma9, mo, en, ⟨lp9, la9⟩, dj, mH9, rfl⟩ ?_ ?_⟩
      · clear en mo ma9 ch9 s09 dj mH9 lp9 la9
        clear lp la bs s
        rintro i σ H9 hi ⟨s, bs, lp, la, x7, x8, x9, x10, x11, x12, x13, x14, x15, s09, ch9, ma9, mo, en, ⟨lp9, la9⟩, dj, mH9, rfl⟩
        have hi63 : i ≤ 62 := by omega
        dsimp only [gName, List.set]
        refine ⟨_, rfl, _, rfl, a, script, _, rfl, s09.seq hS, by omega, fun c1 => ?_⟩
        refine ⟨by show 4 ≤ sizeLine; decide, fun l1 nl1 => ?_⟩
        have u1 := same_upd (T := T) (o := HO.lst [V.int 9, V.int 10, V.int 12, V.int 12]) nl1
        refine ⟨c1, l1, [9, 10, 12, 12], rfl, SqL.of upd_same, by decide, by decide, fun pd HA ds sA npA eA hdr => ?_⟩
        obtain ⟨kd, r1, rfl, h10, h11, hdr⟩ := hdr.cons
        obtain ⟨who, r2, rfl, h20, h21, hdr⟩ := hdr.cons
        obtain ⟨pc, r3, rfl, h30, h31, hdr⟩ := hdr.cons
        obtain ⟨od, r4, rfl, h40, h41, hdr⟩ := hdr.cons
        obtain rfl := hdr.nil
        refine ⟨pd, _, rfl, SqL.of eA, rfl, _, _, rfl, _, _, rfl, _, _, rfl, _, _, rfl, rfl, ?_⟩
        dsimp only [List.set]
        obtain ⟨wn, hwn⟩ : ∃ wn : Nat, who = (wn : Int) := ⟨who.toNat, by omega⟩
        subst hwn
        have nlen := (name_ok wn z2).2
        obtain ⟨wd, hwd, hcs⟩ : ∃ wd : Str, ([V.str "call", V.str "stay", V.str "swap", V.str "call", V.str "stay", V.str "swap", V.str "pace", V.str "pace", V.str "call"] : List V)[kd.toNat]? = some (.str wd) ∧ (wd = "call" ∨ wd = "stay" ∨ wd = "swap" ∨ wd = "pace") := by
          rcases (by omega : kd = 0 ∨ kd = 1 ∨ kd = 2 ∨ kd = 3 ∨ kd = 4 ∨ kd = 5 ∨ kd = 6 ∨ kd = 7 ∨ kd = 8) with rfl | rfl | rfl | rfl | rfl | rfl | rfl | rfl | rfl
          · exact ⟨_, rfl, .inl rfl⟩
          · exact ⟨_, rfl, .inr (.inl rfl)⟩
          · exact ⟨_, rfl, .inr (.inr (.inl rfl))⟩
          · exact ⟨_, rfl, .inl rfl⟩
          · exact ⟨_, rfl, .inr (.inl rfl)⟩
          · exact ⟨_, rfl, .inr (.inr (.inl rfl))⟩
          · exact ⟨_, rfl, .inr (.inr (.inr rfl))⟩
          · exact ⟨_, rfl, .inr (.inr (.inr rfl))⟩
          · exact ⟨_, rfl, .inl rfl⟩
        refine ⟨by show 9 ≤ sizeLine; decide, fun l2 nl2 => ?_⟩
        have u2 := same_upd (T := T) (o := HO.lst [V.str "call", V.str "stay", V.str "swap", V.str "call", V.str "stay", V.str "swap", V.str "pace", V.str "pace", V.str "call"]) nl2
        refine ⟨_, rfl, l2, _, _, .str wd, rfl, rfl, SqL.of upd_same, at_of (j := kd.toNat) (by omega) hwd, _, rfl, _, rfl, wn, z2, rfl, by omega, fun HB sB => ⟨by show 2 ≤ sizeLine; decide, fun td nd => ?_⟩⟩
        have uB := same_upd (T := T) (o := HO.tup [V.str wd, V.str (nameF wn z2)]) nd
        have sB' := u1.trans (sA.trans (u2.trans (sB.trans uB)))
        have eB : upd HB td (.tup [V.str wd, V.str (nameF wn z2)]) td = some (.tup [V.str wd, V.str (nameF wn z2)]) := upd_same
        clear uB u1 u2 sA sB nd nl1 nl2 npA eA hwd
        generalize upd HB td (.tup [V.str wd, V.str (nameF wn z2)]) = HC at *
        dsimp only [gName, List.set]
        refine seq_if (fun σ' H' => Sm T H9 H' ∧ ∃ (t : Addr) (D : Deed) (x7 x8 x9 x10 x12 x13 x14 : Option V), D.nm.length ≤ 200 ∧ (∀ n p, D ≠ .enter n p) ∧ H' t = some (.tup (Deed.vs D)) ∧ σ' = [some (.ref a), some (.int z1), some (.int z2), some (.int z3), some (.ref w0), some (.ref m), some (.int mn), x7, x8, x9, x10, some (.int od), x12, x13, x14, some (.ref t), some (.ref c')]) (fun σ' HD pp => ?_) (fun kk => ?_)
        rotate_left
        · refine ⟨_, rfl, td, _, _, .str wd, rfl, rfl, SqT.of eB, at_of (j := 0) rfl rfl, rfl, _, rfl, ?_⟩
          by_cases hp : wd = "pace"
          · subst hp
            refine ifY (decide_eq_true rfl) ⟨_, rfl, _, rfl, _, _, rfl, rfl, _, rfl, ?_⟩
            by_cases ho : od < 4
            · refine ifY (decide_eq_true ho) ⟨1, rfl, _, _, rfl, rfl, pow30, by show 4 ≤ sizeLine; decide, fun l3 nl3 => ?_⟩
              obtain ⟨v, hv⟩ : ∃ v : Int, ([V.int 0, V.int 13, V.int (-1), V.int (10 ^ (30 : Int).toNat)] : List V)[od.toNat]? = some (.int v) := by
                rcases (by omega : od = 0 ∨ od = 1 ∨ od = 2 ∨ od = 3) with rfl | rfl | rfl | rfl <;> exact ⟨_, rfl⟩
              refine ⟨_, rfl, l3, _, _, .int v, rfl, rfl, SqL.of upd_same, at_of (j := od.toNat) (by omega) hv, by show 1 ≤ sizeLine; decide, fun t1 n1 => ?_⟩
              have u3 := (same_upd (T := T) (o := HO.lst [V.int 0, V.int 13, V.int (-1), V.int (10 ^ (30 : Int).toNat)]) nl3).trans (same_upd (T := T) (o := HO.tup [V.int v]) n1)
              refine ⟨td, t1, _, [.int v], rfl, rfl, SqT.of (u3.k eB), SqT.of upd_same, by show 3 ≤ sizeLine; decide, fun z => (nomatch z), fun _ z => (nomatch z), fun _ _ t2 nt2 => ?_⟩
              exact kk _ _ ⟨sB'.trans (u3.trans (same_upd nt2)), t2, .pace (nameF wn z2) v, _, _, _, _, _, _, _, Nat.le_trans nlen (by decide), fun _ _ z => (nomatch z), upd_same, rfl⟩
            · refine ifN (decide_eq_false ho) ⟨_, rfl, _, _, rfl, rfl, by show 1 ≤ sizeLine; decide, fun t1 n1 => ?_⟩
              have u3 := same_upd (T := T) (o := HO.tup [V.int (1 + pc)]) n1
              refine ⟨td, t1, _, [.int (1 + pc)], rfl, rfl, SqT.of (u3.k eB), SqT.of upd_same, by show 3 ≤ sizeLine; decide, fun z => (nomatch z), fun _ z => (nomatch z), fun _ _ t2 nt2 => ?_⟩
              exact kk _ _ ⟨sB'.trans (u3.trans (same_upd nt2)), t2, .pace (nameF wn z2) (1 + pc), _, _, _, _, _, _, _, Nat.le_trans nlen (by decide), fun _ _ z => (nomatch z), upd_same, rfl⟩
          · have mk : ∀ n : Str, ∃ D : Deed, Deed.vs D = [.str wd, .str n] ∧ D.nm = n ∧ ∀ n p, D ≠ .enter n p := fun n => by
              rcases hcs with rfl | rfl | rfl | rfl
              · exact ⟨.call n, rfl, rfl, fun _ _ z => nomatch z⟩
              · exact ⟨.stay n, rfl, rfl, fun _ _ z => nomatch z⟩
              · exact ⟨.swap n, rfl, rfl, fun _ _ z => nomatch z⟩
              · exact absurd rfl hp
            refine ifN (sN wd "pace" hp) ⟨_, rfl, rfl, _, rfl, ?_⟩
            by_cases ho : od = 0
            · refine ifY (decide_eq_true (congrArg V.int ho)) ⟨_, rfl, td, _, _, .str wd, rfl, rfl, SqT.of eB, at_of (j := 0) rfl rfl, _, rfl, td, _, _, .str (nameF wn z2), rfl, rfl, SqT.of eB, at_of (j := 1) rfl rfl, _, rfl, nameF wn z2, pc, rfl, by omega, fun n' HE sE le' => ⟨by show 2 ≤ sizeLine; decide, fun t2 nt2 => ?_⟩⟩
              obtain ⟨D, e1, e2, e3⟩ := mk n'
              exact kk _ _ ⟨sB'.trans (sE.trans (same_upd nt2)), t2, D, _, _, _, _, _, _, _, by rw [e2]; exact le', e3, by rw [e1]; exact upd_same, rfl⟩
            · refine ifN (decide_eq_false fun z => ho (V.int.inj z)) (kk _ _ ?_)
              obtain ⟨D, e1, e2, e3⟩ := mk (nameF wn z2)
              exact ⟨sB', td, D, _, _, _, _, _, _, _, by rw [e2]; omega, e3, by rw [e1]; exact eB, rfl⟩
        · obtain ⟨sE, t, D, y7, y8, y9, y10, y12, y13, y14, ln, hne, et, rfl⟩ := pp
          have ma10 := ma9.sm sE
          have ch10 := ch9.sm sE
          have s10 := s09.trans sE
          have hbl : bs.length = s.marks.length := by rw [ma9.ta.len]; unfold tsOf; rw [List.length_map, List.length_range]
          have ml := en.ml
          have gl := en.gl
          have tl := en.tl
          have r8 := en.n8
          have ell := en.ll
          have els := en.ls
          have lvl := en.lvl
          clear sE s09 ma9 ch9 sB' eB hcs
          obtain ⟨s', hs'⟩ : ∃ s' : Ch, s' = if Deed.no s D = none then Deed.to s D else s := ⟨_, rfl⟩
          refine seq_as (fun σ' H' => ∃ (lp' : List (Str × Int)) (la' : List (Str × Bool)), Sx T (ownM m Y bs) HD H' ∧ MAt K H' m Y bs lp' la' s' (tsOf s') ∧ MOk lp' la' s' ∧ (lp'.length ≤ mn + i + 1 ∧ la'.length ≤ mn + i + 1) ∧ σ' = [some (.ref a), some (.int z1), some (.int z2), some (.int z3), some (.ref w0), some (.ref m), some (.int mn), y7, y8, y9, y10, some (.int od), some (.str ((Deed.no s D).getD "")), some .non, y14, some (.ref t), some (.ref c')]) (fun σ' HF pp => ?_) (fun kk => ?_)
          rotate_left
          · refine ⟨_, rfl, _, rfl, m, Y, bs, lp, la, s, tsOf s, t, D, rfl, SqT.of et, ma10, en.nc, mo, by omega, ⟨by omega, by omega, by omega, by omega, by omega, by omega, by omega⟩, by unfold tsOf; rw [List.length_map, List.length_range], en.lv, fun wd ew' t2 HF sF eF => ?_, fun ew' t2 bs' HF lp' la' ts' v xF nb maF moF l1 l2 hv eF => ?_⟩
            · rw [if_neg (fun z => by rw [z] at ew'; cases ew')] at hs'
              subst hs'
              refine ⟨t2, _, rfl, SqT.of eF, rfl, _, _, rfl, _, _, rfl, rfl, kk _ _ ⟨lp, la, sF.sx, ma10.sm sF, mo, ⟨by omega, by omega⟩, ?_⟩⟩
              rw [ew']
              rfl
            · rw [if_pos ew'] at hs'
              subst hs'
              rcases hv with ⟨rfl, rfl, rfl, _⟩ | ⟨_, _, n, p, e⟩
              · refine ⟨t2, _, rfl, SqT.of eF, rfl, _, _, rfl, _, _, rfl, rfl, kk _ _ ⟨lp', la', xF, by rw [en.tsD hne ew']; exact maF, moF, ⟨by omega, by omega⟩, ?_⟩⟩
                rw [ew']
                rfl
              · exact absurd e (hne n p)
          · obtain ⟨lp', la', xF, maF, moF, ⟨lpF, laF⟩, rfl⟩ := pp
            have enF : E12 s' (mn + (i + 1)) := by
              rw [hs']
              split
              · rename_i e
                exact (en.step hne e).1
              · exact en.up (by omega)
            have chF := ch10.sx xF dj
            have sHF : Sm T H HF := Sx.sm ((s10.sx (S := [])).trans xF fun y hy => .inr (mH9 y hy))
            have etF := xF.tup (K := K) (SqT.of et)
            clear xF et s10 ch10 ma10 mo
            refine seq_as (fun σ' H' => ∃ tf, Sm T H H' ∧ ChAt K CC H' c' A s' ∧ MAt K H' m Y bs lp' la' s' (tsOf s') ∧ Dp K H' (.ref tf) (fdN (Deed.no s D)) ∧ σ' = [some (.ref a), some (.int z1), some (.int z2), some (.int z3), some (.ref w0), some (.ref m), some (.int mn), y7, y8, y9, y10, some (.int od), some (.str ((Deed.no s D).getD "")), some .non, some (.ref tf), some (.ref t), some (.ref c')]) (fun σ' HG pp => ?_) (fun kk => ?_)
            rotate_left
            · refine ⟨(sHF.ok hok) _ hPT, fun Ha sa => ?_⟩
              have cha := chF.sm sa
              have eta := same_tup sa etF
              refine ⟨_, rfl, _, rfl, c', A, s, t, D, rfl, eta, cha, hne, en.side, fun m' hm' => Nat.le_trans (en.mm m' hm') (by omega), by omega, by omega, fun eW Hb xb chb => ⟨by show 2 ≤ sizeLine; decide, fun tf nf => ?_⟩, fun wd eW cls d Hb sb rf => ⟨wd, rf, fun tf nf => ?_⟩⟩
              · have uf := same_upd (T := T) (o := HO.tup [V.str "told", V.non]) nf
                rw [if_pos eW] at hs'
                subst hs'
                have sab := ((sa.sx (S := ownC c' A)).step xb).sm' uf
                refine kk _ _ ⟨tf, Sx.sm ((sHF.sx (S := [])).trans sab fun y hy => .inr (cH y hy)), chb.sm uf, maF.sx sab fun x hx z => dj x z hx, ?_, rfl⟩
                rw [eW]
                exact .tup (SqT.of upd_same) (.cons (.str _) (.cons .non .nil))
              · have uf := same_upd (T := T) (o := HO.tup [V.str wd]) nf
                rw [if_neg (fun z => by rw [z] at eW; cases eW)] at hs'
                subst hs'
                have sab := sa.trans (sb.trans uf)
                refine kk _ _ ⟨tf, sHF.trans sab, chF.sm sab, maF.sm sab, ?_, rfl⟩
                rw [eW]
                exact .tup (SqT.of upd_same) (.cons (.str _) .nil)
            · obtain ⟨tf, sG, chG, maG, dG, rfl⟩ := pp
              refine seq_if (fun σ' H' => Sm T HG H' ∧ σ' = [some (.ref a), some (.int z1), some (.int z2), some (.int z3), some (.ref w0), some (.ref m), some (.int mn), y7, y8, y9, y10, some (.int od), some (.str ((Deed.no s D).getD "")), some .non, some (.ref tf), some (.ref t), some (.ref c')]) (fun σ' HI pp => ?_) (fun kk => ?_)
              rotate_left
              · refine ⟨_, rfl, _, rfl, rfl, _, rfl, ?_⟩
                cases eW : Deed.no s D with
                | none =>
                  rw [eW] at dG kk
                  refine iteT ⟨by show 2 ≤ sizeLine; decide, fun t2 n2 => ?_⟩
                  have u2 := same_upd (T := T) (o := HO.tup [V.str "told", V.non]) n2
                  refine ⟨.ref tf, .ref t2, fdN none, rfl, dp_same u2 _ _ dG, .tup (SqT.of upd_same) (.cons (.str _) (.cons .non .nil)), rfl, fun H2 s2 => ?_⟩
                  exact ⟨_, rfl, iteF (kk _ _ ⟨u2.trans s2, rfl⟩)⟩
                | some wd =>
                  rw [eW] at dG kk
                  have hne' := no_ne hne eW
                  rw [show decide (V.str ((some wd).getD "") = V.str "") = false from decide_eq_false (fun z => hne' (V.str.inj z))]
                  refine iteF ⟨_, rfl, by show 1 ≤ sizeLine; decide, fun t2 n2 => ?_⟩
                  have u2 := same_upd (T := T) (o := HO.tup [V.str wd]) n2
                  refine ⟨.ref tf, .ref t2, fdN (some wd), rfl, dp_same u2 _ _ dG, .tup (SqT.of upd_same) (.cons (.str _) .nil), rfl, fun H2 s2 => ?_⟩
                  exact ⟨_, rfl, iteF (kk _ _ ⟨u2.trans s2, rfl⟩)⟩
              · obtain ⟨sI, rfl⟩ := pp
                have fin : ∀ (H' : Hp) (σ' : L2.St), Sm T HG H' → (∃ (x7 x8 x9 x10 x11 x12 x13 x14 x15 : Option V), σ' = [some (.ref a), some (.int z1), some (.int z2), some (.int z3), some (.ref w0), some (.ref m), some (.int mn), x7, x8, x9, x10, x11, x12, x13, x14, x15, some (.ref c')]) → ∃ (s : Ch) (bs : List Addr) (lp : List (Str × Int)) (la : List (Str × Bool)) (x7 x8 x9 x10 x11 x12 x13 x14 x15 : Option V), Sm T H H' ∧ ChAt K CC H' c' A s ∧ MAt K H' m Y bs lp la s (tsOf s) ∧ MOk lp la s ∧ E12 s (mn + (i + 1)) ∧ (lp.length ≤ mn + (i + 1) ∧ la.length ≤ mn + (i + 1)) ∧ (∀ x ∈ ownC c' A, x ∉ ownM m Y bs) ∧ (∀ x ∈ ownM m Y bs, H x = none) ∧ σ' = [some (.ref a), some (.int z1), some (.int z2), some (.int z3), some (.ref w0), some (.ref m), some (.int mn), x7, x8, x9, x10, x11, x12, x13, x14, x15, some (.ref c')] := fun H' σ' sH ⟨x7, x8, x9, x10, x11, x12, x13, x14, x15, e⟩ => ⟨s', bs, lp', la', x7, x8, x9, x10, x11, x12, x13, x14, x15, sG.trans sH, chG.sm sH, maG.sm sH, moF, enF, ⟨by omega, by omega⟩, dj, mH9, e⟩
                refine ⟨_, rfl, _, _, rfl, rfl, _, rfl, ?_⟩
                by_cases hk6 : od < 9
                · rw [decide_eq_true hk6]
                  refine iteT ⟨_, rfl, _, rfl, c', A, s', m, Y, bs, lp', la', rfl, chG.sm sI, maG.sm sI, moF, enF.ask (by omega), dj, fun HJ sJ => ?_⟩
                  exact ⟨_, rfl, iteF (fin _ _ (sI.trans sJ) ⟨_, _, _, _, _, _, _, _, _, rfl⟩)⟩
                · rw [decide_eq_false hk6]
                  exact iteF (iteF (fin _ _ sI ⟨_, _, _, _, _, _, _, _, _, rfl⟩))
      · rintro σ H9 ⟨s, bs, lp, la, x7, x8, x9, x10, x11, x12, x13, x14, x15, s09, ch9, ma9, mo, en, ⟨lp9, la9⟩, dj, mH9, rfl⟩
        exact ⟨_, rfl, _, rfl, c', A, s, m, Y, bs, lp, la, rfl, ch9, ma9, mo, en.ask (by omega), dj, fun Hi si => q Hi⟩

end
/-! ### the head by one kernel run: what is looked at behind the top -/
def hrRef (o : Obj) : List Addr := match o.data with
  | .dict es _ => es.toList.flatMap fun e => He.refV e.val
  | .func fd => He.refV fd.code
  | .cls cd => [cd.ns]
  | _ => []
def hrStep (g : Addr → Option Obj) (as : List Addr) : List Addr := as.flatMap fun a => match g a with
  | some o => hrRef o
  | none => []
def hrAll (g : Addr → Option Obj) : Nat → List Addr → List Addr
  | 0, as => as ++ [cStatics]
  | n + 1, as => as ++ hrAll g n (hrStep g as)
def hrK (g : Addr → Option Obj) : PySem.W.Frag := He.frG g (hrAll g 4 [mainGlobals])
theorem hrK_in {h : Heap} : (hrK h.get?).In h := He.frG_in
/-- an error class -/
def hrErr (K : PySem.W.Frag) (CP C : Addr) : Bool := (match K.lookup C with
  | some ⟨.type t, _, .cls cd, sl⟩ => (match cd.mro, sl.toList with
    | .ref D :: bm, [_, _, _, _, some (.builtin n), _] => decide (t = "type") && (Nat.beq D C && (decide (n = "ValueError.__new__") && ((!cd.hasDel) && (cd.hasDict && PySem.HandSPX.refsVE bm))))
    | _, _ => false)
  | _ => false) && (He.eqO (PySem.W.findIn K (.ref C) "__setattr__") (some (some (.builtin "object.__setattr__"))) && (He.eqO (PySem.W.findIn K (.ref C) "word") (some none) && (xfB K C && (PySem.W.keepIn K (.ref C) &&
    (decide (PySem.W.typeIn K (.ref C) = some (.type "type")) && (decide (PySem.W.subIn K (.ref C) (.ref CP) = some true) && decide (PySem.W.typeIn K (.ref (He.ma K C "__init__")) = some (.type "function"))))))))
theorem hrErr_ok {K : PySem.W.Frag} {CP C : Addr} (h : hrErr K CP C = true) : OexC K C ∧ XfC K C ∧ PySem.W.findIn K (.ref C) "word" = some none ∧ PySem.W.subIn K (.ref C) (.ref CP) = some true ∧ PySem.W.typeIn K (.ref (He.ma K C "__init__")) = some (.type "function") := by
  obtain ⟨h0, h⟩ := He.ba h
  obtain ⟨h1, h⟩ := He.ba h
  obtain ⟨h2, h⟩ := He.ba h
  obtain ⟨h3, h⟩ := He.ba h
  obtain ⟨h4, h⟩ := He.ba h
  obtain ⟨h5, h⟩ := He.ba h
  obtain ⟨h6, h7⟩ := He.ba h
  have X := xfB_ok h3
  refine ⟨⟨?_, He.eqO_ok h1, X.exC, of_decide_eq_true h5, h4⟩, X, He.eqO_ok h2, of_decide_eq_true h6, of_decide_eq_true h7⟩
  cases lk : K.lookup C with
  | none => rw [lk] at h0; cases h0
  | some o =>
    obtain ⟨oc, od, dt, sl⟩ := o
    rw [lk] at h0
    cases oc with
    | type t =>
      cases dt with
      | cls cd =>
        obtain ⟨nm, bs, mro, ns, qn, hd, sn, sub, ab, col, del⟩ := cd
        obtain ⟨sl⟩ := sl
        cases mro with
        | nil => cases h0
        | cons D0 bm =>
          cases D0 with
          | ref D =>
            rcases sl with _ | ⟨k0, _ | ⟨k1, _ | ⟨k2, _ | ⟨k3, _ | ⟨k4, _ | ⟨k5, _ | ⟨k6, sl⟩⟩⟩⟩⟩⟩⟩ <;> try (cases h0; done)
            · cases k4 with
              | none => cases h0
              | some k4 => cases k4 <;> cases h0
            · cases k4 with
              | none => cases h0
              | some k4 =>
                cases k4 with
                | builtin n =>
                  obtain ⟨g1, h0⟩ := He.ba h0
                  obtain ⟨g2, h0⟩ := He.ba h0
                  obtain ⟨g3, h0⟩ := He.ba h0
                  obtain ⟨g4, h0⟩ := He.ba h0
                  obtain ⟨g5, g6⟩ := He.ba h0
                  have q1 := of_decide_eq_true g1
                  have q2 := Nat.eq_of_beq_eq_true g2
                  have q3 := of_decide_eq_true g3
                  have q4 : del = false := by cases del <;> first | rfl | cases g4
                  have q5 : hd = true := g5
                  subst q1 q2 q3 q4 q5
                  exact ⟨nm, qn, ns, bs, bm, sn, sub, ab, col, od, k0, k1, k2, k3, k5, rfl, g6⟩
                | _ => cases h0
            · cases k4 with
              | none => cases h0
              | some k4 => cases k4 <;> cases h0
          | _ => cases h0
      | _ => cases h0
    | _ => cases dt <;> cases h0
/-- the base of the error classes -/
def hrVal (r : Option PySem.W.CFound) (v : Value) : Bool := match r with
  | some (.val u) => decide (u = v)
  | _ => false
theorem hrVal_ok {r : Option PySem.W.CFound} {v : Value} (h : hrVal r v = true) : r = some (.val v) := by
  cases r with
  | none => cases h
  | some c =>
    cases c with
    | val u => rw [of_decide_eq_true (show decide (u = v) = true from h)]
    | get _ _ _ _ => cases h
def hrBase (K : PySem.W.Frag) (C : Addr) : Bool := PySem.W.readsIn K C (.type "type") && (He.eqO (PySem.W.specialIn K (.ref C) "__getattribute__") (some (some (.builtin "type.__getattribute__"))) && (hrVal (PySem.W.findCls K (.ref C) (.type "type") "__init__") (.ref (He.ma K C "__init__")) &&
  (decide (PySem.W.subIn K (.ref C) (.type "BaseException") = some true) && (PySem.W.isClsIn K C && (decide (PySem.W.typeIn K (.ref C) = some (.type "type")) && hrVal (PySem.W.findCls K (.type "ValueError") (.type "type") "__init__") (.builtin "ValueError.__init__"))))))
theorem hrBase_ok {K : PySem.W.Frag} {C : Addr} (h : hrBase K C = true) : PySem.W.readsIn K C (.type "type") = true ∧ PySem.W.specialIn K (.ref C) "__getattribute__" = some (some (.builtin "type.__getattribute__")) ∧ PySem.W.findCls K (.ref C) (.type "type") "__init__" = some (.val (.ref (He.ma K C "__init__"))) ∧
    PySem.W.subIn K (.ref C) (.type "BaseException") = some true ∧ PySem.W.isClsIn K C = true ∧ PySem.W.typeIn K (.ref C) = some (.type "type") ∧ PySem.W.findCls K (.type "ValueError") (.type "type") "__init__" = some (.val (.builtin "ValueError.__init__")) := by
  obtain ⟨h1, h⟩ := He.ba h
  obtain ⟨h2, h⟩ := He.ba h
  obtain ⟨h3, h⟩ := He.ba h
  obtain ⟨h4, h⟩ := He.ba h
  obtain ⟨h5, h⟩ := He.ba h
  obtain ⟨h6, h7⟩ := He.ba h
  exact ⟨h1, He.eqO_ok h2, hrVal_ok h3, of_decide_eq_true h4, h5, of_decide_eq_true h6, hrVal_ok h7⟩
/-- one fact more, of K -/
inductive Hx where
  | fa (f : He.Fa)
  | err (p x : Str)
  | base (p : Str)
  | tup (x : Str) (vs : List He.Dv)
  | nod (tf : List He.Defn)
def hrNod : List Addr → Bool
  | [] => true
  | a :: r => (r.all fun b => !Nat.beq a b) && hrNod r
theorem hrNod_ok : ∀ {l : List Addr}, hrNod l = true → l.Nodup
  | [], _ => List.nodup_nil
  | a :: r, h => by
    obtain ⟨h1, h2⟩ := He.ba (show ((r.all fun b => !Nat.beq a b) && hrNod r) = true from h)
    refine List.nodup_cons.mpr ⟨fun hm => ?_, hrNod_ok h2⟩
    have z := List.all_eq_true.mp h1 a hm
    rw [Nat.beq_refl] at z
    cases z
def Hx.ok (K : PySem.W.Frag) : Hx → Bool
  | .fa f => f.ok K
  | .err p x => hrErr K (He.ga K p) (He.ga K x)
  | .base p => hrBase K (He.ga K p)
  | .tup x vs => He.tupB K x vs
  | .nod tf => hrNod (tf.map fun p => (He.cT K p).2)
def hrDef (K : PySem.W.Frag) (d : He.FnD) : Bool := (He.Fa.code d.at_ d.qual).ok K && PySem.W.keepIn K (.ref (He.fAd K d.at_))
def hrTab (g : Addr → Option Obj) (K : PySem.W.Frag) (p : He.Defn) : Bool := PySem.W.codeHdIn K (He.cT K p).1 (He.cT K p).2 && ((K.lookup (He.cT K p).2).isNone && match g (He.cT K p).2 with
  | some o => He.emptyTab o
  | none => false)
abbrev HrAl : Type := Bool × List He.FnV
def hrObs (fx : List Hx) (fn : List He.FnD) (tf : List He.Defn) (g : Addr → Option Obj) (K : PySem.W.Frag) : HrAl := ((fx.all fun f => f.ok K) && ((fn.all fun d => hrDef K d) && tf.all fun p => hrTab g K p), fn.map fun d => He.fnObs K d.at_)
def hrVals (fn : List He.FnD) : HrAl := (true, fn.map He.FnD.val)
/-- what the end leans on -/
structure HrSays (fx : List Hx) (fn : List He.FnD) (tf : List He.Defn) (h : Heap) (K : PySem.W.Frag) : Prop where
  fx : ∀ f ∈ fx, f.ok K = true
  df : ∀ d ∈ fn, hrDef K d = true
  vs : fn.map (fun d => He.fnObs K d.at_) = fn.map He.FnD.val
  hd : ∀ p ∈ tf, PySem.W.codeHdIn K (He.cT K p).1 (He.cT K p).2 = true
  out : ∀ p ∈ tf, K.lookup (He.cT K p).2 = none
  emp : ∀ p ∈ tf, h.get? (He.cT K p).2 = some { cls := .none, data := .fields #[] }
theorem hrSays_of {fx : List Hx} {fn : List He.FnD} {tf : List He.Defn} {h : Heap} {K : PySem.W.Frag} (e : hrObs fx fn tf h.get? K = hrVals fn) : HrSays fx fn tf h K := by
  have e1 : ((fx.all fun f => f.ok K) && ((fn.all fun d => hrDef K d) && tf.all fun p => hrTab h.get? K p)) = true := congrArg (fun z : HrAl => z.1) e
  obtain ⟨a1, a2⟩ := He.ba e1
  obtain ⟨a2, a3⟩ := He.ba a2
  have key : ∀ p ∈ tf, PySem.W.codeHdIn K (He.cT K p).1 (He.cT K p).2 = true ∧ K.lookup (He.cT K p).2 = none ∧ h.get? (He.cT K p).2 = some { cls := .none, data := .fields #[] } := fun p hp => by
    obtain ⟨b1, b2⟩ := He.ba (List.all_eq_true.mp a3 p hp)
    obtain ⟨b2, b3⟩ := He.ba b2
    refine ⟨b1, Option.isNone_iff_eq_none.mp b2, ?_⟩
    cases q : h.get? (He.cT K p).2 with
    | none => rw [q] at b3; cases b3
    | some o => rw [q] at b3; rw [He.emptyTab_eq b3]
  exact ⟨fun f hf => List.all_eq_true.mp a1 f hf, fun d hd => List.all_eq_true.mp a2 d hd, congrArg (fun z : HrAl => z.2) e, fun p hp => (key p hp).1, fun p hp => (key p hp).2.1, fun p hp => (key p hp).2.2⟩
def hrHook (fx : List Hx) (fn : List He.FnD) (tf : List He.Defn) : PySem.W.Hook where
  α := HrAl
  obs := fun s => hrObs fx fn tf s.heap.get? (hrK s.heap.get?)
  val := fun _ => hrVals fn
  says := fun _ h => ∃ K : PySem.W.Frag, K.In h ∧ HrSays fx fn tf h K
  of := fun _ _ e => ⟨_, hrK_in, hrSays_of e⟩
  keeps := fun _ _ _ ⟨K, hK, c⟩ k => ⟨K, PySem.W.Frag.In.keeps hK k, ⟨c.fx, c.df, c.vs, c.hd, c.out, fun p hp => k _ _ (c.emp p hp)⟩⟩
def hrOb (fx : List Hx) (fn : List He.FnD) (tf : List He.Defn) (s : PySem.W.SharedT) : HrAl := hrObs fx fn tf (HandSHeadRun.getT s) (hrK (HandSHeadRun.getT s))
theorem hrOb_eq {fx : List Hx} {fn : List He.FnD} {tf : List He.Defn} (s : PySem.W.SharedT) : hrOb fx fn tf s = (hrHook fx fn tf).obs s.abs := by
  have e : HandSHeadRun.getT s = s.abs.heap.get? := funext (HandSHeadRun.getT_eq s)
  show hrObs fx fn tf (HandSHeadRun.getT s) (hrK (HandSHeadRun.getT s)) = hrObs fx fn tf s.abs.heap.get? (hrK s.abs.heap.get?)
  rw [e]
section
variable {fx : List Hx} {fn : List He.FnD} {tf : List He.Defn} {h : Heap} {K : PySem.W.Frag}
theorem HrSays.f (c : HrSays fx fn tf h K) (i : Nat) {f : Hx} (e : fx[i]? = some f) : f.ok K = true := c.fx f (List.mem_of_getElem? e)
theorem HrSays.g (c : HrSays fx fn tf h K) (i : Nat) {f : He.Fa} (e : fx[i]? = some (.fa f)) : f.ok K = true := c.fx (.fa f) (List.mem_of_getElem? e)
theorem HrSays.d (c : HrSays fx fn tf h K) (i : Nat) {d : He.FnD} (e : fn[i]? = some d) :
    (∃ oc od osl kV doc pm an cdv ct, K.lookup (He.fAd K d.at_) = some ⟨oc, od, .func (PySem.W.fnOf d.name d.qual d.params d.body d.scope .none kV doc pm an cdv ct), osl⟩ ∧ PySem.W.codeIn K cdv d.qual = true) ∧ PySem.W.keepIn K (.ref (He.fAd K d.at_)) = true := by
  obtain ⟨c1, c2⟩ := He.ba (c.df d (List.mem_of_getElem? e))
  have e2 : (fn.map fun d => He.fnObs K d.at_)[i]? = (fn.map He.FnD.val)[i]? := by rw [c.vs]
  rw [List.getElem?_map, List.getElem?_map, e] at e2
  exact ⟨He.fn_ok (Option.some.inj e2) c1, c2⟩
theorem HrSays.dt (c : HrSays fx fn tf h K) (X : K.In h) (i j : Nat) {d : He.FnD} (e : fn[i]? = some d) (et : tf[j]? = some d.at_) :
    (∃ oc od osl kV doc pm an ct, K.lookup (He.fAd K d.at_) = some ⟨oc, od, .func (PySem.W.fnOf d.name d.qual d.params d.body d.scope .none kV doc pm an (.ref (He.cT K d.at_).1) ct), osl⟩ ∧ PySem.W.codeIn K (.ref (He.cT K d.at_).1) d.qual = true) ∧ PySem.W.keepIn K (.ref (He.fAd K d.at_)) = true ∧
      (PySem.W.CodeHd h (He.cT K d.at_).1 (He.cT K d.at_).2 ∧ h.get? (He.cT K d.at_).2 = some { cls := .none, data := .fields #[] }) ∧ K.lookup (He.cT K d.at_).2 = none := by
  obtain ⟨⟨oc, od, osl, kV, doc, pm, an, cdv, ct, lk, ci⟩, kp⟩ := c.d i e
  obtain ⟨c0, hc⟩ := He.codeIn_ref ci
  subst hc
  have q : (He.cT K d.at_).1 = c0 := He.codeOf_eq lk rfl
  have m := List.mem_of_getElem? et
  refine ⟨⟨oc, od, osl, kV, doc, pm, an, ct, ?_, ?_⟩, kp, ⟨PySem.W.codeHd_of_K X (c.hd _ m), c.emp _ m⟩, c.out _ m⟩
  · rw [q]; exact lk
  · rw [q]; exact ci
end
section
variable {fx : List Hx} {fn : List He.FnD} {tf : List He.Defn} {h : Heap} {K : PySem.W.Frag}
theorem HrSays.fun_ (c : HrSays fx fn tf h K) (i : Nat) {x q : Str} {st : Stmt} {p : He.Defn} (e : fn[i]? = some ⟨p, x, q, defArgs st, defBody st, defScope st⟩) : ∃ fd, Fun K x q st (He.fAd K p) fd := by
  obtain ⟨⟨oc, od, osl, kV, doc, pm, an, cdv, ct, lk, ci⟩, kp⟩ := c.d i e
  exact ⟨_, ⟨⟨oc, od, kV, doc, pm, an, cdv, ct, osl, rfl, lk, ci⟩, kp⟩⟩
theorem HrSays.fnc (c : HrSays fx fn tf h K) (X : K.In h) (i j : Nat) {x q : Str} {st : Stmt} {p : He.Defn} (e : fn[i]? = some ⟨p, x, q, defArgs st, defBody st, defScope st⟩) (et : tf[j]? = some p) :
    (∃ fd, FunC K x q st (He.fAd K p) fd (He.cT K p).1) ∧ (PySem.W.CodeHd h (He.cT K p).1 (He.cT K p).2 ∧ h.get? (He.cT K p).2 = some { cls := .none, data := .fields #[] }) ∧ K.lookup (He.cT K p).2 = none := by
  obtain ⟨⟨oc, od, osl, kV, doc, pm, an, ct, lk, ci⟩, kp, hh, hn⟩ := c.dt X i j e et
  exact ⟨⟨_, ⟨⟨oc, od, kV, doc, pm, an, ct, osl, rfl, lk, ci⟩, kp⟩⟩, hh, hn⟩
end

def hrTf : List He.Defn := [("is_name", none), ("is_stretch", none), ("labour", none), ("law", none)]
def hrFx0 : List Hx := [.fa (.glo "Chain"), .fa (.cls "Chain"), .fa (.mkr "Chain"), .fa (.noat "Chain" "fire"), .fa (.noat "Chain" "stretches"), .fa (.noat "Chain" "now"), .fa (.noat "Chain" "row"), .fa (.noat "Chain" "loads"), .fa (.noat "Chain" "spots"), .fa (.noat "Chain" "tempos"), .fa (.noat "Chain" "leaving"), .fa (.noat "Chain" "ledgers"), .fa (.noat "Chain" "marks"), .fa (.noat "Chain" "poured"), .fa (.glo "_law_word"), .fa (.glo "is_number"), .fa (.glo "is_within"), .fa (.glo "_law_cell"), .fa (.glo "_law_draws"), .fa (.glo "_law_many"), .fa (.glo "check_pace"), .fa (.glo "is_name"), .fa (.glo "check_name"), .fa (.meth "Chain" "take_pail"), .fa (.meth "Chain" "enter"), .fa (.meth "Chain" "hands"), .fa (.meth "Chain" "emptied"), .fa (.meth "Chain" "pails"), .fa (.meth "Chain" "number_of"), .fa (.meth "Chain" "place")]
def hrFx1 : List Hx := [.fa (.meth "Chain" "ledger"), .fa (.meth "Chain" "hour"), .fa (.glo "is_stretch"), .fa (.glo "check_way"), .fa (.glo "labour"), .fa (.glo "_law_same"), .fa (.glo "_law_name"), .fa (.glo "_law_split"), .fa (.glo "_law_way"), .fa (.glo "_law_labour"), .fa (.meth "Chain" "called"), .fa (.meth "Chain" "pace"), .fa (.meth "Chain" "pail"), .fa (.glo "story_rows"), .fa (.meth "Chain" "story"), .fa (.glo "_law_new"), .fa (.glo "_law_new_pail"), .fa (.glo "_law_name_ok"), .fa (.glo "_law_enters"), .fa (.glo "_law_full_story"), .fa (.glo "_law_stands"), .fa (.meth "Chain" "call"), .fa (.meth "Chain" "set_pace"), .fa (.meth "Chain" "stay"), .fa (.meth "Chain" "mark"), .fa (.meth "Chain" "swap"), .fa (.glo "_law_small"), .fa (.glo "_law_ask"), .fa (.glo "_law_odd_name"), .fa (.glo "law")]
def hrFx2 : List Hx := [.fa (.glo "PailError"), .base "PailError", .fa (.glo "BadWay"), .err "PailError" "BadWay", .fa (.meth "BadWay" "__init__"), .fa (.glo "BadName"), .err "PailError" "BadName", .fa (.meth "BadName" "__init__"), .fa (.glo "Taken"), .err "PailError" "Taken", .fa (.meth "Taken" "__init__"), .fa (.glo "BadPace"), .err "PailError" "BadPace", .fa (.meth "BadPace" "__init__"), .fa (.glo "Full"), .err "PailError" "Full", .fa (.meth "Full" "__init__"), .fa (.glo "NoHand"), .err "PailError" "NoHand", .fa (.meth "NoHand" "__init__"), .fa (.glo "Called"), .err "PailError" "Called", .fa (.meth "Called" "__init__"), .fa (.glo "NotCalled"), .err "PailError" "NotCalled", .fa (.meth "NotCalled" "__init__"), .fa (.glo "NoNext"), .err "PailError" "NoNext", .fa (.meth "NoNext" "__init__"), .fa (.glo "NoPail")]
def hrFx3 : List Hx := [.err "PailError" "NoPail", .fa (.meth "NoPail" "__init__"), .fa (.free "ValueError"), .fa (.free "all"), .fa (.free "bool"), .fa (.free "int"), .fa (.free "isinstance"), .fa (.free "len"), .fa (.free "list"), .fa (.free "max"), .fa (.free "min"), .fa (.free "range"), .fa (.free "str"), .fa (.free "sum"), .fa (.free "tuple"), .fa (.int "MOST_HANDS" 8), .fa (.int "MOST_LETTERS" 8), .fa (.int "MOST_PACE" 12), .fa (.int "MOST_STEPS_OR_TOIL" 9), .fa (.int "MOST_STRETCHES" 6), .fa (.glo "NOUGHT"), .tup "NOUGHT" [.int 0, .int 1], .nod hrTf]
def hrFx : List Hx := hrFx0 ++ (hrFx1 ++ (hrFx2 ++ (hrFx3)))
def hrFn0 : List He.FnD := [⟨("_law_word", none), "_law_word", "_law_word", defArgs s_l_word, defBody s_l_word, defScope s_l_word⟩, ⟨("is_number", none), "is_number", "is_number", defArgs s_p_is_number, defBody s_p_is_number, defScope s_p_is_number⟩, ⟨("is_within", none), "is_within", "is_within", defArgs s_p_is_within, defBody s_p_is_within, defScope s_p_is_within⟩, ⟨("_law_cell", none), "_law_cell", "_law_cell", defArgs s_l_cell, defBody s_l_cell, defScope s_l_cell⟩, ⟨("_law_draws", none), "_law_draws", "_law_draws", defArgs s_l_draws, defBody s_l_draws, defScope s_l_draws⟩, ⟨("_law_many", none), "_law_many", "_law_many", defArgs s_l_many, defBody s_l_many, defScope s_l_many⟩, ⟨("check_pace", none), "check_pace", "check_pace", defArgs s_p_check_pace, defBody s_p_check_pace, defScope s_p_check_pace⟩, ⟨("is_name", none), "is_name", "is_name", defArgs s_p_is_name, defBody s_p_is_name, defScope s_p_is_name⟩, ⟨("check_name", none), "check_name", "check_name", defArgs s_p_check_name, defBody s_p_check_name, defScope s_p_check_name⟩, ⟨("Chain", some "take_pail"), "take_pail", "Chain.take_pail", defArgs s_p_Chain_take_pail, defBody s_p_Chain_take_pail, defScope s_p_Chain_take_pail⟩, ⟨("Chain", some "enter"), "enter", "Chain.enter", defArgs s_p_Chain_enter, defBody s_p_Chain_enter, defScope s_p_Chain_enter⟩, ⟨("Chain", some "hands"), "hands", "Chain.hands", defArgs s_p_Chain_hands, defBody s_p_Chain_hands, defScope s_p_Chain_hands⟩, ⟨("Chain", some "emptied"), "emptied", "Chain.emptied", defArgs s_p_Chain_emptied, defBody s_p_Chain_emptied, defScope s_p_Chain_emptied⟩, ⟨("Chain", some "pails"), "pails", "Chain.pails", defArgs s_p_Chain_pails, defBody s_p_Chain_pails, defScope s_p_Chain_pails⟩, ⟨("Chain", some "number_of"), "number_of", "Chain.number_of", defArgs s_p_Chain_number_of, defBody s_p_Chain_number_of, defScope s_p_Chain_number_of⟩, ⟨("Chain", some "place"), "place", "Chain.place", defArgs s_p_Chain_place, defBody s_p_Chain_place, defScope s_p_Chain_place⟩, ⟨("Chain", some "ledger"), "ledger", "Chain.ledger", defArgs s_p_Chain_ledger, defBody s_p_Chain_ledger, defScope s_p_Chain_ledger⟩, ⟨("Chain", some "hour"), "hour", "Chain.hour", defArgs s_p_Chain_hour, defBody s_p_Chain_hour, defScope s_p_Chain_hour⟩, ⟨("is_stretch", none), "is_stretch", "is_stretch", defArgs s_p_is_stretch, defBody s_p_is_stretch, defScope s_p_is_stretch⟩, ⟨("check_way", none), "check_way", "check_way", defArgs s_p_check_way, defBody s_p_check_way, defScope s_p_check_way⟩, ⟨("labour", none), "labour", "labour", defArgs s_p_labour, defBody s_p_labour, defScope s_p_labour⟩, ⟨("Chain", some "__init__"), "__init__", "Chain.__init__", defArgs s_p_Chain___init__, defBody s_p_Chain___init__, defScope s_p_Chain___init__⟩, ⟨("_law_same", none), "_law_same", "_law_same", defArgs s_l_same, defBody s_l_same, defScope s_l_same⟩, ⟨("_law_name", none), "_law_name", "_law_name", defArgs s_l_name, defBody s_l_name, defScope s_l_name⟩, ⟨("_law_split", none), "_law_split", "_law_split", defArgs s_l_split, defBody s_l_split, defScope s_l_split⟩, ⟨("_law_way", none), "_law_way", "_law_way", defArgs s_l_way, defBody s_l_way, defScope s_l_way⟩, ⟨("_law_labour", none), "_law_labour", "_law_labour", defArgs s_l_labour, defBody s_l_labour, defScope s_l_labour⟩, ⟨("Chain", some "called"), "called", "Chain.called", defArgs s_p_Chain_called, defBody s_p_Chain_called, defScope s_p_Chain_called⟩, ⟨("Chain", some "pace"), "pace", "Chain.pace", defArgs s_p_Chain_pace, defBody s_p_Chain_pace, defScope s_p_Chain_pace⟩, ⟨("Chain", some "pail"), "pail", "Chain.pail", defArgs s_p_Chain_pail, defBody s_p_Chain_pail, defScope s_p_Chain_pail⟩]
def hrFn1 : List He.FnD := [⟨("story_rows", none), "story_rows", "story_rows", defArgs s_p_story_rows, defBody s_p_story_rows, defScope s_p_story_rows⟩, ⟨("Chain", some "story"), "story", "Chain.story", defArgs s_p_Chain_story, defBody s_p_Chain_story, defScope s_p_Chain_story⟩, ⟨("_law_new", none), "_law_new", "_law_new", defArgs s_l_new, defBody s_l_new, defScope s_l_new⟩, ⟨("_law_new_pail", none), "_law_new_pail", "_law_new_pail", defArgs s_l_new_pail, defBody s_l_new_pail, defScope s_l_new_pail⟩, ⟨("_law_name_ok", none), "_law_name_ok", "_law_name_ok", defArgs s_l_name_ok, defBody s_l_name_ok, defScope s_l_name_ok⟩, ⟨("_law_enters", none), "_law_enters", "_law_enters", defArgs s_l_enters, defBody s_l_enters, defScope s_l_enters⟩, ⟨("_law_full_story", none), "_law_full_story", "_law_full_story", defArgs s_l_full_story, defBody s_l_full_story, defScope s_l_full_story⟩, ⟨("_law_stands", none), "_law_stands", "_law_stands", defArgs s_l_stands, defBody s_l_stands, defScope s_l_stands⟩, ⟨("Chain", some "call"), "call", "Chain.call", defArgs s_p_Chain_call, defBody s_p_Chain_call, defScope s_p_Chain_call⟩, ⟨("Chain", some "set_pace"), "set_pace", "Chain.set_pace", defArgs s_p_Chain_set_pace, defBody s_p_Chain_set_pace, defScope s_p_Chain_set_pace⟩, ⟨("Chain", some "stay"), "stay", "Chain.stay", defArgs s_p_Chain_stay, defBody s_p_Chain_stay, defScope s_p_Chain_stay⟩, ⟨("Chain", some "mark"), "mark", "Chain.mark", defArgs s_p_Chain_mark, defBody s_p_Chain_mark, defScope s_p_Chain_mark⟩, ⟨("Chain", some "swap"), "swap", "Chain.swap", defArgs s_p_Chain_swap, defBody s_p_Chain_swap, defScope s_p_Chain_swap⟩, ⟨("_law_small", none), "_law_small", "_law_small", defArgs s_l_small, defBody s_l_small, defScope s_l_small⟩, ⟨("_law_ask", none), "_law_ask", "_law_ask", defArgs s_l_ask, defBody s_l_ask, defScope s_l_ask⟩, ⟨("_law_odd_name", none), "_law_odd_name", "_law_odd_name", defArgs s_l_odd_name, defBody s_l_odd_name, defScope s_l_odd_name⟩, ⟨("law", none), "law", "law", defArgs s_LAW, defBody s_LAW, defScope s_LAW⟩, ⟨("PailError", some "__init__"), "__init__", "PailError.__init__", defArgs s_p_PailError___init__, defBody s_p_PailError___init__, defScope s_p_PailError___init__⟩, ⟨("BadWay", some "__init__"), "__init__", "BadWay.__init__", defArgs s_p_BadWay___init__, defBody s_p_BadWay___init__, defScope s_p_BadWay___init__⟩, ⟨("BadName", some "__init__"), "__init__", "BadName.__init__", defArgs s_p_BadName___init__, defBody s_p_BadName___init__, defScope s_p_BadName___init__⟩, ⟨("Taken", some "__init__"), "__init__", "Taken.__init__", defArgs s_p_Taken___init__, defBody s_p_Taken___init__, defScope s_p_Taken___init__⟩, ⟨("BadPace", some "__init__"), "__init__", "BadPace.__init__", defArgs s_p_BadPace___init__, defBody s_p_BadPace___init__, defScope s_p_BadPace___init__⟩, ⟨("Full", some "__init__"), "__init__", "Full.__init__", defArgs s_p_Full___init__, defBody s_p_Full___init__, defScope s_p_Full___init__⟩, ⟨("NoHand", some "__init__"), "__init__", "NoHand.__init__", defArgs s_p_NoHand___init__, defBody s_p_NoHand___init__, defScope s_p_NoHand___init__⟩, ⟨("Called", some "__init__"), "__init__", "Called.__init__", defArgs s_p_Called___init__, defBody s_p_Called___init__, defScope s_p_Called___init__⟩, ⟨("NotCalled", some "__init__"), "__init__", "NotCalled.__init__", defArgs s_p_NotCalled___init__, defBody s_p_NotCalled___init__, defScope s_p_NotCalled___init__⟩, ⟨("NoNext", some "__init__"), "__init__", "NoNext.__init__", defArgs s_p_NoNext___init__, defBody s_p_NoNext___init__, defScope s_p_NoNext___init__⟩, ⟨("NoPail", some "__init__"), "__init__", "NoPail.__init__", defArgs s_p_NoPail___init__, defBody s_p_NoPail___init__, defScope s_p_NoPail___init__⟩]
def hrFn : List He.FnD := hrFn0 ++ (hrFn1)
def hrLoose0 : List Str := ["_wall", "__name__", "NOUGHT", "common_divisor", "amount", "plus", "minus", "times", "over", "below", "lesser", "PailError", "BadWay", "BadName", "Taken", "BadPace", "Full", "NoHand", "Called", "NotCalled", "NoNext", "BadTime", "TooLong", "BadCount", "Nobody", "NoPail", "MOST_LETTERS", "MOST_PACE", "MOST_HANDS", "MOST_HOURS"]
def hrLoose1 : List Str := ["MOST_PARTS", "is_number", "is_within", "is_name", "check_name", "check_pace", "check_hours", "speeds", "meeting", "hours_at", "walked", "MOST_STRETCHES", "MOST_STEPS_OR_TOIL", "is_stretch", "check_way", "labour", "MOST_OUTS", "ledger_on", "story_rows", "Chain", "_law_cell", "_law_draws", "_law_split", "_law_many", "_law_same", "_law_word", "_law_way", "_law_labour", "_law_name", "_law_new"]
def hrLoose2 : List Str := ["_law_new_pail", "_law_name_ok", "_law_enters", "_law_small", "_law_ask", "_law_odd_name", "_law_full_story", "_law_stands"]
def hrLoose : List Str := hrLoose0 ++ (hrLoose1 ++ (hrLoose2))
theorem hrRun (w : World) : HandSHeadRun.RunEq (PySem.W.OpenLaw.row PySem.Challenge.rw_pailchain_k12_called_away_and_told_to_st) (PySem.W.view (PySem.W.OpenLaw.row PySem.Challenge.rw_pailchain_k12_called_away_and_told_to_st).prog [74]) (hrHook hrFx hrFn hrTf) (hrOb hrFx hrFn hrTf) 60000 hrLoose w := by
  intro os
  kernel_rfl
set_option maxHeartbeats 0 in
theorem all_mk {l : PySem.W.OpenLaw} {w : World} {K : PySem.W.Frag} {h : Heap} {mg : Str → Option Value} {fa : Addr} (X : K.In h) (G : h.Ns mainGlobals mg) (hfa : mg "law" = some (.ref fa)) (c : HrSays hrFx hrFn hrTf h K)
    : LamX.LawAtS l w K (L2.CX l.prog w) 20 63 "_law_script" mg fa h := by
  have aCC : mg "Chain" = some (.ref (He.ga K "Chain")) := He.glo_ok X G (c.g 0 rfl)
  have clC : Cls K (He.ga K "Chain") := He.cls_ok (c.g 1 rfl)
  have mkC : Mk K (He.ga K "Chain") (He.ma K (He.ga K "Chain") "__init__") := He.mkr_ok (c.g 2 rfl)
  have nF_fire : PySem.W.findIn K (.ref (He.ga K "Chain")) "fire" = some none := He.noat_ok (c.g 3 rfl)
  have nF_stretches : PySem.W.findIn K (.ref (He.ga K "Chain")) "stretches" = some none := He.noat_ok (c.g 4 rfl)
  have nF_now : PySem.W.findIn K (.ref (He.ga K "Chain")) "now" = some none := He.noat_ok (c.g 5 rfl)
  have nF_row : PySem.W.findIn K (.ref (He.ga K "Chain")) "row" = some none := He.noat_ok (c.g 6 rfl)
  have nF_loads : PySem.W.findIn K (.ref (He.ga K "Chain")) "loads" = some none := He.noat_ok (c.g 7 rfl)
  have nF_spots : PySem.W.findIn K (.ref (He.ga K "Chain")) "spots" = some none := He.noat_ok (c.g 8 rfl)
  have nF_tempos : PySem.W.findIn K (.ref (He.ga K "Chain")) "tempos" = some none := He.noat_ok (c.g 9 rfl)
  have nF_leaving : PySem.W.findIn K (.ref (He.ga K "Chain")) "leaving" = some none := He.noat_ok (c.g 10 rfl)
  have nF_ledgers : PySem.W.findIn K (.ref (He.ga K "Chain")) "ledgers" = some none := He.noat_ok (c.g 11 rfl)
  have nF_marks : PySem.W.findIn K (.ref (He.ga K "Chain")) "marks" = some none := He.noat_ok (c.g 12 rfl)
  have nF_poured : PySem.W.findIn K (.ref (He.ga K "Chain")) "poured" = some none := He.noat_ok (c.g 13 rfl)
  have a1 : mg "_law_word" = some (.ref (He.ga K "_law_word")) := He.glo_ok X G (c.g 14 rfl)
  obtain ⟨fd1, T1⟩ := c.fun_ (x := "_law_word") (q := "_law_word") (st := s_l_word) (p := ("_law_word", none)) 0 rfl
  have b1 := T1.binds (ps := ["_law_asked"]) fun _ _ _ _ _ _ us hl => match us, hl with | [_], _ => rfl
  have a2 : mg "is_number" = some (.ref (He.ga K "is_number")) := He.glo_ok X G (c.g 15 rfl)
  obtain ⟨fd2, T2⟩ := c.fun_ (x := "is_number") (q := "is_number") (st := s_p_is_number) (p := ("is_number", none)) 1 rfl
  have b2 := T2.binds (ps := ["thing"]) fun _ _ _ _ _ _ us hl => match us, hl with | [_], _ => rfl
  have a3 : mg "is_within" = some (.ref (He.ga K "is_within")) := He.glo_ok X G (c.g 16 rfl)
  obtain ⟨fd3, T3⟩ := c.fun_ (x := "is_within") (q := "is_within") (st := s_p_is_within) (p := ("is_within", none)) 2 rfl
  have b3 := T3.binds (ps := ["thing", "least", "most"]) fun _ _ _ _ _ _ us hl => match us, hl with | [_, _, _], _ => rfl
  have a4 : mg "_law_cell" = some (.ref (He.ga K "_law_cell")) := He.glo_ok X G (c.g 17 rfl)
  obtain ⟨fd4, T4⟩ := c.fun_ (x := "_law_cell") (q := "_law_cell") (st := s_l_cell) (p := ("_law_cell", none)) 3 rfl
  have b4 := T4.binds (ps := ["_law_script", "_law_k"]) fun _ _ _ _ _ _ us hl => match us, hl with | [_, _], _ => rfl
  have a5 : mg "_law_draws" = some (.ref (He.ga K "_law_draws")) := He.glo_ok X G (c.g 18 rfl)
  obtain ⟨fd5, T5⟩ := c.fun_ (x := "_law_draws") (q := "_law_draws") (st := s_l_draws) (p := ("_law_draws", none)) 4 rfl
  have b5 := T5.binds (ps := ["_law_cell_here", "_law_parts"]) fun _ _ _ _ _ _ us hl => match us, hl with | [_, _], _ => rfl
  have a6 : mg "_law_many" = some (.ref (He.ga K "_law_many")) := He.glo_ok X G (c.g 19 rfl)
  obtain ⟨fd6, T6⟩ := c.fun_ (x := "_law_many") (q := "_law_many") (st := s_l_many) (p := ("_law_many", none)) 5 rfl
  have b6 := T6.binds (ps := ["_law_script", "_law_few"]) fun _ _ _ _ _ _ us hl => match us, hl with | [_, _], _ => rfl
  have a7 : mg "check_pace" = some (.ref (He.ga K "check_pace")) := He.glo_ok X G (c.g 20 rfl)
  obtain ⟨fd7, T7⟩ := c.fun_ (x := "check_pace") (q := "check_pace") (st := s_p_check_pace) (p := ("check_pace", none)) 6 rfl
  have b7 := T7.binds (ps := ["pace"]) fun _ _ _ _ _ _ us hl => match us, hl with | [_], _ => rfl
  have a8 : mg "is_name" = some (.ref (He.ga K "is_name")) := He.glo_ok X G (c.g 21 rfl)
  obtain ⟨⟨fd8, T8⟩, H8, n8⟩ := c.fnc X (x := "is_name") (q := "is_name") (st := s_p_is_name) (p := ("is_name", none)) 7 0 rfl rfl
  have b8 := T8.binds (ps := ["text"]) fun _ _ _ _ _ us hl => match us, hl with | [_], _ => rfl
  have a9 : mg "check_name" = some (.ref (He.ga K "check_name")) := He.glo_ok X G (c.g 22 rfl)
  obtain ⟨fd9, T9⟩ := c.fun_ (x := "check_name") (q := "check_name") (st := s_p_check_name) (p := ("check_name", none)) 8 rfl
  have b9 := T9.binds (ps := ["name"]) fun _ _ _ _ _ _ us hl => match us, hl with | [_], _ => rfl
  have a10 : Meth K (He.ga K "Chain") "take_pail" (He.ma K (He.ga K "Chain") "take_pail") := He.meth_ok (c.g 23 rfl)
  obtain ⟨fd10, T10⟩ := c.fun_ (x := "take_pail") (q := "Chain.take_pail") (st := s_p_Chain_take_pail) (p := ("Chain", some "take_pail")) 9 rfl
  have b10 := T10.binds (ps := ["self"]) fun _ _ _ _ _ _ us hl => match us, hl with | [_], _ => rfl
  have a11 : Meth K (He.ga K "Chain") "enter" (He.ma K (He.ga K "Chain") "enter") := He.meth_ok (c.g 24 rfl)
  obtain ⟨fd11, T11⟩ := c.fun_ (x := "enter") (q := "Chain.enter") (st := s_p_Chain_enter) (p := ("Chain", some "enter")) 10 rfl
  have b11 := T11.binds (ps := ["self", "name", "pace"]) fun _ _ _ _ _ _ us hl => match us, hl with | [_, _, _], _ => rfl
  have a12 : Meth K (He.ga K "Chain") "hands" (He.ma K (He.ga K "Chain") "hands") := He.meth_ok (c.g 25 rfl)
  obtain ⟨fd12, T12⟩ := c.fun_ (x := "hands") (q := "Chain.hands") (st := s_p_Chain_hands) (p := ("Chain", some "hands")) 11 rfl
  have b12 := T12.binds (ps := ["self"]) fun _ _ _ _ _ _ us hl => match us, hl with | [_], _ => rfl
  have a13 : Meth K (He.ga K "Chain") "emptied" (He.ma K (He.ga K "Chain") "emptied") := He.meth_ok (c.g 26 rfl)
  obtain ⟨fd13, T13⟩ := c.fun_ (x := "emptied") (q := "Chain.emptied") (st := s_p_Chain_emptied) (p := ("Chain", some "emptied")) 12 rfl
  have b13 := T13.binds (ps := ["self"]) fun _ _ _ _ _ _ us hl => match us, hl with | [_], _ => rfl
  have a14 : Meth K (He.ga K "Chain") "pails" (He.ma K (He.ga K "Chain") "pails") := He.meth_ok (c.g 27 rfl)
  obtain ⟨fd14, T14⟩ := c.fun_ (x := "pails") (q := "Chain.pails") (st := s_p_Chain_pails) (p := ("Chain", some "pails")) 13 rfl
  have b14 := T14.binds (ps := ["self"]) fun _ _ _ _ _ _ us hl => match us, hl with | [_], _ => rfl
  have a15 : Meth K (He.ga K "Chain") "number_of" (He.ma K (He.ga K "Chain") "number_of") := He.meth_ok (c.g 28 rfl)
  obtain ⟨fd15, T15⟩ := c.fun_ (x := "number_of") (q := "Chain.number_of") (st := s_p_Chain_number_of) (p := ("Chain", some "number_of")) 14 rfl
  have b15 := T15.binds (ps := ["self", "name"]) fun _ _ _ _ _ _ us hl => match us, hl with | [_, _], _ => rfl
  have a16 : Meth K (He.ga K "Chain") "place" (He.ma K (He.ga K "Chain") "place") := He.meth_ok (c.g 29 rfl)
  obtain ⟨fd16, T16⟩ := c.fun_ (x := "place") (q := "Chain.place") (st := s_p_Chain_place) (p := ("Chain", some "place")) 15 rfl
  have b16 := T16.binds (ps := ["self", "name"]) fun _ _ _ _ _ _ us hl => match us, hl with | [_, _], _ => rfl
  have a17 : Meth K (He.ga K "Chain") "ledger" (He.ma K (He.ga K "Chain") "ledger") := He.meth_ok (c.g 30 rfl)
  obtain ⟨fd17, T17⟩ := c.fun_ (x := "ledger") (q := "Chain.ledger") (st := s_p_Chain_ledger) (p := ("Chain", some "ledger")) 16 rfl
  have b17 := T17.binds (ps := ["self", "name"]) fun _ _ _ _ _ _ us hl => match us, hl with | [_, _], _ => rfl
  have a18 : Meth K (He.ga K "Chain") "hour" (He.ma K (He.ga K "Chain") "hour") := He.meth_ok (c.g 31 rfl)
  obtain ⟨fd18, T18⟩ := c.fun_ (x := "hour") (q := "Chain.hour") (st := s_p_Chain_hour) (p := ("Chain", some "hour")) 17 rfl
  have b18 := T18.binds (ps := ["self"]) fun _ _ _ _ _ _ us hl => match us, hl with | [_], _ => rfl
  have a19 : mg "is_stretch" = some (.ref (He.ga K "is_stretch")) := He.glo_ok X G (c.g 32 rfl)
  obtain ⟨⟨fd19, T19⟩, H19, n19⟩ := c.fnc X (x := "is_stretch") (q := "is_stretch") (st := s_p_is_stretch) (p := ("is_stretch", none)) 18 1 rfl rfl
  have b19 := T19.binds (ps := ["thing"]) fun _ _ _ _ _ us hl => match us, hl with | [_], _ => rfl
  have a20 : mg "check_way" = some (.ref (He.ga K "check_way")) := He.glo_ok X G (c.g 33 rfl)
  obtain ⟨fd20, T20⟩ := c.fun_ (x := "check_way") (q := "check_way") (st := s_p_check_way) (p := ("check_way", none)) 19 rfl
  have b20 := T20.binds (ps := ["way"]) fun _ _ _ _ _ _ us hl => match us, hl with | [_], _ => rfl
  have a21 : mg "labour" = some (.ref (He.ga K "labour")) := He.glo_ok X G (c.g 34 rfl)
  obtain ⟨⟨fd21, T21⟩, H21, n21⟩ := c.fnc X (x := "labour") (q := "labour") (st := s_p_labour) (p := ("labour", none)) 20 2 rfl rfl
  have b21 := T21.binds (ps := ["way"]) fun _ _ _ _ _ us hl => match us, hl with | [_], _ => rfl
  obtain ⟨fd22, T22⟩ := c.fun_ (x := "__init__") (q := "Chain.__init__") (st := s_p_Chain___init__) (p := ("Chain", some "__init__")) 21 rfl
  have b22 := T22.binds (ps := ["self", "way"]) fun _ _ _ _ _ _ us hl => match us, hl with | [_, _], _ => rfl
  have a23 : mg "_law_same" = some (.ref (He.ga K "_law_same")) := He.glo_ok X G (c.g 35 rfl)
  obtain ⟨fd23, T23⟩ := c.fun_ (x := "_law_same") (q := "_law_same") (st := s_l_same) (p := ("_law_same", none)) 22 rfl
  have b23 := T23.binds (ps := ["_law_found", "_law_due"]) fun _ _ _ _ _ _ us hl => match us, hl with | [_, _], _ => rfl
  have a24 : mg "_law_name" = some (.ref (He.ga K "_law_name")) := He.glo_ok X G (c.g 36 rfl)
  obtain ⟨fd24, T24⟩ := c.fun_ (x := "_law_name") (q := "_law_name") (st := s_l_name) (p := ("_law_name", none)) 23 rfl
  have b24 := T24.binds (ps := ["_law_k", "_law_salt"]) fun _ _ _ _ _ _ us hl => match us, hl with | [_, _], _ => rfl
  have a25 : mg "_law_split" = some (.ref (He.ga K "_law_split")) := He.glo_ok X G (c.g 37 rfl)
  obtain ⟨fd25, T25⟩ := c.fun_ (x := "_law_split") (q := "_law_split") (st := s_l_split) (p := ("_law_split", none)) 24 rfl
  have b25 := T25.binds (ps := ["_law_cell_here", "_law_many_here"]) fun _ _ _ _ _ _ us hl => match us, hl with | [_, _], _ => rfl
  have a26 : mg "_law_way" = some (.ref (He.ga K "_law_way")) := He.glo_ok X G (c.g 38 rfl)
  obtain ⟨fd26, T26⟩ := c.fun_ (x := "_law_way") (q := "_law_way") (st := s_l_way) (p := ("_law_way", none)) 25 rfl
  have b26 := T26.binds (ps := ["_law_cell_here"]) fun _ _ _ _ _ _ us hl => match us, hl with | [_], _ => rfl
  have a27 : mg "_law_labour" = some (.ref (He.ga K "_law_labour")) := He.glo_ok X G (c.g 39 rfl)
  obtain ⟨fd27, T27⟩ := c.fun_ (x := "_law_labour") (q := "_law_labour") (st := s_l_labour) (p := ("_law_labour", none)) 26 rfl
  have b27 := T27.binds (ps := ["_law_way_here"]) fun _ _ _ _ _ _ us hl => match us, hl with | [_], _ => rfl
  have a28 : Meth K (He.ga K "Chain") "called" (He.ma K (He.ga K "Chain") "called") := He.meth_ok (c.g 40 rfl)
  obtain ⟨fd28, T28⟩ := c.fun_ (x := "called") (q := "Chain.called") (st := s_p_Chain_called) (p := ("Chain", some "called")) 27 rfl
  have b28 := T28.binds (ps := ["self"]) fun _ _ _ _ _ _ us hl => match us, hl with | [_], _ => rfl
  have a29 : Meth K (He.ga K "Chain") "pace" (He.ma K (He.ga K "Chain") "pace") := He.meth_ok (c.g 41 rfl)
  obtain ⟨fd29, T29⟩ := c.fun_ (x := "pace") (q := "Chain.pace") (st := s_p_Chain_pace) (p := ("Chain", some "pace")) 28 rfl
  have b29 := T29.binds (ps := ["self", "name"]) fun _ _ _ _ _ _ us hl => match us, hl with | [_, _], _ => rfl
  have a30 : Meth K (He.ga K "Chain") "pail" (He.ma K (He.ga K "Chain") "pail") := He.meth_ok (c.g 42 rfl)
  obtain ⟨fd30, T30⟩ := c.fun_ (x := "pail") (q := "Chain.pail") (st := s_p_Chain_pail) (p := ("Chain", some "pail")) 29 rfl
  have b30 := T30.binds (ps := ["self", "name"]) fun _ _ _ _ _ _ us hl => match us, hl with | [_, _], _ => rfl
  have a31 : mg "story_rows" = some (.ref (He.ga K "story_rows")) := He.glo_ok X G (c.g 43 rfl)
  obtain ⟨fd31, T31⟩ := c.fun_ (x := "story_rows") (q := "story_rows") (st := s_p_story_rows) (p := ("story_rows", none)) 30 rfl
  have b31 := T31.binds (ps := ["marks"]) fun _ _ _ _ _ _ us hl => match us, hl with | [_], _ => rfl
  have a32 : Meth K (He.ga K "Chain") "story" (He.ma K (He.ga K "Chain") "story") := He.meth_ok (c.g 44 rfl)
  obtain ⟨fd32, T32⟩ := c.fun_ (x := "story") (q := "Chain.story") (st := s_p_Chain_story) (p := ("Chain", some "story")) 31 rfl
  have b32 := T32.binds (ps := ["self", "pail"]) fun _ _ _ _ _ _ us hl => match us, hl with | [_, _], _ => rfl
  have a33 : mg "_law_new" = some (.ref (He.ga K "_law_new")) := He.glo_ok X G (c.g 45 rfl)
  obtain ⟨fd33, T33⟩ := c.fun_ (x := "_law_new") (q := "_law_new") (st := s_l_new) (p := ("_law_new", none)) 32 rfl
  have b33 := T33.binds (ps := ["_law_length"]) fun _ _ _ _ _ _ us hl => match us, hl with | [_], _ => rfl
  have a34 : mg "_law_new_pail" = some (.ref (He.ga K "_law_new_pail")) := He.glo_ok X G (c.g 46 rfl)
  obtain ⟨fd34, T34⟩ := c.fun_ (x := "_law_new_pail") (q := "_law_new_pail") (st := s_l_new_pail) (p := ("_law_new_pail", none)) 33 rfl
  have b34 := T34.binds (ps := ["_law_m"]) fun _ _ _ _ _ _ us hl => match us, hl with | [_], _ => rfl
  have a35 : mg "_law_name_ok" = some (.ref (He.ga K "_law_name_ok")) := He.glo_ok X G (c.g 47 rfl)
  obtain ⟨fd35, T35⟩ := c.fun_ (x := "_law_name_ok") (q := "_law_name_ok") (st := s_l_name_ok) (p := ("_law_name_ok", none)) 34 rfl
  have b35 := T35.binds (ps := ["_law_name_here"]) fun _ _ _ _ _ _ us hl => match us, hl with | [_], _ => rfl
  have a36 : mg "_law_enters" = some (.ref (He.ga K "_law_enters")) := He.glo_ok X G (c.g 48 rfl)
  obtain ⟨fd36, T36⟩ := c.fun_ (x := "_law_enters") (q := "_law_enters") (st := s_l_enters) (p := ("_law_enters", none)) 35 rfl
  have b36 := T36.binds (ps := ["_law_m", "_law_name_here", "_law_pace"]) fun _ _ _ _ _ _ us hl => match us, hl with | [_, _, _], _ => rfl
  have a37 : mg "_law_full_story" = some (.ref (He.ga K "_law_full_story")) := He.glo_ok X G (c.g 49 rfl)
  obtain ⟨fd37, T37⟩ := c.fun_ (x := "_law_full_story") (q := "_law_full_story") (st := s_l_full_story) (p := ("_law_full_story", none)) 36 rfl
  have b37 := T37.binds (ps := ["_law_line", "_law_m", "_law_number"]) fun _ _ _ _ _ _ us hl => match us, hl with | [_, _, _], _ => rfl
  have a38 : mg "_law_stands" = some (.ref (He.ga K "_law_stands")) := He.glo_ok X G (c.g 50 rfl)
  obtain ⟨fd38, T38⟩ := c.fun_ (x := "_law_stands") (q := "_law_stands") (st := s_l_stands) (p := ("_law_stands", none)) 37 rfl
  have b38 := T38.binds (ps := ["_law_line", "_law_m"]) fun _ _ _ _ _ _ us hl => match us, hl with | [_, _], _ => rfl
  have a39 : Meth K (He.ga K "Chain") "call" (He.ma K (He.ga K "Chain") "call") := He.meth_ok (c.g 51 rfl)
  obtain ⟨fd39, T39⟩ := c.fun_ (x := "call") (q := "Chain.call") (st := s_p_Chain_call) (p := ("Chain", some "call")) 38 rfl
  have b39 := T39.binds (ps := ["self", "name"]) fun _ _ _ _ _ _ us hl => match us, hl with | [_, _], _ => rfl
  have a40 : Meth K (He.ga K "Chain") "set_pace" (He.ma K (He.ga K "Chain") "set_pace") := He.meth_ok (c.g 52 rfl)
  obtain ⟨fd40, T40⟩ := c.fun_ (x := "set_pace") (q := "Chain.set_pace") (st := s_p_Chain_set_pace) (p := ("Chain", some "set_pace")) 39 rfl
  have b40 := T40.binds (ps := ["self", "name", "pace"]) fun _ _ _ _ _ _ us hl => match us, hl with | [_, _, _], _ => rfl
  have a41 : Meth K (He.ga K "Chain") "stay" (He.ma K (He.ga K "Chain") "stay") := He.meth_ok (c.g 53 rfl)
  obtain ⟨fd41, T41⟩ := c.fun_ (x := "stay") (q := "Chain.stay") (st := s_p_Chain_stay) (p := ("Chain", some "stay")) 40 rfl
  have b41 := T41.binds (ps := ["self", "name"]) fun _ _ _ _ _ _ us hl => match us, hl with | [_, _], _ => rfl
  have a42 : Meth K (He.ga K "Chain") "mark" (He.ma K (He.ga K "Chain") "mark") := He.meth_ok (c.g 54 rfl)
  obtain ⟨fd42, T42⟩ := c.fun_ (x := "mark") (q := "Chain.mark") (st := s_p_Chain_mark) (p := ("Chain", some "mark")) 41 rfl
  have b42 := T42.binds (ps := ["self", "at"]) fun _ _ _ _ _ _ us hl => match us, hl with | [_, _], _ => rfl
  have a43 : Meth K (He.ga K "Chain") "swap" (He.ma K (He.ga K "Chain") "swap") := He.meth_ok (c.g 55 rfl)
  obtain ⟨fd43, T43⟩ := c.fun_ (x := "swap") (q := "Chain.swap") (st := s_p_Chain_swap) (p := ("Chain", some "swap")) 42 rfl
  have b43 := T43.binds (ps := ["self", "name"]) fun _ _ _ _ _ _ us hl => match us, hl with | [_, _], _ => rfl
  have a44 : mg "_law_small" = some (.ref (He.ga K "_law_small")) := He.glo_ok X G (c.g 56 rfl)
  obtain ⟨fd44, T44⟩ := c.fun_ (x := "_law_small") (q := "_law_small") (st := s_l_small) (p := ("_law_small", none)) 43 rfl
  have b44 := T44.binds (ps := ["_law_m", "_law_deed"]) fun _ _ _ _ _ _ us hl => match us, hl with | [_, _], _ => rfl
  have a45 : mg "_law_ask" = some (.ref (He.ga K "_law_ask")) := He.glo_ok X G (c.g 57 rfl)
  obtain ⟨fd45, T45⟩ := c.fun_ (x := "_law_ask") (q := "_law_ask") (st := s_l_ask) (p := ("_law_ask", none)) 44 rfl
  have b45 := T45.binds (ps := ["_law_line", "_law_deed"]) fun _ _ _ _ _ _ us hl => match us, hl with | [_, _], _ => rfl
  have a46 : mg "_law_odd_name" = some (.ref (He.ga K "_law_odd_name")) := He.glo_ok X G (c.g 58 rfl)
  obtain ⟨fd46, T46⟩ := c.fun_ (x := "_law_odd_name") (q := "_law_odd_name") (st := s_l_odd_name) (p := ("_law_odd_name", none)) 45 rfl
  have b46 := T46.binds (ps := ["_law_name_here", "_law_number"]) fun _ _ _ _ _ _ us hl => match us, hl with | [_, _], _ => rfl
  have a47 : mg "law" = some (.ref (He.ga K "law")) := He.glo_ok X G (c.g 59 rfl)
  obtain ⟨⟨fd47, T47⟩, H47, n47⟩ := c.fnc X (x := "law") (q := "law") (st := s_LAW) (p := ("law", none)) 46 3 rfl rfl
  have aCP : mg "PailError" = some (.ref (He.ga K "PailError")) := He.glo_ok X G (c.g 60 rfl)
  obtain ⟨rdP, gaP, a100, e1P, e2P, e3P, vV⟩ := hrBase_ok (C := (He.ga K "PailError")) (c.f (f := .base "PailError") 61 rfl)
  obtain ⟨fd100, T100⟩ := c.fun_ (x := "__init__") (q := "PailError.__init__") (st := s_p_PailError___init__) (p := ("PailError", some "__init__")) 47 rfl
  have b100 := T100.binds (ps := ["self", "word"]) fun _ _ _ _ _ _ us hl => match us, hl with | [_, _], _ => rfl
  have aC101 : mg "BadWay" = some (.ref (He.ga K "BadWay")) := He.glo_ok X G (c.g 62 rfl)
  obtain ⟨xO101, xF101, xW101, xS101, xT101⟩ := hrErr_ok (CP := (He.ga K "PailError")) (C := (He.ga K "BadWay")) (c.f (f := .err "PailError" "BadWay") 63 rfl)
  have a101 : Meth K (He.ga K "BadWay") "__init__" (He.ma K (He.ga K "BadWay") "__init__") := He.meth_ok (c.g 64 rfl)
  obtain ⟨fd101, T101⟩ := c.fun_ (x := "__init__") (q := "BadWay.__init__") (st := s_p_BadWay___init__) (p := ("BadWay", some "__init__")) 48 rfl
  have b101 := T101.binds (ps := ["self"]) fun _ _ _ _ _ _ us hl => match us, hl with | [_], _ => rfl
  have aC102 : mg "BadName" = some (.ref (He.ga K "BadName")) := He.glo_ok X G (c.g 65 rfl)
  obtain ⟨xO102, xF102, xW102, xS102, xT102⟩ := hrErr_ok (CP := (He.ga K "PailError")) (C := (He.ga K "BadName")) (c.f (f := .err "PailError" "BadName") 66 rfl)
  have a102 : Meth K (He.ga K "BadName") "__init__" (He.ma K (He.ga K "BadName") "__init__") := He.meth_ok (c.g 67 rfl)
  obtain ⟨fd102, T102⟩ := c.fun_ (x := "__init__") (q := "BadName.__init__") (st := s_p_BadName___init__) (p := ("BadName", some "__init__")) 49 rfl
  have b102 := T102.binds (ps := ["self"]) fun _ _ _ _ _ _ us hl => match us, hl with | [_], _ => rfl
  have aC103 : mg "Taken" = some (.ref (He.ga K "Taken")) := He.glo_ok X G (c.g 68 rfl)
  obtain ⟨xO103, xF103, xW103, xS103, xT103⟩ := hrErr_ok (CP := (He.ga K "PailError")) (C := (He.ga K "Taken")) (c.f (f := .err "PailError" "Taken") 69 rfl)
  have a103 : Meth K (He.ga K "Taken") "__init__" (He.ma K (He.ga K "Taken") "__init__") := He.meth_ok (c.g 70 rfl)
  obtain ⟨fd103, T103⟩ := c.fun_ (x := "__init__") (q := "Taken.__init__") (st := s_p_Taken___init__) (p := ("Taken", some "__init__")) 50 rfl
  have b103 := T103.binds (ps := ["self"]) fun _ _ _ _ _ _ us hl => match us, hl with | [_], _ => rfl
  have aC104 : mg "BadPace" = some (.ref (He.ga K "BadPace")) := He.glo_ok X G (c.g 71 rfl)
  obtain ⟨xO104, xF104, xW104, xS104, xT104⟩ := hrErr_ok (CP := (He.ga K "PailError")) (C := (He.ga K "BadPace")) (c.f (f := .err "PailError" "BadPace") 72 rfl)
  have a104 : Meth K (He.ga K "BadPace") "__init__" (He.ma K (He.ga K "BadPace") "__init__") := He.meth_ok (c.g 73 rfl)
  obtain ⟨fd104, T104⟩ := c.fun_ (x := "__init__") (q := "BadPace.__init__") (st := s_p_BadPace___init__) (p := ("BadPace", some "__init__")) 51 rfl
  have b104 := T104.binds (ps := ["self"]) fun _ _ _ _ _ _ us hl => match us, hl with | [_], _ => rfl
  have aC105 : mg "Full" = some (.ref (He.ga K "Full")) := He.glo_ok X G (c.g 74 rfl)
  obtain ⟨xO105, xF105, xW105, xS105, xT105⟩ := hrErr_ok (CP := (He.ga K "PailError")) (C := (He.ga K "Full")) (c.f (f := .err "PailError" "Full") 75 rfl)
  have a105 : Meth K (He.ga K "Full") "__init__" (He.ma K (He.ga K "Full") "__init__") := He.meth_ok (c.g 76 rfl)
  obtain ⟨fd105, T105⟩ := c.fun_ (x := "__init__") (q := "Full.__init__") (st := s_p_Full___init__) (p := ("Full", some "__init__")) 52 rfl
  have b105 := T105.binds (ps := ["self"]) fun _ _ _ _ _ _ us hl => match us, hl with | [_], _ => rfl
  have aC106 : mg "NoHand" = some (.ref (He.ga K "NoHand")) := He.glo_ok X G (c.g 77 rfl)
  obtain ⟨xO106, xF106, xW106, xS106, xT106⟩ := hrErr_ok (CP := (He.ga K "PailError")) (C := (He.ga K "NoHand")) (c.f (f := .err "PailError" "NoHand") 78 rfl)
  have a106 : Meth K (He.ga K "NoHand") "__init__" (He.ma K (He.ga K "NoHand") "__init__") := He.meth_ok (c.g 79 rfl)
  obtain ⟨fd106, T106⟩ := c.fun_ (x := "__init__") (q := "NoHand.__init__") (st := s_p_NoHand___init__) (p := ("NoHand", some "__init__")) 53 rfl
  have b106 := T106.binds (ps := ["self"]) fun _ _ _ _ _ _ us hl => match us, hl with | [_], _ => rfl
  have aC107 : mg "Called" = some (.ref (He.ga K "Called")) := He.glo_ok X G (c.g 80 rfl)
  obtain ⟨xO107, xF107, xW107, xS107, xT107⟩ := hrErr_ok (CP := (He.ga K "PailError")) (C := (He.ga K "Called")) (c.f (f := .err "PailError" "Called") 81 rfl)
  have a107 : Meth K (He.ga K "Called") "__init__" (He.ma K (He.ga K "Called") "__init__") := He.meth_ok (c.g 82 rfl)
  obtain ⟨fd107, T107⟩ := c.fun_ (x := "__init__") (q := "Called.__init__") (st := s_p_Called___init__) (p := ("Called", some "__init__")) 54 rfl
  have b107 := T107.binds (ps := ["self"]) fun _ _ _ _ _ _ us hl => match us, hl with | [_], _ => rfl
  have aC108 : mg "NotCalled" = some (.ref (He.ga K "NotCalled")) := He.glo_ok X G (c.g 83 rfl)
  obtain ⟨xO108, xF108, xW108, xS108, xT108⟩ := hrErr_ok (CP := (He.ga K "PailError")) (C := (He.ga K "NotCalled")) (c.f (f := .err "PailError" "NotCalled") 84 rfl)
  have a108 : Meth K (He.ga K "NotCalled") "__init__" (He.ma K (He.ga K "NotCalled") "__init__") := He.meth_ok (c.g 85 rfl)
  obtain ⟨fd108, T108⟩ := c.fun_ (x := "__init__") (q := "NotCalled.__init__") (st := s_p_NotCalled___init__) (p := ("NotCalled", some "__init__")) 55 rfl
  have b108 := T108.binds (ps := ["self"]) fun _ _ _ _ _ _ us hl => match us, hl with | [_], _ => rfl
  have aC109 : mg "NoNext" = some (.ref (He.ga K "NoNext")) := He.glo_ok X G (c.g 86 rfl)
  obtain ⟨xO109, xF109, xW109, xS109, xT109⟩ := hrErr_ok (CP := (He.ga K "PailError")) (C := (He.ga K "NoNext")) (c.f (f := .err "PailError" "NoNext") 87 rfl)
  have a109 : Meth K (He.ga K "NoNext") "__init__" (He.ma K (He.ga K "NoNext") "__init__") := He.meth_ok (c.g 88 rfl)
  obtain ⟨fd109, T109⟩ := c.fun_ (x := "__init__") (q := "NoNext.__init__") (st := s_p_NoNext___init__) (p := ("NoNext", some "__init__")) 56 rfl
  have b109 := T109.binds (ps := ["self"]) fun _ _ _ _ _ _ us hl => match us, hl with | [_], _ => rfl
  have aC110 : mg "NoPail" = some (.ref (He.ga K "NoPail")) := He.glo_ok X G (c.g 89 rfl)
  obtain ⟨xO110, xF110, xW110, xS110, xT110⟩ := hrErr_ok (CP := (He.ga K "PailError")) (C := (He.ga K "NoPail")) (c.f (f := .err "PailError" "NoPail") 90 rfl)
  have a110 : Meth K (He.ga K "NoPail") "__init__" (He.ma K (He.ga K "NoPail") "__init__") := He.meth_ok (c.g 91 rfl)
  obtain ⟨fd110, T110⟩ := c.fun_ (x := "__init__") (q := "NoPail.__init__") (st := s_p_NoPail___init__) (p := ("NoPail", some "__init__")) 57 rfl
  have b110 := T110.binds (ps := ["self"]) fun _ _ _ _ _ _ us hl => match us, hl with | [_], _ => rfl
  have z_ValueError : mg "ValueError" = none := He.free_ok X G (c.g 92 rfl)
  have z_all : mg "all" = none := He.free_ok X G (c.g 93 rfl)
  have z_bool : mg "bool" = none := He.free_ok X G (c.g 94 rfl)
  have z_int : mg "int" = none := He.free_ok X G (c.g 95 rfl)
  have z_isinstance : mg "isinstance" = none := He.free_ok X G (c.g 96 rfl)
  have z_len : mg "len" = none := He.free_ok X G (c.g 97 rfl)
  have z_list : mg "list" = none := He.free_ok X G (c.g 98 rfl)
  have z_max : mg "max" = none := He.free_ok X G (c.g 99 rfl)
  have z_min : mg "min" = none := He.free_ok X G (c.g 100 rfl)
  have z_range : mg "range" = none := He.free_ok X G (c.g 101 rfl)
  have z_str : mg "str" = none := He.free_ok X G (c.g 102 rfl)
  have z_sum : mg "sum" = none := He.free_ok X G (c.g 103 rfl)
  have z_tuple : mg "tuple" = none := He.free_ok X G (c.g 104 rfl)
  obtain ⟨t_MOST_HANDS, y_MOST_HANDS⟩ := He.int_ok (x := "MOST_HANDS") (i := 8) X G (c.g 105 rfl)
  obtain ⟨t_MOST_LETTERS, y_MOST_LETTERS⟩ := He.int_ok (x := "MOST_LETTERS") (i := 8) X G (c.g 106 rfl)
  obtain ⟨t_MOST_PACE, y_MOST_PACE⟩ := He.int_ok (x := "MOST_PACE") (i := 12) X G (c.g 107 rfl)
  obtain ⟨t_MOST_STEPS_OR_TOIL, y_MOST_STEPS_OR_TOIL⟩ := He.int_ok (x := "MOST_STEPS_OR_TOIL") (i := 9) X G (c.g 108 rfl)
  obtain ⟨t_MOST_STRETCHES, y_MOST_STRETCHES⟩ := He.int_ok (x := "MOST_STRETCHES") (i := 6) X G (c.g 109 rfl)
  have y_NOUGHT : mg "NOUGHT" = some (.ref (He.ga K "NOUGHT")) := He.glo_ok X G (c.g 110 rfl)
  have x_NOUGHT : ∀ H, SqT K H (He.ga K "NOUGHT") [.int 0, .int 1] := fun H => He.tupB_ok (c.f (f := .tup "NOUGHT" [.int 0, .int 1]) 111 rfl) H
  have e := hfa.symm.trans a47
  cases e
  have hnT : (([((He.cT K ("is_name", none)).2, none), ((He.cT K ("is_stretch", none)).2, none), ((He.cT K ("labour", none)).2, none), ((He.cT K ("law", none)).2, some (("law" : Str) ++ ".<locals>." ++ "<lambda>"))] : Tb).map (·.1)).Nodup := hrNod_ok (c.f (f := .nod hrTf) 112 rfl)
  have B : Bn mg := ⟨z_ValueError, z_all, z_bool, z_int, z_isinstance, z_len, z_list, z_max, z_min, z_range, z_str, z_sum, z_tuple⟩
  have Tl := T47
  obtain ⟨ocl, odl, kVl, dcl, pml, anl, ctl, sll, efl, lkl, cil⟩ := Tl.ex
  have efl2 := efl
  subst efl2
  refine ⟨PySem.W.fnOf "law" "law" (defArgs s_LAW) (defBody s_LAW) (defScope s_LAW) .none kVl dcl pml anl (.ref (He.cT K ("law", none)).1) ctl, [((He.cT K ("is_name", none)).1, (He.cT K ("is_name", none)).2), ((He.cT K ("is_stretch", none)).1, (He.cT K ("is_stretch", none)).2), ((He.cT K ("labour", none)).1, (He.cT K ("labour", none)).2), ((He.cT K ("law", none)).1, (He.cT K ("law", none)).2)], sp_LAW K [((He.cT K ("is_name", none)).2, none), ((He.cT K ("is_stretch", none)).2, none), ((He.cT K ("labour", none)).2, none), ((He.cT K ("law", none)).2, some (("law" : Str) ++ ".<locals>." ++ "<lambda>"))] (He.ga K "PailError") (He.ga K "Chain"), ?_, ?_, ?_, fun s v => .of_eq rfl, ?_, fun base _ _ TBs => ?_⟩
  · intro p hp
    simp only [List.mem_cons, List.not_mem_nil, or_false] at hp
    rcases hp with rfl | rfl | rfl | rfl
    · exact H8.2
    · exact H19.2
    · exact H21.2
    · exact H47.2
  · intro p hp
    simp only [List.mem_cons, List.not_mem_nil, or_false] at hp
    rcases hp with rfl | rfl | rfl | rfl
    · exact n8
    · exact n19
    · exact n21
    · exact n47
  · intro p hp
    simp only [List.mem_cons, List.not_mem_nil, or_false] at hp
    rcases hp with rfl | rfl | rfl | rfl
    · exact H8.1
    · exact H19.1
    · exact H21.1
    · exact H47.1
  · intro H a ns hlen hbits hT hS
    refine ⟨a, ns, rfl, hS, hlen, hbits, ?_, fun _ => rfl⟩
    intro p hp
    simp only [List.mem_cons, List.not_mem_nil, or_false] at hp
    rcases hp with rfl | rfl | rfl | rfl
    · exact okG0 (hT ((He.cT K ("is_name", none)).1, (He.cT K ("is_name", none)).2) (by simp))
    · exact okG0 (hT ((He.cT K ("is_stretch", none)).1, (He.cT K ("is_stretch", none)).2) (by simp))
    · exact okG0 (hT ((He.cT K ("labour", none)).1, (He.cT K ("labour", none)).2) (by simp))
    · exact okS0 (hT ((He.cT K ("law", none)).1, (He.cT K ("law", none)).2) (by simp))
  have B8 : LamX.TabB base mg (He.cT K ("is_name", none)).1 (He.cT K ("is_name", none)).2 := TBs ((He.cT K ("is_name", none)).1, (He.cT K ("is_name", none)).2) (by simp)
  have B19 : LamX.TabB base mg (He.cT K ("is_stretch", none)).1 (He.cT K ("is_stretch", none)).2 := TBs ((He.cT K ("is_stretch", none)).1, (He.cT K ("is_stretch", none)).2) (by simp)
  have B21 : LamX.TabB base mg (He.cT K ("labour", none)).1 (He.cT K ("labour", none)).2 := TBs ((He.cT K ("labour", none)).1, (He.cT K ("labour", none)).2) (by simp)
  have B47 : LamX.TabB base mg (He.cT K ("law", none)).1 (He.cT K ("law", none)).2 := TBs ((He.cT K ("law", none)).1, (He.cT K ("law", none)).2) (by simp)
  have okP := ok_PailError (P := l.prog) (w := w) (mg := mg) (base := base) T100 z_ValueError vV
  have R_BadWay : Err l.prog w K mg base (He.ga K "PailError") "BadWay" "bad way" := ⟨⟨(He.ga K "BadWay"), _, _, aC101, xO101, xF101, xW101, exm_of e1P e2P e3P xS101, a101.1, xT101, ok_BadWay T101 ⟨rdP, gaP⟩ a100 okP aCP T100.kp b100, b101⟩⟩
  have R_BadName : Err l.prog w K mg base (He.ga K "PailError") "BadName" "bad name" := ⟨⟨(He.ga K "BadName"), _, _, aC102, xO102, xF102, xW102, exm_of e1P e2P e3P xS102, a102.1, xT102, ok_BadName T102 ⟨rdP, gaP⟩ a100 okP aCP T100.kp b100, b102⟩⟩
  have R_Taken : Err l.prog w K mg base (He.ga K "PailError") "Taken" "taken" := ⟨⟨(He.ga K "Taken"), _, _, aC103, xO103, xF103, xW103, exm_of e1P e2P e3P xS103, a103.1, xT103, ok_Taken T103 ⟨rdP, gaP⟩ a100 okP aCP T100.kp b100, b103⟩⟩
  have R_BadPace : Err l.prog w K mg base (He.ga K "PailError") "BadPace" "bad pace" := ⟨⟨(He.ga K "BadPace"), _, _, aC104, xO104, xF104, xW104, exm_of e1P e2P e3P xS104, a104.1, xT104, ok_BadPace T104 ⟨rdP, gaP⟩ a100 okP aCP T100.kp b100, b104⟩⟩
  have R_Full : Err l.prog w K mg base (He.ga K "PailError") "Full" "full" := ⟨⟨(He.ga K "Full"), _, _, aC105, xO105, xF105, xW105, exm_of e1P e2P e3P xS105, a105.1, xT105, ok_Full T105 ⟨rdP, gaP⟩ a100 okP aCP T100.kp b100, b105⟩⟩
  have R_NoHand : Err l.prog w K mg base (He.ga K "PailError") "NoHand" "no hand" := ⟨⟨(He.ga K "NoHand"), _, _, aC106, xO106, xF106, xW106, exm_of e1P e2P e3P xS106, a106.1, xT106, ok_NoHand T106 ⟨rdP, gaP⟩ a100 okP aCP T100.kp b100, b106⟩⟩
  have R_Called : Err l.prog w K mg base (He.ga K "PailError") "Called" "called" := ⟨⟨(He.ga K "Called"), _, _, aC107, xO107, xF107, xW107, exm_of e1P e2P e3P xS107, a107.1, xT107, ok_Called T107 ⟨rdP, gaP⟩ a100 okP aCP T100.kp b100, b107⟩⟩
  have R_NotCalled : Err l.prog w K mg base (He.ga K "PailError") "NotCalled" "not called" := ⟨⟨(He.ga K "NotCalled"), _, _, aC108, xO108, xF108, xW108, exm_of e1P e2P e3P xS108, a108.1, xT108, ok_NotCalled T108 ⟨rdP, gaP⟩ a100 okP aCP T100.kp b100, b108⟩⟩
  have R_NoNext : Err l.prog w K mg base (He.ga K "PailError") "NoNext" "no next" := ⟨⟨(He.ga K "NoNext"), _, _, aC109, xO109, xF109, xW109, exm_of e1P e2P e3P xS109, a109.1, xT109, ok_NoNext T109 ⟨rdP, gaP⟩ a100 okP aCP T100.kp b100, b109⟩⟩
  have R_NoPail : Err l.prog w K mg base (He.ga K "PailError") "NoPail" "no pail" := ⟨⟨(He.ga K "NoPail"), _, _, aC110, xO110, xF110, xW110, exm_of e1P e2P e3P xS110, a110.1, xT110, ok_NoPail T110 ⟨rdP, gaP⟩ a100 okP aCP T100.kp b100, b110⟩⟩
  have TC : Kl K (He.ga K "Chain") := ⟨clC, fun f hf => by
    simp only [FLD, List.mem_cons, List.not_mem_nil, or_false] at hf
    rcases hf with rfl | rfl | rfl | rfl | rfl | rfl | rfl | rfl | rfl | rfl | rfl <;> assumption⟩
  have W : Word K mg (He.ga K "PailError") := ⟨⟨_, _, T1, a1, b1, aCP⟩⟩
  have F_l_cell : Fn l.prog w K mg base 1 "_law_cell" ["_law_script", "_law_k"] (sp_l_cell K [((He.cT K ("is_name", none)).2, none), ((He.cT K ("is_stretch", none)).2, none), ((He.cT K ("labour", none)).2, none), ((He.cT K ("law", none)).2, some (("law" : Str) ++ ".<locals>." ++ "<lambda>"))]) := Fn.mk' (ok_l_cell (T := [((He.cT K ("is_name", none)).2, none), ((He.cT K ("is_stretch", none)).2, none), ((He.cT K ("labour", none)).2, none), ((He.cT K ("law", none)).2, some (("law" : Str) ++ ".<locals>." ++ "<lambda>"))]) T4 B    ) a4 T4.kp b4
  have F_l_draws : Fn l.prog w K mg base 1 "_law_draws" ["_law_cell_here", "_law_parts"] (sp_l_draws K [((He.cT K ("is_name", none)).2, none), ((He.cT K ("is_stretch", none)).2, none), ((He.cT K ("labour", none)).2, none), ((He.cT K ("law", none)).2, some (("law" : Str) ++ ".<locals>." ++ "<lambda>"))]) := Fn.mk' (ok_l_draws (T := [((He.cT K ("is_name", none)).2, none), ((He.cT K ("is_stretch", none)).2, none), ((He.cT K ("labour", none)).2, none), ((He.cT K ("law", none)).2, some (("law" : Str) ++ ".<locals>." ++ "<lambda>"))]) T5    ) a5 T5.kp b5
  have F_l_many : Fn l.prog w K mg base 1 "_law_many" ["_law_script", "_law_few"] (sp_l_many K [((He.cT K ("is_name", none)).2, none), ((He.cT K ("is_stretch", none)).2, none), ((He.cT K ("labour", none)).2, none), ((He.cT K ("law", none)).2, some (("law" : Str) ++ ".<locals>." ++ "<lambda>"))]) := Fn.mk' (ok_l_many (T := [((He.cT K ("is_name", none)).2, none), ((He.cT K ("is_stretch", none)).2, none), ((He.cT K ("labour", none)).2, none), ((He.cT K ("law", none)).2, some (("law" : Str) ++ ".<locals>." ++ "<lambda>"))]) T6 B    ) a6 T6.kp b6
  have F_p_is_number : Fn l.prog w K mg base 1 "is_number" ["thing"] (sp_p_is_number K [((He.cT K ("is_name", none)).2, none), ((He.cT K ("is_stretch", none)).2, none), ((He.cT K ("labour", none)).2, none), ((He.cT K ("law", none)).2, some (("law" : Str) ++ ".<locals>." ++ "<lambda>"))]) := Fn.mk' (ok_p_is_number (T := [((He.cT K ("is_name", none)).2, none), ((He.cT K ("is_stretch", none)).2, none), ((He.cT K ("labour", none)).2, none), ((He.cT K ("law", none)).2, some (("law" : Str) ++ ".<locals>." ++ "<lambda>"))]) T2 B    ) a2 T2.kp b2
  have F_p_is_within : Fn l.prog w K mg base 2 "is_within" ["thing", "least", "most"] (sp_p_is_within K [((He.cT K ("is_name", none)).2, none), ((He.cT K ("is_stretch", none)).2, none), ((He.cT K ("labour", none)).2, none), ((He.cT K ("law", none)).2, some (("law" : Str) ++ ".<locals>." ++ "<lambda>"))]) := Fn.mk' (ok_p_is_within (T := [((He.cT K ("is_name", none)).2, none), ((He.cT K ("is_stretch", none)).2, none), ((He.cT K ("labour", none)).2, none), ((He.cT K ("law", none)).2, some (("law" : Str) ++ ".<locals>." ++ "<lambda>"))]) T3   F_p_is_number ) a3 T3.kp b3
  have F_p_check_pace : Fx l.prog w K mg base 4 "check_pace" ["pace"] (sp_p_check_pace K [((He.cT K ("is_name", none)).2, none), ((He.cT K ("is_stretch", none)).2, none), ((He.cT K ("labour", none)).2, none), ((He.cT K ("law", none)).2, some (("law" : Str) ++ ".<locals>." ++ "<lambda>"))] (He.ga K "PailError")) := Fx.mk' (ok_p_check_pace (T := [((He.cT K ("is_name", none)).2, none), ((He.cT K ("is_stretch", none)).2, none), ((He.cT K ("labour", none)).2, none), ((He.cT K ("law", none)).2, some (("law" : Str) ++ ".<locals>." ++ "<lambda>"))]) T7 ⟨⟨_, rfl⟩, y_MOST_PACE⟩ R_BadPace F_p_is_within ) a7 T7.kp b7
  have F_p_is_name : Fn l.prog w K mg base 1 "is_name" ["text"] (sp_p_is_name K [((He.cT K ("is_name", none)).2, none), ((He.cT K ("is_stretch", none)).2, none), ((He.cT K ("labour", none)).2, none), ((He.cT K ("law", none)).2, some (("law" : Str) ++ ".<locals>." ++ "<lambda>"))]) := Fn.mk' (ok_p_is_name (T := [((He.cT K ("is_name", none)).2, none), ((He.cT K ("is_stretch", none)).2, none), ((He.cT K ("labour", none)).2, none), ((He.cT K ("law", none)).2, some (("law" : Str) ++ ".<locals>." ++ "<lambda>"))]) T8 hnT (by simp) (gx_lam B8) B ⟨⟨_, rfl⟩, y_MOST_LETTERS⟩   ) a8 T8.kp b8
  have F_p_check_name : Fx l.prog w K mg base 4 "check_name" ["name"] (sp_p_check_name K [((He.cT K ("is_name", none)).2, none), ((He.cT K ("is_stretch", none)).2, none), ((He.cT K ("labour", none)).2, none), ((He.cT K ("law", none)).2, some (("law" : Str) ++ ".<locals>." ++ "<lambda>"))] (He.ga K "PailError")) := Fx.mk' (ok_p_check_name (T := [((He.cT K ("is_name", none)).2, none), ((He.cT K ("is_stretch", none)).2, none), ((He.cT K ("labour", none)).2, none), ((He.cT K ("law", none)).2, some (("law" : Str) ++ ".<locals>." ++ "<lambda>"))]) T9  R_BadName F_p_is_name ) a9 T9.kp b9
  have M_take_pail : Mt l.prog w K mg base (He.ga K "Chain") 1 "take_pail" ["self"] (sp_p_Chain_take_pail K [((He.cT K ("is_name", none)).2, none), ((He.cT K ("is_stretch", none)).2, none), ((He.cT K ("labour", none)).2, none), ((He.cT K ("law", none)).2, some (("law" : Str) ++ ".<locals>." ++ "<lambda>"))] (He.ga K "Chain")) := ⟨⟨_, _, ok_p_Chain_take_pail (T := [((He.cT K ("is_name", none)).2, none), ((He.cT K ("is_stretch", none)).2, none), ((He.cT K ("labour", none)).2, none), ((He.cT K ("law", none)).2, some (("law" : Str) ++ ".<locals>." ++ "<lambda>"))]) T10 B y_NOUGHT x_NOUGHT  TC  , a10, b10⟩⟩
  have M_enter : Mx l.prog w K mg base (He.ga K "Chain") 5 "enter" ["self", "name", "pace"] (sp_p_Chain_enter K [((He.cT K ("is_name", none)).2, none), ((He.cT K ("is_stretch", none)).2, none), ((He.cT K ("labour", none)).2, none), ((He.cT K ("law", none)).2, some (("law" : Str) ++ ".<locals>." ++ "<lambda>"))] (He.ga K "PailError") (He.ga K "Chain")) := ⟨⟨_, _, ok_p_Chain_enter (T := [((He.cT K ("is_name", none)).2, none), ((He.cT K ("is_stretch", none)).2, none), ((He.cT K ("labour", none)).2, none), ((He.cT K ("law", none)).2, some (("law" : Str) ++ ".<locals>." ++ "<lambda>"))]) T11 B ⟨⟨_, rfl⟩, y_MOST_HANDS⟩ y_NOUGHT x_NOUGHT R_Taken R_Full TC F_p_check_pace F_p_check_name M_take_pail , a11, b11⟩⟩
  have M_hands : Mt l.prog w K mg base (He.ga K "Chain") 1 "hands" ["self"] (sp_p_Chain_hands K [((He.cT K ("is_name", none)).2, none), ((He.cT K ("is_stretch", none)).2, none), ((He.cT K ("labour", none)).2, none), ((He.cT K ("law", none)).2, some (("law" : Str) ++ ".<locals>." ++ "<lambda>"))] (He.ga K "Chain")) := ⟨⟨_, _, ok_p_Chain_hands (T := [((He.cT K ("is_name", none)).2, none), ((He.cT K ("is_stretch", none)).2, none), ((He.cT K ("labour", none)).2, none), ((He.cT K ("law", none)).2, some (("law" : Str) ++ ".<locals>." ++ "<lambda>"))]) T12 B   TC  , a12, b12⟩⟩
  have M_emptied : Mt l.prog w K mg base (He.ga K "Chain") 1 "emptied" ["self"] (sp_p_Chain_emptied K [((He.cT K ("is_name", none)).2, none), ((He.cT K ("is_stretch", none)).2, none), ((He.cT K ("labour", none)).2, none), ((He.cT K ("law", none)).2, some (("law" : Str) ++ ".<locals>." ++ "<lambda>"))] (He.ga K "Chain")) := ⟨⟨_, _, ok_p_Chain_emptied (T := [((He.cT K ("is_name", none)).2, none), ((He.cT K ("is_stretch", none)).2, none), ((He.cT K ("labour", none)).2, none), ((He.cT K ("law", none)).2, some (("law" : Str) ++ ".<locals>." ++ "<lambda>"))]) T13 B   TC  , a13, b13⟩⟩
  have M_pails : Mt l.prog w K mg base (He.ga K "Chain") 1 "pails" ["self"] (sp_p_Chain_pails K [((He.cT K ("is_name", none)).2, none), ((He.cT K ("is_stretch", none)).2, none), ((He.cT K ("labour", none)).2, none), ((He.cT K ("law", none)).2, some (("law" : Str) ++ ".<locals>." ++ "<lambda>"))] (He.ga K "Chain")) := ⟨⟨_, _, ok_p_Chain_pails (T := [((He.cT K ("is_name", none)).2, none), ((He.cT K ("is_stretch", none)).2, none), ((He.cT K ("labour", none)).2, none), ((He.cT K ("law", none)).2, some (("law" : Str) ++ ".<locals>." ++ "<lambda>"))]) T14 B   TC  , a14, b14⟩⟩
  have M_number_of : Mx l.prog w K mg base (He.ga K "Chain") 4 "number_of" ["self", "name"] (sp_p_Chain_number_of K [((He.cT K ("is_name", none)).2, none), ((He.cT K ("is_stretch", none)).2, none), ((He.cT K ("labour", none)).2, none), ((He.cT K ("law", none)).2, some (("law" : Str) ++ ".<locals>." ++ "<lambda>"))] (He.ga K "PailError") (He.ga K "Chain")) := ⟨⟨_, _, ok_p_Chain_number_of (T := [((He.cT K ("is_name", none)).2, none), ((He.cT K ("is_stretch", none)).2, none), ((He.cT K ("labour", none)).2, none), ((He.cT K ("law", none)).2, some (("law" : Str) ++ ".<locals>." ++ "<lambda>"))]) T15  R_NoHand TC  , a15, b15⟩⟩
  have M_place : Mx l.prog w K mg base (He.ga K "Chain") 5 "place" ["self", "name"] (sp_p_Chain_place K [((He.cT K ("is_name", none)).2, none), ((He.cT K ("is_stretch", none)).2, none), ((He.cT K ("labour", none)).2, none), ((He.cT K ("law", none)).2, some (("law" : Str) ++ ".<locals>." ++ "<lambda>"))] (He.ga K "PailError") (He.ga K "Chain")) := ⟨⟨_, _, ok_p_Chain_place (T := [((He.cT K ("is_name", none)).2, none), ((He.cT K ("is_stretch", none)).2, none), ((He.cT K ("labour", none)).2, none), ((He.cT K ("law", none)).2, some (("law" : Str) ++ ".<locals>." ++ "<lambda>"))]) T16   TC M_number_of , a16, b16⟩⟩
  have M_ledger : Mx l.prog w K mg base (He.ga K "Chain") 4 "ledger" ["self", "name"] (sp_p_Chain_ledger K [((He.cT K ("is_name", none)).2, none), ((He.cT K ("is_stretch", none)).2, none), ((He.cT K ("labour", none)).2, none), ((He.cT K ("law", none)).2, some (("law" : Str) ++ ".<locals>." ++ "<lambda>"))] (He.ga K "PailError") (He.ga K "Chain")) := ⟨⟨_, _, ok_p_Chain_ledger (T := [((He.cT K ("is_name", none)).2, none), ((He.cT K ("is_stretch", none)).2, none), ((He.cT K ("labour", none)).2, none), ((He.cT K ("law", none)).2, some (("law" : Str) ++ ".<locals>." ++ "<lambda>"))]) T17  R_NoHand TC  , a17, b17⟩⟩
  have M_hour : Mt l.prog w K mg base (He.ga K "Chain") 1 "hour" ["self"] (sp_p_Chain_hour K [((He.cT K ("is_name", none)).2, none), ((He.cT K ("is_stretch", none)).2, none), ((He.cT K ("labour", none)).2, none), ((He.cT K ("law", none)).2, some (("law" : Str) ++ ".<locals>." ++ "<lambda>"))] (He.ga K "Chain")) := ⟨⟨_, _, ok_p_Chain_hour (T := [((He.cT K ("is_name", none)).2, none), ((He.cT K ("is_stretch", none)).2, none), ((He.cT K ("labour", none)).2, none), ((He.cT K ("law", none)).2, some (("law" : Str) ++ ".<locals>." ++ "<lambda>"))]) T18   TC  , a18, b18⟩⟩
  have F_p_is_stretch : Fn l.prog w K mg base 1 "is_stretch" ["thing"] (sp_p_is_stretch K [((He.cT K ("is_name", none)).2, none), ((He.cT K ("is_stretch", none)).2, none), ((He.cT K ("labour", none)).2, none), ((He.cT K ("law", none)).2, some (("law" : Str) ++ ".<locals>." ++ "<lambda>"))]) := Fn.mk' (ok_p_is_stretch (T := [((He.cT K ("is_name", none)).2, none), ((He.cT K ("is_stretch", none)).2, none), ((He.cT K ("labour", none)).2, none), ((He.cT K ("law", none)).2, some (("law" : Str) ++ ".<locals>." ++ "<lambda>"))]) T19 hnT (by simp) (gx_lam B19) B ⟨⟨_, rfl⟩, y_MOST_STEPS_OR_TOIL⟩   (with_of T3) T3.kp a3 (num_of T2) T2.kp a2) a19 T19.kp b19
  have F_p_check_way : Fx l.prog w K mg base 4 "check_way" ["way"] (sp_p_check_way K [((He.cT K ("is_name", none)).2, none), ((He.cT K ("is_stretch", none)).2, none), ((He.cT K ("labour", none)).2, none), ((He.cT K ("law", none)).2, some (("law" : Str) ++ ".<locals>." ++ "<lambda>"))] (He.ga K "PailError")) := Fx.mk' (ok_p_check_way (T := [((He.cT K ("is_name", none)).2, none), ((He.cT K ("is_stretch", none)).2, none), ((He.cT K ("labour", none)).2, none), ((He.cT K ("law", none)).2, some (("law" : Str) ++ ".<locals>." ++ "<lambda>"))]) T20 B ⟨⟨_, rfl⟩, y_MOST_STRETCHES⟩ R_BadWay F_p_is_stretch ) a20 T20.kp b20
  have F_p_labour : Fx l.prog w K mg base 5 "labour" ["way"] (sp_p_labour K [((He.cT K ("is_name", none)).2, none), ((He.cT K ("is_stretch", none)).2, none), ((He.cT K ("labour", none)).2, none), ((He.cT K ("law", none)).2, some (("law" : Str) ++ ".<locals>." ++ "<lambda>"))] (He.ga K "PailError")) := Fx.mk' (ok_p_labour (T := [((He.cT K ("is_name", none)).2, none), ((He.cT K ("is_stretch", none)).2, none), ((He.cT K ("labour", none)).2, none), ((He.cT K ("law", none)).2, some (("law" : Str) ++ ".<locals>." ++ "<lambda>"))]) T21 hnT (by simp) (gx_lam B21) B   F_p_check_way ) a21 T21.kp b21
  have F_p_check_way_t : Fx l.prog w K mg base 4 "check_way" ["way"] (sp_p_check_way_t K [((He.cT K ("is_name", none)).2, none), ((He.cT K ("is_stretch", none)).2, none), ((He.cT K ("labour", none)).2, none), ((He.cT K ("law", none)).2, some (("law" : Str) ++ ".<locals>." ++ "<lambda>"))] (He.ga K "PailError")) := Fx.mk' (ok_p_check_way_t (T := [((He.cT K ("is_name", none)).2, none), ((He.cT K ("is_stretch", none)).2, none), ((He.cT K ("labour", none)).2, none), ((He.cT K ("law", none)).2, some (("law" : Str) ++ ".<locals>." ++ "<lambda>"))]) T20 B ⟨⟨_, rfl⟩, y_MOST_STRETCHES⟩ R_BadWay F_p_is_stretch ) a20 T20.kp b20
  have F_p_labour_t : Fx l.prog w K mg base 5 "labour" ["way"] (sp_p_labour_t K [((He.cT K ("is_name", none)).2, none), ((He.cT K ("is_stretch", none)).2, none), ((He.cT K ("labour", none)).2, none), ((He.cT K ("law", none)).2, some (("law" : Str) ++ ".<locals>." ++ "<lambda>"))] (He.ga K "PailError")) := Fx.mk' (ok_p_labour_t (T := [((He.cT K ("is_name", none)).2, none), ((He.cT K ("is_stretch", none)).2, none), ((He.cT K ("labour", none)).2, none), ((He.cT K ("law", none)).2, some (("law" : Str) ++ ".<locals>." ++ "<lambda>"))]) T21 hnT (by simp) (gx_lam B21) B   F_p_check_way_t ) a21 T21.kp b21
  have M_init : Mnx l.prog w K mg base (He.ga K "Chain") 6 "Chain" ["self", "way"] (sp_p_Chain___init__ K [((He.cT K ("is_name", none)).2, none), ((He.cT K ("is_stretch", none)).2, none), ((He.cT K ("labour", none)).2, none), ((He.cT K ("law", none)).2, some (("law" : Str) ++ ".<locals>." ++ "<lambda>"))] (He.ga K "PailError") (He.ga K "Chain")) := ⟨⟨_, _, ok_p_Chain___init__ (T := [((He.cT K ("is_name", none)).2, none), ((He.cT K ("is_stretch", none)).2, none), ((He.cT K ("labour", none)).2, none), ((He.cT K ("law", none)).2, some (("law" : Str) ++ ".<locals>." ++ "<lambda>"))]) T22 B y_NOUGHT x_NOUGHT  TC F_p_labour , mkC, b22, aCC⟩⟩
  have M_init_t : Mnx l.prog w K mg base (He.ga K "Chain") 6 "Chain" ["self", "way"] (sp_p_Chain___init___t K [((He.cT K ("is_name", none)).2, none), ((He.cT K ("is_stretch", none)).2, none), ((He.cT K ("labour", none)).2, none), ((He.cT K ("law", none)).2, some (("law" : Str) ++ ".<locals>." ++ "<lambda>"))] (He.ga K "PailError") (He.ga K "Chain")) := ⟨⟨_, _, ok_p_Chain___init___t (T := [((He.cT K ("is_name", none)).2, none), ((He.cT K ("is_stretch", none)).2, none), ((He.cT K ("labour", none)).2, none), ((He.cT K ("law", none)).2, some (("law" : Str) ++ ".<locals>." ++ "<lambda>"))]) T22 B y_NOUGHT x_NOUGHT  TC F_p_labour_t , mkC, b22, aCC⟩⟩
  have F_l_same : Fn l.prog w K mg base 6 "_law_same" ["_law_found", "_law_due"] (sp_l_same K [((He.cT K ("is_name", none)).2, none), ((He.cT K ("is_stretch", none)).2, none), ((He.cT K ("labour", none)).2, none), ((He.cT K ("law", none)).2, some (("law" : Str) ++ ".<locals>." ++ "<lambda>"))]) := Fn.mk' (ok_l_same (T := [((He.cT K ("is_name", none)).2, none), ((He.cT K ("is_stretch", none)).2, none), ((He.cT K ("labour", none)).2, none), ((He.cT K ("law", none)).2, some (("law" : Str) ++ ".<locals>." ++ "<lambda>"))]) T23 B a23 b23    ) a23 T23.kp b23
  have F_l_draws_f : Fn l.prog w K mg base 1 "_law_draws" ["_law_cell_here", "_law_parts"] (sp_l_draws_f K [((He.cT K ("is_name", none)).2, none), ((He.cT K ("is_stretch", none)).2, none), ((He.cT K ("labour", none)).2, none), ((He.cT K ("law", none)).2, some (("law" : Str) ++ ".<locals>." ++ "<lambda>"))]) := Fn.mk' (ok_l_draws_f (T := [((He.cT K ("is_name", none)).2, none), ((He.cT K ("is_stretch", none)).2, none), ((He.cT K ("labour", none)).2, none), ((He.cT K ("law", none)).2, some (("law" : Str) ++ ".<locals>." ++ "<lambda>"))]) T5    ) a5 T5.kp b5
  have F_l_name : Fn l.prog w K mg base 2 "_law_name" ["_law_k", "_law_salt"] (sp_l_name K [((He.cT K ("is_name", none)).2, none), ((He.cT K ("is_stretch", none)).2, none), ((He.cT K ("labour", none)).2, none), ((He.cT K ("law", none)).2, some (("law" : Str) ++ ".<locals>." ++ "<lambda>"))]) := Fn.mk' (ok_l_name (T := [((He.cT K ("is_name", none)).2, none), ((He.cT K ("is_stretch", none)).2, none), ((He.cT K ("labour", none)).2, none), ((He.cT K ("law", none)).2, some (("law" : Str) ++ ".<locals>." ++ "<lambda>"))]) T24   F_l_draws_f ) a24 T24.kp b24
  have F_l_split : Fn l.prog w K mg base 1 "_law_split" ["_law_cell_here", "_law_many_here"] (sp_l_split K [((He.cT K ("is_name", none)).2, none), ((He.cT K ("is_stretch", none)).2, none), ((He.cT K ("labour", none)).2, none), ((He.cT K ("law", none)).2, some (("law" : Str) ++ ".<locals>." ++ "<lambda>"))]) := Fn.mk' (ok_l_split (T := [((He.cT K ("is_name", none)).2, none), ((He.cT K ("is_stretch", none)).2, none), ((He.cT K ("labour", none)).2, none), ((He.cT K ("law", none)).2, some (("law" : Str) ++ ".<locals>." ++ "<lambda>"))]) T25 B    ) a25 T25.kp b25
  have F_l_way : Fn l.prog w K mg base 2 "_law_way" ["_law_cell_here"] (sp_l_way K [((He.cT K ("is_name", none)).2, none), ((He.cT K ("is_stretch", none)).2, none), ((He.cT K ("labour", none)).2, none), ((He.cT K ("law", none)).2, some (("law" : Str) ++ ".<locals>." ++ "<lambda>"))]) := Fn.mk' (ok_l_way (T := [((He.cT K ("is_name", none)).2, none), ((He.cT K ("is_stretch", none)).2, none), ((He.cT K ("labour", none)).2, none), ((He.cT K ("law", none)).2, some (("law" : Str) ++ ".<locals>." ++ "<lambda>"))]) T26 B   F_l_draws ) a26 T26.kp b26
  have F_l_labour : Fn l.prog w K mg base 1 "_law_labour" ["_law_way_here"] (sp_l_labour K [((He.cT K ("is_name", none)).2, none), ((He.cT K ("is_stretch", none)).2, none), ((He.cT K ("labour", none)).2, none), ((He.cT K ("law", none)).2, some (("law" : Str) ++ ".<locals>." ++ "<lambda>"))]) := Fn.mk' (ok_l_labour (T := [((He.cT K ("is_name", none)).2, none), ((He.cT K ("is_stretch", none)).2, none), ((He.cT K ("labour", none)).2, none), ((He.cT K ("law", none)).2, some (("law" : Str) ++ ".<locals>." ++ "<lambda>"))]) T27 B    ) a27 T27.kp b27
  have M_called : Mt l.prog w K mg base (He.ga K "Chain") 1 "called" ["self"] (sp_p_Chain_called K [((He.cT K ("is_name", none)).2, none), ((He.cT K ("is_stretch", none)).2, none), ((He.cT K ("labour", none)).2, none), ((He.cT K ("law", none)).2, some (("law" : Str) ++ ".<locals>." ++ "<lambda>"))] (He.ga K "Chain")) := ⟨⟨_, _, ok_p_Chain_called (T := [((He.cT K ("is_name", none)).2, none), ((He.cT K ("is_stretch", none)).2, none), ((He.cT K ("labour", none)).2, none), ((He.cT K ("law", none)).2, some (("law" : Str) ++ ".<locals>." ++ "<lambda>"))]) T28   TC  , a28, b28⟩⟩
  have M_pace : Mx l.prog w K mg base (He.ga K "Chain") 5 "pace" ["self", "name"] (sp_p_Chain_pace K [((He.cT K ("is_name", none)).2, none), ((He.cT K ("is_stretch", none)).2, none), ((He.cT K ("labour", none)).2, none), ((He.cT K ("law", none)).2, some (("law" : Str) ++ ".<locals>." ++ "<lambda>"))] (He.ga K "PailError") (He.ga K "Chain")) := ⟨⟨_, _, ok_p_Chain_pace (T := [((He.cT K ("is_name", none)).2, none), ((He.cT K ("is_stretch", none)).2, none), ((He.cT K ("labour", none)).2, none), ((He.cT K ("law", none)).2, some (("law" : Str) ++ ".<locals>." ++ "<lambda>"))]) T29   TC M_number_of , a29, b29⟩⟩
  have M_pail : Mx l.prog w K mg base (He.ga K "Chain") 5 "pail" ["self", "name"] (sp_p_Chain_pail K [((He.cT K ("is_name", none)).2, none), ((He.cT K ("is_stretch", none)).2, none), ((He.cT K ("labour", none)).2, none), ((He.cT K ("law", none)).2, some (("law" : Str) ++ ".<locals>." ++ "<lambda>"))] (He.ga K "PailError") (He.ga K "Chain")) := ⟨⟨_, _, ok_p_Chain_pail (T := [((He.cT K ("is_name", none)).2, none), ((He.cT K ("is_stretch", none)).2, none), ((He.cT K ("labour", none)).2, none), ((He.cT K ("law", none)).2, some (("law" : Str) ++ ".<locals>." ++ "<lambda>"))]) T30   TC M_number_of , a30, b30⟩⟩
  have F_p_story_rows : Fn l.prog w K mg base 1 "story_rows" ["marks"] (sp_p_story_rows K [((He.cT K ("is_name", none)).2, none), ((He.cT K ("is_stretch", none)).2, none), ((He.cT K ("labour", none)).2, none), ((He.cT K ("law", none)).2, some (("law" : Str) ++ ".<locals>." ++ "<lambda>"))]) := Fn.mk' (ok_p_story_rows (T := [((He.cT K ("is_name", none)).2, none), ((He.cT K ("is_stretch", none)).2, none), ((He.cT K ("labour", none)).2, none), ((He.cT K ("law", none)).2, some (("law" : Str) ++ ".<locals>." ++ "<lambda>"))]) T31 y_NOUGHT x_NOUGHT   ) a31 T31.kp b31
  have M_story : Mx l.prog w K mg base (He.ga K "Chain") 4 "story" ["self", "pail"] (sp_p_Chain_story K [((He.cT K ("is_name", none)).2, none), ((He.cT K ("is_stretch", none)).2, none), ((He.cT K ("labour", none)).2, none), ((He.cT K ("law", none)).2, some (("law" : Str) ++ ".<locals>." ++ "<lambda>"))] (He.ga K "PailError") (He.ga K "Chain")) := ⟨⟨_, _, ok_p_Chain_story (T := [((He.cT K ("is_name", none)).2, none), ((He.cT K ("is_stretch", none)).2, none), ((He.cT K ("labour", none)).2, none), ((He.cT K ("law", none)).2, some (("law" : Str) ++ ".<locals>." ++ "<lambda>"))]) T32 B  R_NoPail TC F_p_is_within F_p_story_rows , a32, b32⟩⟩
  have F_l_new : Fn l.prog w K mg base 1 "_law_new" ["_law_length"] (sp_l_new K [((He.cT K ("is_name", none)).2, none), ((He.cT K ("is_stretch", none)).2, none), ((He.cT K ("labour", none)).2, none), ((He.cT K ("law", none)).2, some (("law" : Str) ++ ".<locals>." ++ "<lambda>"))]) := Fn.mk' (ok_l_new (T := [((He.cT K ("is_name", none)).2, none), ((He.cT K ("is_stretch", none)).2, none), ((He.cT K ("labour", none)).2, none), ((He.cT K ("law", none)).2, some (("law" : Str) ++ ".<locals>." ++ "<lambda>"))]) T33    ) a33 T33.kp b33
  have F_l_new_pail : Fn l.prog w K mg base 1 "_law_new_pail" ["_law_m"] (sp_l_new_pail K [((He.cT K ("is_name", none)).2, none), ((He.cT K ("is_stretch", none)).2, none), ((He.cT K ("labour", none)).2, none), ((He.cT K ("law", none)).2, some (("law" : Str) ++ ".<locals>." ++ "<lambda>"))]) := Fn.mk' (ok_l_new_pail (T := [((He.cT K ("is_name", none)).2, none), ((He.cT K ("is_stretch", none)).2, none), ((He.cT K ("labour", none)).2, none), ((He.cT K ("law", none)).2, some (("law" : Str) ++ ".<locals>." ++ "<lambda>"))]) T34 B    ) a34 T34.kp b34
  have F_l_name_ok : Fn l.prog w K mg base 1 "_law_name_ok" ["_law_name_here"] (sp_l_name_ok K [((He.cT K ("is_name", none)).2, none), ((He.cT K ("is_stretch", none)).2, none), ((He.cT K ("labour", none)).2, none), ((He.cT K ("law", none)).2, some (("law" : Str) ++ ".<locals>." ++ "<lambda>"))]) := Fn.mk' (ok_l_name_ok (T := [((He.cT K ("is_name", none)).2, none), ((He.cT K ("is_stretch", none)).2, none), ((He.cT K ("labour", none)).2, none), ((He.cT K ("law", none)).2, some (("law" : Str) ++ ".<locals>." ++ "<lambda>"))]) T35 B    ) a35 T35.kp b35
  have F_l_enters : Fn l.prog w K mg base 2 "_law_enters" ["_law_m", "_law_name_here", "_law_pace"] (sp_l_enters K [((He.cT K ("is_name", none)).2, none), ((He.cT K ("is_stretch", none)).2, none), ((He.cT K ("labour", none)).2, none), ((He.cT K ("law", none)).2, some (("law" : Str) ++ ".<locals>." ++ "<lambda>"))]) := Fn.mk' (ok_l_enters (T := [((He.cT K ("is_name", none)).2, none), ((He.cT K ("is_stretch", none)).2, none), ((He.cT K ("labour", none)).2, none), ((He.cT K ("law", none)).2, some (("law" : Str) ++ ".<locals>." ++ "<lambda>"))]) T36 B   F_l_new_pail F_l_name_ok ) a36 T36.kp b36
  have F_l_full_story : Fn l.prog w K mg base 7 "_law_full_story" ["_law_line", "_law_m", "_law_number"] (sp_l_full_story K [((He.cT K ("is_name", none)).2, none), ((He.cT K ("is_stretch", none)).2, none), ((He.cT K ("labour", none)).2, none), ((He.cT K ("law", none)).2, some (("law" : Str) ++ ".<locals>." ++ "<lambda>"))] (He.ga K "Chain")) := Fn.mk' (ok_l_full_story (T := [((He.cT K ("is_name", none)).2, none), ((He.cT K ("is_stretch", none)).2, none), ((He.cT K ("labour", none)).2, none), ((He.cT K ("law", none)).2, some (("law" : Str) ++ ".<locals>." ++ "<lambda>"))]) T37   TC F_l_same M_story ) a37 T37.kp b37
  have F_l_stands : Fn l.prog w K mg base 8 "_law_stands" ["_law_line", "_law_m"] (sp_l_stands K [((He.cT K ("is_name", none)).2, none), ((He.cT K ("is_stretch", none)).2, none), ((He.cT K ("labour", none)).2, none), ((He.cT K ("law", none)).2, some (("law" : Str) ++ ".<locals>." ++ "<lambda>"))] (He.ga K "Chain")) := Fn.mk' (ok_l_stands (T := [((He.cT K ("is_name", none)).2, none), ((He.cT K ("is_stretch", none)).2, none), ((He.cT K ("labour", none)).2, none), ((He.cT K ("law", none)).2, some (("law" : Str) ++ ".<locals>." ++ "<lambda>"))]) T38 B   TC M_hands M_emptied M_pails M_place M_ledger M_hour F_l_same M_called M_pace M_pail F_l_full_story ) a38 T38.kp b38
  have M_call : Mx l.prog w K mg base (He.ga K "Chain") 5 "call" ["self", "name"] (sp_p_Chain_call K [((He.cT K ("is_name", none)).2, none), ((He.cT K ("is_stretch", none)).2, none), ((He.cT K ("labour", none)).2, none), ((He.cT K ("law", none)).2, some (("law" : Str) ++ ".<locals>." ++ "<lambda>"))] (He.ga K "PailError") (He.ga K "Chain")) := ⟨⟨_, _, ok_p_Chain_call (T := [((He.cT K ("is_name", none)).2, none), ((He.cT K ("is_stretch", none)).2, none), ((He.cT K ("labour", none)).2, none), ((He.cT K ("law", none)).2, some (("law" : Str) ++ ".<locals>." ++ "<lambda>"))]) T39  R_Called TC M_number_of , a39, b39⟩⟩
  have M_set_pace : Mx l.prog w K mg base (He.ga K "Chain") 5 "set_pace" ["self", "name", "pace"] (sp_p_Chain_set_pace K [((He.cT K ("is_name", none)).2, none), ((He.cT K ("is_stretch", none)).2, none), ((He.cT K ("labour", none)).2, none), ((He.cT K ("law", none)).2, some (("law" : Str) ++ ".<locals>." ++ "<lambda>"))] (He.ga K "PailError") (He.ga K "Chain")) := ⟨⟨_, _, ok_p_Chain_set_pace (T := [((He.cT K ("is_name", none)).2, none), ((He.cT K ("is_stretch", none)).2, none), ((He.cT K ("labour", none)).2, none), ((He.cT K ("law", none)).2, some (("law" : Str) ++ ".<locals>." ++ "<lambda>"))]) T40   TC F_p_check_pace M_number_of , a40, b40⟩⟩
  have M_stay : Mx l.prog w K mg base (He.ga K "Chain") 5 "stay" ["self", "name"] (sp_p_Chain_stay K [((He.cT K ("is_name", none)).2, none), ((He.cT K ("is_stretch", none)).2, none), ((He.cT K ("labour", none)).2, none), ((He.cT K ("law", none)).2, some (("law" : Str) ++ ".<locals>." ++ "<lambda>"))] (He.ga K "PailError") (He.ga K "Chain")) := ⟨⟨_, _, ok_p_Chain_stay (T := [((He.cT K ("is_name", none)).2, none), ((He.cT K ("is_stretch", none)).2, none), ((He.cT K ("labour", none)).2, none), ((He.cT K ("law", none)).2, some (("law" : Str) ++ ".<locals>." ++ "<lambda>"))]) T41  R_NotCalled TC M_number_of , a41, b41⟩⟩
  have M_mark : Mt l.prog w K mg base (He.ga K "Chain") 1 "mark" ["self", "at"] (sp_p_Chain_mark K [((He.cT K ("is_name", none)).2, none), ((He.cT K ("is_stretch", none)).2, none), ((He.cT K ("labour", none)).2, none), ((He.cT K ("law", none)).2, some (("law" : Str) ++ ".<locals>." ++ "<lambda>"))] (He.ga K "Chain")) := ⟨⟨_, _, ok_p_Chain_mark (T := [((He.cT K ("is_name", none)).2, none), ((He.cT K ("is_stretch", none)).2, none), ((He.cT K ("labour", none)).2, none), ((He.cT K ("law", none)).2, some (("law" : Str) ++ ".<locals>." ++ "<lambda>"))]) T42   TC  , a42, b42⟩⟩
  have M_swap : Mx l.prog w K mg base (He.ga K "Chain") 5 "swap" ["self", "name"] (sp_p_Chain_swap K [((He.cT K ("is_name", none)).2, none), ((He.cT K ("is_stretch", none)).2, none), ((He.cT K ("labour", none)).2, none), ((He.cT K ("law", none)).2, some (("law" : Str) ++ ".<locals>." ++ "<lambda>"))] (He.ga K "PailError") (He.ga K "Chain")) := ⟨⟨_, _, ok_p_Chain_swap (T := [((He.cT K ("is_name", none)).2, none), ((He.cT K ("is_stretch", none)).2, none), ((He.cT K ("labour", none)).2, none), ((He.cT K ("law", none)).2, some (("law" : Str) ++ ".<locals>." ++ "<lambda>"))]) T43 B  R_NoNext TC M_number_of M_mark , a43, b43⟩⟩
  have F_l_small : Fn l.prog w K mg base 3 "_law_small" ["_law_m", "_law_deed"] (sp_l_small K [((He.cT K ("is_name", none)).2, none), ((He.cT K ("is_stretch", none)).2, none), ((He.cT K ("labour", none)).2, none), ((He.cT K ("law", none)).2, some (("law" : Str) ++ ".<locals>." ++ "<lambda>"))]) := Fn.mk' (ok_l_small (T := [((He.cT K ("is_name", none)).2, none), ((He.cT K ("is_stretch", none)).2, none), ((He.cT K ("labour", none)).2, none), ((He.cT K ("law", none)).2, some (("law" : Str) ++ ".<locals>." ++ "<lambda>"))]) T44 B   F_l_enters ) a44 T44.kp b44
  have F_l_ask : Fx l.prog w K mg base 6 "_law_ask" ["_law_line", "_law_deed"] (sp_l_ask K [((He.cT K ("is_name", none)).2, none), ((He.cT K ("is_stretch", none)).2, none), ((He.cT K ("labour", none)).2, none), ((He.cT K ("law", none)).2, some (("law" : Str) ++ ".<locals>." ++ "<lambda>"))] (He.ga K "PailError") (He.ga K "Chain")) := Fx.mk' (ok_l_ask (T := [((He.cT K ("is_name", none)).2, none), ((He.cT K ("is_stretch", none)).2, none), ((He.cT K ("labour", none)).2, none), ((He.cT K ("law", none)).2, some (("law" : Str) ++ ".<locals>." ++ "<lambda>"))]) T45   TC M_call M_set_pace M_stay M_swap ) a45 T45.kp b45
  have F_l_odd_name : Fn l.prog w K mg base 1 "_law_odd_name" ["_law_name_here", "_law_number"] (sp_l_odd_name K [((He.cT K ("is_name", none)).2, none), ((He.cT K ("is_stretch", none)).2, none), ((He.cT K ("labour", none)).2, none), ((He.cT K ("law", none)).2, some (("law" : Str) ++ ".<locals>." ++ "<lambda>"))]) := Fn.mk' (ok_l_odd_name (T := [((He.cT K ("is_name", none)).2, none), ((He.cT K ("is_stretch", none)).2, none), ((He.cT K ("labour", none)).2, none), ((He.cT K ("law", none)).2, some (("law" : Str) ++ ".<locals>." ++ "<lambda>"))]) T46    ) a46 T46.kp b46
  exact ok_LAW (T := [((He.cT K ("is_name", none)).2, none), ((He.cT K ("is_stretch", none)).2, none), ((He.cT K ("labour", none)).2, none), ((He.cT K ("law", none)).2, some (("law" : Str) ++ ".<locals>." ++ "<lambda>"))]) T47 hnT (by simp) B47 B   W TC F_l_cell F_l_draws F_l_many M_enter M_init F_l_same F_l_name F_l_split F_l_way F_l_labour F_l_new F_l_enters F_l_stands F_l_small F_l_ask F_l_odd_name 
end My
open PySem PySem.W PyProof.Rows
set_option maxRecDepth 100000 in
set_option maxHeartbeats 0 in
theorem PySem.Challenge.cw_pailchain_k12_called_away_and_told_to_st_holds : PySem.Challenge.rw_pailchain_k12_called_away_and_told_to_st.Holds := by
  w_on; o_law
  refine HandSHeadRun.head_any (r := (PySem.W.OpenLaw.row PySem.Challenge.rw_pailchain_k12_called_away_and_told_to_st)) (q := view (OpenLaw.row PySem.Challenge.rw_pailchain_k12_called_away_and_told_to_st).prog [74]) (H := My.hrHook My.hrFx My.hrFn My.hrTf) (ob := My.hrOb My.hrFx My.hrFn My.hrTf) (M := 60000) (loose := My.hrLoose) (d := HandSHeadRun.topDef (OpenLaw.row PySem.Challenge.rw_pailchain_k12_called_away_and_told_to_st).prog 74) (kwd := []) My.hrOb_eq (by kernel_rfl) (fun s => by kernel_rfl) My.hrRun (by kernel_rfl) (by kernel_rfl) (by kernel_rfl) (by rfl) (by first | assumption | decide +kernel) (by decide +kernel) ⟨rfl, rfl, rfl, rfl, rfl, by decide +kernel⟩ ?hw ?hc
  case hw => w_witness2
  case hc =>
    refine LamX.walk_ofTsE (l := PySem.Challenge.rw_pailchain_k12_called_away_and_told_to_st) (n := 63) (k := 20) (x := "_law_script") (CX := fun w => L2.CX PySem.Challenge.rw_pailchain_k12_called_away_and_told_to_st.prog w) rfl (by decide) (by kernel_rfl) ⟨rfl, by decide, by decide⟩ ?F (fun _ _ _ _ _ ⟨_, _, _, _, _, _, _, _, _, _, _, _, z⟩ => z)
    intro w mg fa h Y G hmg0
    obtain ⟨K, KX, c⟩ := Y
    have hmg : mg ("law" : PySem.Str) = some (.ref fa) := by
      have e : (HandSHeadRun.topDef (OpenLaw.row PySem.Challenge.rw_pailchain_k12_called_away_and_told_to_st).prog 74).name = ("law" : PySem.Str) := by kernel_rfl
      rw [← e]; exact hmg0
    exact ⟨K, KX, My.all_mk KX G hmg c⟩
