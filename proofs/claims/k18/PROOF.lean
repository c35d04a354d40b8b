import PyProof.Rows.All
import Wide.All
import OpenK.AllK
import Wide.FinOn
import HandS.ForMost
import HandS.Wide
import HandS.IsInst
import HandS.NoneIn
import HandS.EndBits
import HandS.FStr
import HandS.ClsMeth
import HandS.ExcField
import HandS.ExcInit
import HandS.ForExc
import HandS.EndTab
import HandS.Lambda
import HandS.AnyAll
import HandS.RevRange
import HandS.SortInts
import HandS.More
import HandS.Walk
import HandS.Flow
import HandS.Zip
import HandS.TupAny
import KE.GoesEnum
import KE.KStateDown
import HandS.Head2
import HandS.HeadHook4
import HandS.HeadWalk
import PySem.Challenge.RW_pailchain_k18_ledgers_of_steady_hands
set_option Elab.async false
set_option linter.all false
set_option maxRecDepth 100000
set_option maxHeartbeats 4000000
namespace My
open PySem PySem.Spec PyProof.Rows L2
/-! ### a def of the text with its promise, ready to be called -/
structure Fn (P : Program) (w : World) (K : PySem.W.Frag) (mg : Str → Option Value) (base : Heap) (k : Nat) (x : Str) (ps : List Str) (sp : Sp) : Prop where
  ex : ∃ f fd, FnOk P w K mg base CX0 k f fd ps sp ∧ mg x = some (.ref f) ∧ PySem.W.keepIn K (.ref f) = true ∧ Binds K fd ps []
theorem Fn.mk' {P : Program} {w : World} {K : PySem.W.Frag} {mg : Str → Option Value} {base : Heap} {k : Nat} {x : Str} {ps : List Str} {sp : Sp} {f : Addr} {fd : FuncData}
    (h : FnOk P w K mg base CX0 k f fd ps sp) (g : mg x = some (.ref f)) (kp : PySem.W.keepIn K (.ref f) = true) (b : Binds K fd ps []) : Fn P w K mg base k x ps sp := ⟨⟨f, fd, h, g, kp, b⟩⟩
section
variable {X : Cx} {k : Nat} {x : Str} {ps : List Str} {sp : Sp} {e : Expr} {es : List Expr} {t : TA} {p pos : Pos}
theorem pe_fn (F : Fn X.prog X.w X.K X.mg X.base k x ps sp) (hr : Room k X.A) (ha : PA X (e :: es) t) (hg : Gl X x := by rfl) (hdb : (x == ("__debug__" : Str)) = false := by decide)
    (he : starEach (e :: es) X.env = (false, eval e X.env) :: starEach es X.env := by rfl) (hpl : (backTo pos (starEach es X.env)).any (·.1) = false := by rfl) :
    PE X (.Call (.Name x p) (e :: es) [] pos) (tCall sp [] E0 t) := by
  obtain ⟨f, fd, h, g, kp, b⟩ := F.ex
  exact pe_call h hr hg g kp b .nil pass0 ha hdb he hpl
theorem pe_fn0 (F : Fn X.prog X.w X.K X.mg X.base k x ps sp) (hr : Room k X.A) (hg : Gl X x := by rfl) (hdb : (x == ("__debug__" : Str)) = false := by decide) :
    PE X (.Call (.Name x p) [] [] pos) (tCall sp [] E0 tNil) := by
  obtain ⟨f, fd, h, g, kp, b⟩ := F.ex
  exact pe_call0 h hr hg g kp b .nil pass0 hdb
end
/-! ### heaps: what a def leaves; the tables of code objects may grow -/
/-- the tables that grow: a table of generator expressions (none), of lambdas (their name) -/
abbrev Tb := List (Addr × Option Str)
def OkP (H : Hp) (p : Addr × Option Str) : Prop := match p.2 with
  | none => GxR.TabG H p.1
  | some q => LamX.TabS H p.1 q
def Ok (T : Tb) (H : Hp) : Prop := ∀ p ∈ T, OkP H p
def nTbl : HO → Prop
  | .tbl _ => False
  | _ => True
structure Sm (T : Tb) (H H' : Hp) : Prop where
  keep : ∀ b o, H b = some o → nTbl o → H' b = some o
  ok : Ok T H → Ok T H'
  free : ∀ l, H' l = none → H l = none
theorem nTbl_ne {o : HO} (h : nTbl o) (ps : Array Value) : o ≠ .tbl ps := fun e => by rw [e] at h; exact h
theorem Sm.k {T : Tb} {H H' : Hp} (s : Sm T H H') {b : Addr} {o : HO} (e : H b = some o) (n : nTbl o := by trivial) : H' b = some o := s.keep b o e n
theorem Sm.refl {T : Tb} {H : Hp} : Sm T H H := ⟨fun _ _ e _ => e, fun h => h, fun _ h => h⟩
theorem Sm.trans {T : Tb} {H H1 H2 : Hp} (a : Sm T H H1) (b : Sm T H1 H2) : Sm T H H2 := ⟨fun c o e n => b.keep c o (a.keep c o e n) n, fun h => b.ok (a.ok h), fun l h => a.free l (b.free l h)⟩
theorem Sm.seq {T : Tb} {K : PySem.W.Frag} {H H' : Hp} {a : Addr} {xs : List V} (e : Sm T H H') (h : SqL K H a xs) : SqL K H' a xs := by
  rcases h with (h | ⟨o, h⟩) | h
  · exact .inl (.inl (e.keep _ _ h trivial))
  · exact .inl (.inr ⟨o, e.keep _ _ h trivial⟩)
  · exact .inr h
theorem same_tup {T : Tb} {K : PySem.W.Frag} {H H' : Hp} {a : Addr} {xs : List V} (e : Sm T H H') (h : SqT K H a xs) : SqT K H' a xs := by
  rcases h with (h | ⟨o, h⟩) | h
  · exact .inl (.inl (e.keep _ _ h trivial))
  · exact .inl (.inr ⟨o, e.keep _ _ h trivial⟩)
  · exact .inr h
theorem Sm.lst {T : Tb} {H H' : Hp} {a : Addr} {xs : List V} (e : Sm T H H') (h : H a = some (.lst xs)) : H' a = some (.lst xs) := e.keep _ _ h trivial
theorem okP_ext {H H' : Hp} {p : Addr × Option Str} (h : OkP H p) (e : ∀ b o, H b = some o → H' b = some o) : OkP H' p := by
  obtain ⟨P, q⟩ := p
  cases q with
  | none =>
    obtain ⟨ps, h1, h2⟩ := (show GxR.TabG H P from h)
    exact ⟨ps, e _ _ h1, h2⟩
  | some q => exact LamX.TabS.ext (show LamX.TabS H P q from h) e
/-- the one list at p is changed -/
theorem okP_mut {H : Hp} {p : Addr × Option Str} {a : Addr} {o : HO} {xs : List V} (h : OkP H p) (ha : H a = some (.lst xs)) : OkP (upd H a o) p := by
  have k : ∀ b u, H b = some u → u ≠ .lst xs → upd H a o b = some u := fun b u e n => by
    rw [upd_ne (fun z => n (by rw [z, ha] at e; exact (Option.some.inj e).symm))]
    exact e
  obtain ⟨P, q⟩ := p
  cases q with
  | none =>
    obtain ⟨ps, h1, h2⟩ := (show GxR.TabG H P from h)
    exact ⟨ps, k _ _ h1 (fun z => by cases z), h2⟩
  | some q =>
    obtain ⟨ps, h1, h2, h3⟩ := (show LamX.TabS H P q from h)
    refine ⟨ps, k _ _ h1 (fun z => by cases z), h2, fun pos cv hc => ?_⟩
    obtain ⟨c, e1, e2⟩ := h3 pos cv hc
    exact ⟨c, e1, k _ _ e2 (fun z => by unfold LamX.CodeO at z; cases z)⟩
theorem same_upd {T : Tb} {H : Hp} {p : Addr} {o : HO} (h : H p = none) : Sm T H (upd H p o) := by
  have k : ∀ b x, H b = some x → upd H p o b = some x := fun b x e => by
    rw [upd_ne (ne_of_none e h)]
    exact e
  refine ⟨fun b x e _ => k b x e, fun h q hq => okP_ext (h q hq) k, fun l hl => ?_⟩
  cases q : H l with
  | none => rfl
  | some x => rw [k _ _ q] at hl; cases hl
theorem same_mut {T : Tb} {H H' : Hp} {p : Addr} {o : HO} {xs : List V} (e : Sm T H H') (h : H p = none) (hp : H' p = some (.lst xs)) : Sm T H (upd H' p o) := by
  refine ⟨fun b x q n => ?_, fun hk q hq => okP_mut (e.ok hk q hq) hp, fun l hl => ?_⟩
  · rw [upd_ne (ne_of_none q h)]
    exact e.keep b x q n
  · by_cases z : l = p
    · rw [z]; exact h
    · rw [upd_ne z] at hl
      exact e.free l hl
theorem seq_k {t u : TS} {D : Ends} {σ : L2.St} {H : Hp} (P : L2.St → Hp → Prop) (hu : ∀ σ' H', P σ' H' → u D σ' H') (h : (∀ σ' H', P σ' H' → u D σ' H') → tSeq t u D σ H) : tSeq t u D σ H := h hu
theorem seq_if {c : TT} {t1 t2 u : TS} {D : Ends} {σ : L2.St} {H : Hp} (P : L2.St → Hp → Prop) (hu : ∀ σ' H', P σ' H' → u D σ' H') (h : (∀ σ' H', P σ' H' → u D σ' H') → tSeq (tIfS c t1 t2) u D σ H) : tSeq (tIfS c t1 t2) u D σ H := h hu
theorem seq_as {te : TE} {g : TG} {u : TS} {D : Ends} {σ : L2.St} {H : Hp} (P : L2.St → Hp → Prop) (hu : ∀ σ' H', P σ' H' → u D σ' H') (h : (∀ σ' H', P σ' H' → u D σ' H') → tSeq (tAsg te g) u D σ H) : tSeq (tAsg te g) u D σ H := h hu
theorem sz {n : Nat} (h : n ≤ 10000) : n ≤ sizeLine := Nat.le_trans h (by decide)
theorem szl {n : Nat} (h : n < 10000) : n < sizeLine := Nat.lt_of_lt_of_le h (by decide)
/-! ### data -/
mutual
theorem dp_same {T : Tb} {K : PySem.W.Frag} {H H' : Hp} (e : Sm T H H') : ∀ (d : PyData) (v : V), Dp K H v d → Dp K H' v d
  | .none, _, h => by cases h; exact .non
  | .bool b, _, h => by cases h; exact .bl b
  | .int i, _, h => by cases h; exact .int i
  | .str x, _, h => by cases h; exact .str x
  | .list ds, _, h => by
    cases h with
    | lst hs ha => exact .lst (e.seq hs) (dpa_same e ds _ ha)
  | .tuple ds, _, h => by
    cases h with
    | tup hs ha => exact .tup (same_tup e hs) (dpa_same e ds _ ha)
  | .dict _, _, h => by cases h
theorem dpa_same {T : Tb} {K : PySem.W.Frag} {H H' : Hp} (e : Sm T H H') : ∀ (ds : List PyData) (vs : List V), DpAll K H vs ds → DpAll K H' vs ds
  | [], _, h => by cases h; exact .nil
  | d :: ds, _, h => by
    cases h with
    | cons h1 h2 => exact .cons (dp_same e d _ h1) (dpa_same e ds _ h2)
end
theorem dpa_len {K : PySem.W.Frag} {H : Hp} : ∀ {vs : List V} {ds : List PyData}, DpAll K H vs ds → vs.length = ds.length
  | _, [], h => by cases h; rfl
  | _, _ :: _, h => by
    cases h with
    | cons _ h2 => exact congrArg (· + 1) (dpa_len h2)
theorem dpa_get {K : PySem.W.Frag} {H : Hp} : ∀ {vs : List V} {ds : List PyData}, DpAll K H vs ds → ∀ {i : Nat} {d : PyData}, ds[i]? = some d → ∃ v, vs[i]? = some v ∧ Dp K H v d
  | _, [], h, i, d, e => by simp at e
  | _, d0 :: ds, h, 0, d, e => by
    cases h with
    | cons h1 h2 =>
      obtain rfl : d0 = d := Option.some.inj e
      exact ⟨_, rfl, h1⟩
  | _, d0 :: ds, h, i + 1, d, e => by
    cases h with
    | cons h1 h2 => exact dpa_get h2 (i := i) e
def depOk : Nat → PyData → Bool
  | _, .none => true
  | _, .bool _ => true
  | _, .int _ => true
  | _, .str _ => true
  | n + 1, .list ds => decide (ds.length ≤ 9000) && ds.all (depOk n)
  | n + 1, .tuple ds => decide (ds.length ≤ 9000) && ds.all (depOk n)
  | _, _ => false
def tyD : PyData → String
  | .none => "NoneType"
  | .bool _ => "bool"
  | .int _ => "int"
  | .str _ => "str"
  | .list _ => "list"
  | .tuple _ => "tuple"
  | .dict _ => "dict"
theorem tyx_of {K : PySem.W.Frag} {H : Hp} : ∀ {d : PyData} {v : V}, Dp K H v d → TyX K H v (.type (tyD d))
  | _, _, .non => .base .non
  | _, _, .bl b => .base (.bl b)
  | _, _, .int i => .base (.int i)
  | _, _, .str x => .base (.str x)
  | _, _, .lst (.inl (.inl h)) _ => .base (.lst h)
  | _, _, .lst (.inl (.inr ⟨_, h⟩)) _ => .base (.frz h)
  | _, _, .lst (.inr ⟨_, _, _, h, c, _⟩) _ => .kList h c
  | _, _, .tup (.inl (.inl h)) _ => .base (.tup h)
  | _, _, .tup (.inl (.inr ⟨_, h⟩)) _ => .fTuple h
  | _, _, .tup (.inr ⟨_, _, _, h, c, _⟩) _ => .kTuple h c
theorem rep_all (n : Nat) : (List.replicate n true).all id = true := by
  induction n with
  | zero => rfl
  | succ n ih => rw [List.replicate_succ, List.all_cons, ih]; rfl
def rLen (K : PySem.W.Frag) : List V → Hp → VK → Prop := fun xs H Q => ∃ p ys, xs = [.ref p] ∧ (SqL K H p ys ∨ SqT K H p ys) ∧ Q (.int ys.length) H
def rLst (K : PySem.W.Frag) : List V → Hp → VK → Prop := fun xs H Q => ∃ p ys, xs = [.ref p] ∧ (SqL K H p ys ∨ SqT K H p ys) ∧ ∀ (l : Addr), H l = none → Q (.ref l) (upd H l (.lst ys))
theorem call_list1 {X : Cx} : CallR X (.type "list") (rLst X.K) := call_list_of
theorem call_len1 {X : Cx} : CallR X (.builtin "len") (rLen X.K) := call_len_seq
theorem kb_bool_bool : kitB "bool" "bool" = some true := by decide +kernel
theorem kb_bool_int : kitB "bool" "int" = some true := by decide +kernel
theorem kb_bool_str : kitB "bool" "str" = some false := by decide +kernel
theorem kb_bool_list : kitB "bool" "list" = some false := by decide +kernel
theorem kb_bool_tuple : kitB "bool" "tuple" = some false := by decide +kernel
theorem kb_int_bool : kitB "int" "bool" = some false := by decide +kernel
theorem kb_int_int : kitB "int" "int" = some true := by decide +kernel
theorem kb_int_str : kitB "int" "str" = some false := by decide +kernel
theorem kb_int_list : kitB "int" "list" = some false := by decide +kernel
theorem kb_int_tuple : kitB "int" "tuple" = some false := by decide +kernel
theorem kb_str_bool : kitB "str" "bool" = some false := by decide +kernel
theorem kb_str_int : kitB "str" "int" = some false := by decide +kernel
theorem kb_str_str : kitB "str" "str" = some true := by decide +kernel
theorem kb_str_list : kitB "str" "list" = some false := by decide +kernel
theorem kb_str_tuple : kitB "str" "tuple" = some false := by decide +kernel
theorem kb_list_bool : kitB "list" "bool" = some false := by decide +kernel
theorem kb_list_int : kitB "list" "int" = some false := by decide +kernel
theorem kb_list_str : kitB "list" "str" = some false := by decide +kernel
theorem kb_list_list : kitB "list" "list" = some true := by decide +kernel
theorem kb_list_tuple : kitB "list" "tuple" = some false := by decide +kernel
theorem kb_tuple_bool : kitB "tuple" "bool" = some false := by decide +kernel
theorem kb_tuple_int : kitB "tuple" "int" = some false := by decide +kernel
theorem kb_tuple_str : kitB "tuple" "str" = some false := by decide +kernel
theorem kb_tuple_list : kitB "tuple" "list" = some false := by decide +kernel
theorem kb_tuple_tuple : kitB "tuple" "tuple" = some true := by decide +kernel
theorem kb_NoneType_bool : kitB "NoneType" "bool" = some false := by decide +kernel
theorem kb_NoneType_int : kitB "NoneType" "int" = some false := by decide +kernel
theorem kb_NoneType_str : kitB "NoneType" "str" = some false := by decide +kernel
theorem kb_NoneType_list : kitB "NoneType" "list" = some false := by decide +kernel
theorem kb_NoneType_tuple : kitB "NoneType" "tuple" = some false := by decide +kernel
theorem tyes_t {σ : L2.St} {H : Hp} {Q : Bool → Hp → Prop} (h : Q true H) : tYes σ H Q := h
theorem tyes_i {σ : L2.St} {H : Hp} {A B : Hp → Prop} (h : A H) : tYes σ H (fun b H3 => if b = true then A H3 else B H3) := iteT (A := A H) (B := B H) h
/-! ### draws -/
def Drawn : List Int → List Int → Prop
  | [], [] => True
  | d :: ds, q :: qs => (0 ≤ d ∧ d < q) ∧ Drawn ds qs
  | _, _ => False
theorem Drawn.cons {ds qs : List Int} {q : Int} (h : Drawn ds (q :: qs)) : ∃ d r, ds = d :: r ∧ 0 ≤ d ∧ d < q ∧ Drawn r qs := by
  cases ds with
  | nil => exact h.elim
  | cons d r => exact ⟨d, r, rfl, h.1.1, h.1.2, h.2⟩
theorem Drawn.nil {ds : List Int} (h : Drawn ds []) : ds = [] := by
  cases ds with
  | nil => rfl
  | cons d r => exact h.elim
theorem Drawn.snoc : ∀ {ds qs : List Int} {d q : Int}, Drawn ds qs → 0 ≤ d → d < q → Drawn (ds ++ [d]) (qs ++ [q])
  | [], [], _, _, _, h0, h1 => ⟨⟨h0, h1⟩, trivial⟩
  | [], _ :: _, _, _, h, _, _ => h.elim
  | _ :: _, [], _, _, h, _, _ => h.elim
  | _ :: _, _ :: _, _, _, h, h0, h1 => ⟨h.1, Drawn.snoc h.2 h0 h1⟩
theorem Drawn.length : ∀ {ds qs : List Int}, Drawn ds qs → ds.length = qs.length
  | [], [], _ => rfl
  | [], _ :: _, h => h.elim
  | _ :: _, [], h => h.elim
  | _ :: _, _ :: _, h => congrArg (· + 1) (Drawn.length h.2)
/-! ### amounts -/
abbrev Am := Int × Int
def tv (x : Am) : List V := [.int x.1, .int x.2]
def amt (n d : Int) : Am := ((if d < 0 then -n else n) / (Nat.gcd n.natAbs d.natAbs : Nat), (d.natAbs : Int) / (Nat.gcd n.natAbs d.natAbs : Nat))
theorem amD_dp {K : PySem.W.Frag} {H : Hp} {p : Addr} {x : Am} (h : SqT K H p (tv x)) : Dp K H (.ref p) (.tuple [.int x.1, .int x.2]) := .tup h (.cons (.int _) (.cons (.int _) .nil))
abbrev amD (x : Am) : PyData := .tuple [.int x.1, .int x.2]
theorem tup_dp {K : PySem.W.Frag} {H : Hp} {p : Addr} {x : Am} (h : H p = some (.tup (tv x))) : Dp K H (.ref p) (amD x) := amD_dp (SqT.of h)
theorem pd_at {K : PySem.W.Frag} {H : Hp} {v : V} {x : Am} (h : Dp K H v (amD x)) : ∃ b, v = .ref b ∧ SqT K H b (tv x) := by
  cases h with
  | tup hs ha =>
    cases ha with
    | cons h1 h2 =>
      cases h2 with
      | cons h3 h4 =>
        cases h4
        cases h1
        cases h3
        exact ⟨_, rfl, hs⟩
theorem dpa_app {K : PySem.W.Frag} {H : Hp} : ∀ {vs : List V} {ds : List PyData} {ws : List V} {es : List PyData}, DpAll K H vs ds → DpAll K H ws es → DpAll K H (vs ++ ws) (ds ++ es)
  | _, [], _, _, h, g => by cases h; exact g
  | _, _ :: _, _, _, h, g => by
    cases h with
    | cons h1 h2 => exact .cons h1 (dpa_app h2 g)
theorem dpa_take {K : PySem.W.Frag} {H : Hp} : ∀ {vs : List V} {ds : List PyData} (n : Nat), DpAll K H vs ds → DpAll K H (vs.take n) (ds.take n)
  | _, _, 0, _ => .nil
  | _, [], n + 1, h => by cases h; exact .nil
  | _, _ :: _, n + 1, h => by
    cases h with
    | cons h1 h2 => exact .cons h1 (dpa_take n h2)
theorem dpa_drop {K : PySem.W.Frag} {H : Hp} : ∀ {vs : List V} {ds : List PyData} (n : Nat), DpAll K H vs ds → DpAll K H (vs.drop n) (ds.drop n)
  | _, _, 0, h => h
  | _, [], n + 1, h => by cases h; exact .nil
  | _, _ :: _, n + 1, h => by
    cases h with
    | cons h1 h2 => exact dpa_drop n h2
/-- pairs stay where a list is changed -/
theorem pd_mut {K : PySem.W.Frag} {H : Hp} {v : V} {x : Am} {a : Addr} {o : HO} {xs : List V} (h : Dp K H v (amD x)) (ha : H a = some (.lst xs)) : Dp K (upd H a o) v (amD x) := by
  obtain ⟨b, rfl, hs⟩ := pd_at h
  refine amD_dp ?_
  rcases hs with (hs | ⟨u, hs⟩) | hs
  · exact .inl (.inl (by rw [upd_ne (ne_of hs ha (fun z => by cases z))]; exact hs))
  · exact .inl (.inr ⟨u, by rw [upd_ne (ne_of hs ha (fun z => by cases z))]; exact hs⟩)
  · exact .inr hs
theorem pds_mut {K : PySem.W.Frag} {H : Hp} {a : Addr} {o : HO} {xs : List V} (ha : H a = some (.lst xs)) : ∀ {vs : List V} {qs : List Am}, DpAll K H vs (qs.map amD) → DpAll K (upd H a o) vs (qs.map amD)
  | _, [], h => by cases h; exact .nil
  | _, _ :: _, h => by
    cases h with
    | cons h1 h2 => exact .cons (pd_mut h1 ha) (pds_mut ha h2)
theorem cut_take (xs : List V) (k : Nat) {z : Int} (hz : z = (k : Int)) : cutV xs none (some z) = xs.take k := by
  subst hz
  unfold cutV
  rw [HT.sIx_none, HT.sIx_nat, List.drop_zero, Nat.sub_zero]
  by_cases h : k ≤ xs.length
  · rw [Nat.min_eq_left h]
  · rw [Nat.min_eq_right (by omega), List.take_length, List.take_of_length_le (by omega)]
theorem cut_drop (xs : List V) (k : Nat) {z : Int} (hz : z = (k : Int)) : cutV xs (some z) none = xs.drop k := by
  subst hz
  unfold cutV
  rw [HT.sIx_none, HT.sIx_nat]
  by_cases h : k ≤ xs.length
  · rw [Nat.min_eq_left h, List.take_of_length_le (by rw [List.length_drop]; omega)]
  · rw [Nat.min_eq_right (by omega), List.drop_length, List.drop_of_length_le (by omega), List.take_nil]
theorem dpa_rep {K : PySem.W.Frag} {H : Hp} {vs : List V} {qs : List Am} (h : DpAll K H vs (qs.map amD)) : ∀ n, DpAll K H (List.replicate n vs).flatten (((List.replicate n qs).flatten).map amD)
  | 0 => .nil
  | n + 1 => by
    rw [List.replicate_succ, List.replicate_succ, List.flatten_cons, List.flatten_cons, List.map_append]
    exact dpa_app h (dpa_rep h n)
theorem len_rep {α : Type} (l : List α) : ∀ n, ((List.replicate n l).flatten).length = n * l.length
  | 0 => by simp
  | n + 1 => by rw [List.replicate_succ, List.flatten_cons, List.length_append, len_rep l n, Nat.succ_mul, Nat.add_comm]
/-! ### told tuples in a list that grows -/
def noL : Nat → PyData → Bool
  | _, .none => true
  | _, .bool _ => true
  | _, .int _ => true
  | _, .str _ => true
  | n + 1, .tuple ds => ds.all (noL n)
  | _, _ => false
theorem sqT_mut {K : PySem.W.Frag} {H : Hp} {t a : Addr} {o : HO} {xs ys : List V} (hs : SqT K H t ys) (ha : H a = some (.lst xs)) : SqT K (upd H a o) t ys := by
  rcases hs with (hs | ⟨u, hs⟩) | hs
  · exact .inl (.inl (by rw [upd_ne (ne_of hs ha (fun z => by cases z))]; exact hs))
  · exact .inl (.inr ⟨u, by rw [upd_ne (ne_of hs ha (fun z => by cases z))]; exact hs⟩)
  · exact .inr hs
mutual
theorem noL_mut {K : PySem.W.Frag} {H : Hp} {a : Addr} {o : HO} {xs : List V} (ha : H a = some (.lst xs)) : ∀ (n : Nat) (d : PyData) (v : V), noL n d = true → Dp K H v d → Dp K (upd H a o) v d
  | _, .none, _, _, h => by cases h; exact .non
  | _, .bool b, _, _, h => by cases h; exact .bl b
  | _, .int i, _, _, h => by cases h; exact .int i
  | _, .str x, _, _, h => by cases h; exact .str x
  | 0, .tuple _, _, e, _ => by cases e
  | n + 1, .tuple ds, _, e, h => by
    cases h with
    | tup hs hall => exact .tup (sqT_mut hs ha) (noLs_mut ha n ds _ e hall)
  | 0, .list _, _, e, _ => by cases e
  | _ + 1, .list _, _, e, _ => by cases e
  | 0, .dict _, _, e, _ => by cases e
  | _ + 1, .dict _, _, e, _ => by cases e
theorem noLs_mut {K : PySem.W.Frag} {H : Hp} {a : Addr} {o : HO} {xs : List V} (ha : H a = some (.lst xs)) : ∀ (n : Nat) (ds : List PyData) (vs : List V), ds.all (noL n) = true → DpAll K H vs ds → DpAll K (upd H a o) vs ds
  | _, [], _, _, h => by cases h; exact .nil
  | n, d :: ds, _, e, h => by
    cases h with
    | cons h1 h2 =>
      rw [List.all_cons, Bool.and_eq_true] at e
      exact .cons (noL_mut ha n d _ e.1 h1) (noLs_mut ha n ds _ e.2 h2)
end
/-- the list at fo holds ds -/
def Fd (K : PySem.W.Frag) (H : Hp) (fo : Addr) (ds : List PyData) : Prop := ∃ ts, H fo = some (.lst ts) ∧ DpAll K H ts ds
theorem Fd.keep {T : Tb} {K : PySem.W.Frag} {H H' : Hp} {fo : Addr} {ds : List PyData} (h : Fd K H fo ds) (s : Sm T H H') : Fd K H' fo ds := by
  obtain ⟨ts, h1, h2⟩ := h
  exact ⟨ts, s.k h1, dpa_same s _ _ h2⟩
theorem Fd.push {K : PySem.W.Frag} {H : Hp} {fo : Addr} {ds : List PyData} {ts : List V} {d : PyData} {v : V} (h1 : H fo = some (.lst ts)) (h2 : DpAll K H ts ds) (hv : Dp K H v d) (n1 : ds.all (noL 3) = true := by rfl) (n2 : noL 3 d = true := by rfl) :
    Fd K (upd H fo (.lst (ts ++ [v]))) fo (ds ++ [d]) :=
  ⟨ts ++ [v], upd_same, dpa_app (noLs_mut h1 3 ds _ n1 h2) (.cons (noL_mut h1 3 d v n2 hv) .nil)⟩
theorem Fd.dp {K : PySem.W.Frag} {H : Hp} {fo : Addr} {ds : List PyData} (h : Fd K H fo ds) : Dp K H (.ref fo) (.list ds) := by
  obtain ⟨ts, h1, h2⟩ := h
  exact .lst (SqL.of h1) h2
theorem depOk_ams {qs : List Am} (h : qs.length ≤ 9000) : depOk 5 (.list (qs.map amD)) = true := by
  show (decide ((qs.map amD).length ≤ 9000) && (qs.map amD).all (depOk 4)) = true
  rw [List.length_map, decide_eq_true h, Bool.true_and, List.all_map]
  exact List.all_eq_true.mpr fun q _ => rfl

def topS (i : Nat) : Stmt := PySem.Challenge.pw_pailchain_k18_ledgers_of_steady_hands.main.body.getD i (.Pass ⟨0, 0, 0, 0⟩)
abbrev s_l_word : Stmt := topS 57
theorem sc_l_word : FnScope ["_law_asked", "e"] ["_law_asked"] (defScope s_l_word) := ⟨rfl, rfl, rfl, by decide +kernel, rfl, by decide +kernel, by decide +kernel⟩
abbrev s_p_is_number : Stmt := topS 30
theorem sc_p_is_number : FnScope ["thing"] ["thing"] (defScope s_p_is_number) := ⟨rfl, rfl, rfl, by decide +kernel, rfl, by decide +kernel, by decide +kernel⟩
abbrev s_p_is_within : Stmt := topS 31
theorem sc_p_is_within : FnScope ["thing", "least", "most"] ["thing", "least", "most"] (defScope s_p_is_within) := ⟨rfl, rfl, rfl, by decide +kernel, rfl, by decide +kernel, by decide +kernel⟩
abbrev s_p_common_divisor : Stmt := topS 3
theorem sc_p_common_divisor : FnScope ["one", "other"] ["one", "other"] (defScope s_p_common_divisor) := ⟨rfl, rfl, rfl, by decide +kernel, rfl, by decide +kernel, by decide +kernel⟩
abbrev s_p_amount : Stmt := topS 4
theorem sc_p_amount : FnScope ["num", "den", "shared"] ["num", "den"] (defScope s_p_amount) := ⟨rfl, rfl, rfl, by decide +kernel, rfl, by decide +kernel, by decide +kernel⟩
abbrev s_p_plus : Stmt := topS 5
theorem sc_p_plus : FnScope ["one", "other"] ["one", "other"] (defScope s_p_plus) := ⟨rfl, rfl, rfl, by decide +kernel, rfl, by decide +kernel, by decide +kernel⟩
abbrev s_p_minus : Stmt := topS 6
theorem sc_p_minus : FnScope ["one", "other"] ["one", "other"] (defScope s_p_minus) := ⟨rfl, rfl, rfl, by decide +kernel, rfl, by decide +kernel, by decide +kernel⟩
abbrev s_p_times : Stmt := topS 7
theorem sc_p_times : FnScope ["one", "other"] ["one", "other"] (defScope s_p_times) := ⟨rfl, rfl, rfl, by decide +kernel, rfl, by decide +kernel, by decide +kernel⟩
abbrev s_p_over : Stmt := topS 8
theorem sc_p_over : FnScope ["one", "other"] ["one", "other"] (defScope s_p_over) := ⟨rfl, rfl, rfl, by decide +kernel, rfl, by decide +kernel, by decide +kernel⟩
abbrev s_p_below : Stmt := topS 9
theorem sc_p_below : FnScope ["one", "other"] ["one", "other"] (defScope s_p_below) := ⟨rfl, rfl, rfl, by decide +kernel, rfl, by decide +kernel, by decide +kernel⟩
abbrev s_p_lesser : Stmt := topS 10
theorem sc_p_lesser : FnScope ["one", "other"] ["one", "other"] (defScope s_p_lesser) := ⟨rfl, rfl, rfl, by decide +kernel, rfl, by decide +kernel, by decide +kernel⟩
abbrev s_p_PailError___init__ : Stmt := inClass (topS 12) 0
theorem sc_p_PailError___init__ : FnScope ["self", "word"] ["self", "word"] (defScope s_p_PailError___init__) := ⟨rfl, rfl, rfl, by decide +kernel, rfl, by decide +kernel, by decide +kernel⟩
abbrev s_p_BadWay___init__ : Stmt := inClass (topS 13) 0
theorem sc_p_BadWay___init__ : FnScope ["self"] ["self"] (defScope s_p_BadWay___init__) := ⟨rfl, rfl, rfl, by decide +kernel, rfl, by decide +kernel, by decide +kernel⟩
abbrev s_p_BadName___init__ : Stmt := inClass (topS 14) 0
theorem sc_p_BadName___init__ : FnScope ["self"] ["self"] (defScope s_p_BadName___init__) := ⟨rfl, rfl, rfl, by decide +kernel, rfl, by decide +kernel, by decide +kernel⟩
abbrev s_p_Taken___init__ : Stmt := inClass (topS 15) 0
theorem sc_p_Taken___init__ : FnScope ["self"] ["self"] (defScope s_p_Taken___init__) := ⟨rfl, rfl, rfl, by decide +kernel, rfl, by decide +kernel, by decide +kernel⟩
abbrev s_p_BadPace___init__ : Stmt := inClass (topS 16) 0
theorem sc_p_BadPace___init__ : FnScope ["self"] ["self"] (defScope s_p_BadPace___init__) := ⟨rfl, rfl, rfl, by decide +kernel, rfl, by decide +kernel, by decide +kernel⟩
abbrev s_p_Full___init__ : Stmt := inClass (topS 17) 0
theorem sc_p_Full___init__ : FnScope ["self"] ["self"] (defScope s_p_Full___init__) := ⟨rfl, rfl, rfl, by decide +kernel, rfl, by decide +kernel, by decide +kernel⟩
abbrev s_p_NoHand___init__ : Stmt := inClass (topS 18) 0
theorem sc_p_NoHand___init__ : FnScope ["self"] ["self"] (defScope s_p_NoHand___init__) := ⟨rfl, rfl, rfl, by decide +kernel, rfl, by decide +kernel, by decide +kernel⟩
abbrev s_p_Called___init__ : Stmt := inClass (topS 19) 0
theorem sc_p_Called___init__ : FnScope ["self"] ["self"] (defScope s_p_Called___init__) := ⟨rfl, rfl, rfl, by decide +kernel, rfl, by decide +kernel, by decide +kernel⟩
abbrev s_p_NotCalled___init__ : Stmt := inClass (topS 20) 0
theorem sc_p_NotCalled___init__ : FnScope ["self"] ["self"] (defScope s_p_NotCalled___init__) := ⟨rfl, rfl, rfl, by decide +kernel, rfl, by decide +kernel, by decide +kernel⟩
abbrev s_p_NoNext___init__ : Stmt := inClass (topS 21) 0
theorem sc_p_NoNext___init__ : FnScope ["self"] ["self"] (defScope s_p_NoNext___init__) := ⟨rfl, rfl, rfl, by decide +kernel, rfl, by decide +kernel, by decide +kernel⟩
abbrev s_p_BadTime___init__ : Stmt := inClass (topS 22) 0
theorem sc_p_BadTime___init__ : FnScope ["self"] ["self"] (defScope s_p_BadTime___init__) := ⟨rfl, rfl, rfl, by decide +kernel, rfl, by decide +kernel, by decide +kernel⟩
abbrev s_p_TooLong___init__ : Stmt := inClass (topS 23) 0
theorem sc_p_TooLong___init__ : FnScope ["self"] ["self"] (defScope s_p_TooLong___init__) := ⟨rfl, rfl, rfl, by decide +kernel, rfl, by decide +kernel, by decide +kernel⟩
abbrev s_l_cell : Stmt := topS 52
theorem sc_l_cell : FnScope ["_law_script", "_law_k"] ["_law_script", "_law_k"] (defScope s_l_cell) := ⟨rfl, rfl, rfl, by decide +kernel, rfl, by decide +kernel, by decide +kernel⟩
abbrev s_l_draws : Stmt := topS 53
theorem sc_l_draws : FnScope ["_law_cell_here", "_law_parts", "_law_one", "_law_two", "_law_six", "_law_found", "_law_part"] ["_law_cell_here", "_law_parts"] (defScope s_l_draws) := ⟨rfl, rfl, rfl, by decide +kernel, rfl, by decide +kernel, by decide +kernel⟩
abbrev s_l_many : Stmt := topS 55
theorem sc_l_many : FnScope ["_law_script", "_law_few"] ["_law_script", "_law_few"] (defScope s_l_many) := ⟨rfl, rfl, rfl, by decide +kernel, rfl, by decide +kernel, by decide +kernel⟩
abbrev s_p_check_pace : Stmt := topS 34
theorem sc_p_check_pace : FnScope ["pace"] ["pace"] (defScope s_p_check_pace) := ⟨rfl, rfl, rfl, by decide +kernel, rfl, by decide +kernel, by decide +kernel⟩
abbrev s_p_is_name : Stmt := topS 32
theorem sc_p_is_name : FnScope ["text", "sign"] ["text"] (defScope s_p_is_name) := ⟨rfl, rfl, rfl, by decide +kernel, rfl, by decide +kernel, by decide +kernel⟩
abbrev s_p_check_name : Stmt := topS 33
theorem sc_p_check_name : FnScope ["name"] ["name"] (defScope s_p_check_name) := ⟨rfl, rfl, rfl, by decide +kernel, rfl, by decide +kernel, by decide +kernel⟩
abbrev s_p_Chain_take_pail : Stmt := inClass (topS 50) 23
theorem sc_p_Chain_take_pail : FnScope ["self", "number"] ["self"] (defScope s_p_Chain_take_pail) := ⟨rfl, rfl, rfl, by decide +kernel, rfl, by decide +kernel, by decide +kernel⟩
abbrev s_p_Chain_enter : Stmt := inClass (topS 50) 1
theorem sc_p_Chain_enter : FnScope ["self", "name", "pace"] ["self", "name", "pace"] (defScope s_p_Chain_enter) := ⟨rfl, rfl, rfl, by decide +kernel, rfl, by decide +kernel, by decide +kernel⟩
abbrev s_p_Chain_hands : Stmt := inClass (topS 50) 9
theorem sc_p_Chain_hands : FnScope ["self"] ["self"] (defScope s_p_Chain_hands) := ⟨rfl, rfl, rfl, by decide +kernel, rfl, by decide +kernel, by decide +kernel⟩
abbrev s_p_Chain_emptied : Stmt := inClass (topS 50) 14
theorem sc_p_Chain_emptied : FnScope ["self"] ["self"] (defScope s_p_Chain_emptied) := ⟨rfl, rfl, rfl, by decide +kernel, rfl, by decide +kernel, by decide +kernel⟩
abbrev s_p_Chain_pails : Stmt := inClass (topS 50) 15
theorem sc_p_Chain_pails : FnScope ["self"] ["self"] (defScope s_p_Chain_pails) := ⟨rfl, rfl, rfl, by decide +kernel, rfl, by decide +kernel, by decide +kernel⟩
abbrev s_p_Chain_number_of : Stmt := inClass (topS 50) 21
theorem sc_p_Chain_number_of : FnScope ["self", "name"] ["self", "name"] (defScope s_p_Chain_number_of) := ⟨rfl, rfl, rfl, by decide +kernel, rfl, by decide +kernel, by decide +kernel⟩
abbrev s_p_Chain_place : Stmt := inClass (topS 50) 12
theorem sc_p_Chain_place : FnScope ["self", "name"] ["self", "name"] (defScope s_p_Chain_place) := ⟨rfl, rfl, rfl, by decide +kernel, rfl, by decide +kernel, by decide +kernel⟩
abbrev s_p_Chain_ledger : Stmt := inClass (topS 50) 17
theorem sc_p_Chain_ledger : FnScope ["self", "name"] ["self", "name"] (defScope s_p_Chain_ledger) := ⟨rfl, rfl, rfl, by decide +kernel, rfl, by decide +kernel, by decide +kernel⟩
abbrev s_p_Chain_paces : Stmt := inClass (topS 50) 22
theorem sc_p_Chain_paces : FnScope ["self", "name"] ["self"] (defScope s_p_Chain_paces) := ⟨rfl, rfl, rfl, by decide +kernel, rfl, by decide +kernel, by decide +kernel⟩
abbrev s_p_Chain_hour : Stmt := inClass (topS 50) 8
theorem sc_p_Chain_hour : FnScope ["self"] ["self"] (defScope s_p_Chain_hour) := ⟨rfl, rfl, rfl, by decide +kernel, rfl, by decide +kernel, by decide +kernel⟩
abbrev s_p_speeds : Stmt := topS 37
theorem sc_p_speeds : FnScope ["paces", "places", "found", "at", "speed"] ["paces", "places"] (defScope s_p_speeds) := ⟨rfl, rfl, rfl, by decide +kernel, rfl, by decide +kernel, by decide +kernel⟩
abbrev s_p_hours_at : Stmt := topS 39
theorem sc_p_hours_at : FnScope ["gap", "speed"] ["gap", "speed"] (defScope s_p_hours_at) := ⟨rfl, rfl, rfl, by decide +kernel, rfl, by decide +kernel, by decide +kernel⟩
abbrev s_p_meeting : Stmt := topS 38
theorem sc_p_meeting : FnScope ["labour", "paces", "places", "hours", "going", "at", "nearing"] ["labour", "paces", "places"] (defScope s_p_meeting) := ⟨rfl, rfl, rfl, by decide +kernel, rfl, by decide +kernel, by decide +kernel⟩
abbrev s_p_walked : Stmt := topS 40
theorem sc_p_walked : FnScope ["paces", "places", "hours", "going", "place", "speed"] ["paces", "places", "hours"] (defScope s_p_walked) := ⟨rfl, rfl, rfl, by decide +kernel, rfl, by decide +kernel, by decide +kernel⟩
abbrev s_p_ledger_on : Stmt := topS 49
theorem sc_p_ledger_on : FnScope ["ledger", "pace", "speed", "hours", "time", "done", "lost", "more", "short"] ["ledger", "pace", "speed", "hours"] (defScope s_p_ledger_on) := ⟨rfl, rfl, rfl, by decide +kernel, rfl, by decide +kernel, by decide +kernel⟩
abbrev s_p_Chain_till_meeting : Stmt := inClass (topS 50) 26
theorem sc_p_Chain_till_meeting : FnScope ["self"] ["self"] (defScope s_p_Chain_till_meeting) := ⟨rfl, rfl, rfl, by decide +kernel, rfl, by decide +kernel, by decide +kernel⟩
abbrev s_p_Chain_walk : Stmt := inClass (topS 50) 27
theorem sc_p_Chain_walk : FnScope ["self", "hours", "paces", "going", "name", "pace", "speed"] ["self", "hours"] (defScope s_p_Chain_walk) := ⟨rfl, rfl, rfl, by decide +kernel, rfl, by decide +kernel, by decide +kernel⟩
abbrev s_p_is_stretch : Stmt := topS 44
theorem sc_p_is_stretch : FnScope ["thing", "part"] ["thing"] (defScope s_p_is_stretch) := ⟨rfl, rfl, rfl, by decide +kernel, rfl, by decide +kernel, by decide +kernel⟩
abbrev s_p_check_way : Stmt := topS 45
theorem sc_p_check_way : FnScope ["way", "stretch"] ["way"] (defScope s_p_check_way) := ⟨rfl, rfl, rfl, by decide +kernel, rfl, by decide +kernel, by decide +kernel⟩
abbrev s_p_labour : Stmt := topS 46
theorem sc_p_labour : FnScope ["way", "count", "toil"] ["way"] (defScope s_p_labour) := ⟨rfl, rfl, rfl, by decide +kernel, rfl, by decide +kernel, by decide +kernel⟩
abbrev s_p_check_way_t : Stmt := topS 45
theorem sc_p_check_way_t : FnScope ["way", "stretch"] ["way"] (defScope s_p_check_way_t) := ⟨rfl, rfl, rfl, by decide +kernel, rfl, by decide +kernel, by decide +kernel⟩
abbrev s_p_labour_t : Stmt := topS 46
theorem sc_p_labour_t : FnScope ["way", "count", "toil"] ["way"] (defScope s_p_labour_t) := ⟨rfl, rfl, rfl, by decide +kernel, rfl, by decide +kernel, by decide +kernel⟩
abbrev s_p_Chain___init__ : Stmt := inClass (topS 50) 0
theorem sc_p_Chain___init__ : FnScope ["self", "way"] ["self", "way"] (defScope s_p_Chain___init__) := ⟨rfl, rfl, rfl, by decide +kernel, rfl, by decide +kernel, by decide +kernel⟩
abbrev s_p_Chain___init___t : Stmt := inClass (topS 50) 0
theorem sc_p_Chain___init___t : FnScope ["self", "way"] ["self", "way"] (defScope s_p_Chain___init___t) := ⟨rfl, rfl, rfl, by decide +kernel, rfl, by decide +kernel, by decide +kernel⟩
abbrev s_p_Chain_stand_as : Stmt := inClass (topS 50) 20
theorem sc_p_Chain_stand_as : FnScope ["self", "other"] ["self", "other"] (defScope s_p_Chain_stand_as) := ⟨rfl, rfl, rfl, by decide +kernel, rfl, by decide +kernel, by decide +kernel⟩
abbrev s_p_Chain_twin : Stmt := inClass (topS 50) 19
theorem sc_p_Chain_twin : FnScope ["self", "other"] ["self"] (defScope s_p_Chain_twin) := ⟨rfl, rfl, rfl, by decide +kernel, rfl, by decide +kernel, by decide +kernel⟩
abbrev s_p_check_hours : Stmt := topS 35
theorem sc_p_check_hours : FnScope ["hours"] ["hours"] (defScope s_p_check_hours) := ⟨rfl, rfl, rfl, by decide +kernel, rfl, by decide +kernel, by decide +kernel⟩
abbrev s_p_Chain_mark : Stmt := inClass (topS 50) 24
theorem sc_p_Chain_mark : FnScope ["self", "at", "pail"] ["self", "at"] (defScope s_p_Chain_mark) := ⟨rfl, rfl, rfl, by decide +kernel, rfl, by decide +kernel, by decide +kernel⟩
abbrev s_p_Chain_called : Stmt := inClass (topS 50) 10
theorem sc_p_Chain_called : FnScope ["self", "name"] ["self"] (defScope s_p_Chain_called) := ⟨rfl, rfl, rfl, by decide +kernel, rfl, by decide +kernel, by decide +kernel⟩
abbrev s_p_Chain_pace : Stmt := inClass (topS 50) 11
theorem sc_p_Chain_pace : FnScope ["self", "name"] ["self", "name"] (defScope s_p_Chain_pace) := ⟨rfl, rfl, rfl, by decide +kernel, rfl, by decide +kernel, by decide +kernel⟩
abbrev s_p_Chain_pail : Stmt := inClass (topS 50) 13
theorem sc_p_Chain_pail : FnScope ["self", "name"] ["self", "name"] (defScope s_p_Chain_pail) := ⟨rfl, rfl, rfl, by decide +kernel, rfl, by decide +kernel, by decide +kernel⟩
abbrev s_p_Chain_call : Stmt := inClass (topS 50) 2
theorem sc_p_Chain_call : FnScope ["self", "name"] ["self", "name"] (defScope s_p_Chain_call) := ⟨rfl, rfl, rfl, by decide +kernel, rfl, by decide +kernel, by decide +kernel⟩
abbrev s_p_Chain_stay : Stmt := inClass (topS 50) 3
theorem sc_p_Chain_stay : FnScope ["self", "name"] ["self", "name"] (defScope s_p_Chain_stay) := ⟨rfl, rfl, rfl, by decide +kernel, rfl, by decide +kernel, by decide +kernel⟩
abbrev s_p_Chain_swap : Stmt := inClass (topS 50) 4
theorem sc_p_Chain_swap : FnScope ["self", "name", "at"] ["self", "name"] (defScope s_p_Chain_swap) := ⟨rfl, rfl, rfl, by decide +kernel, rfl, by decide +kernel, by decide +kernel⟩
abbrev s_p_Chain_mark_from : Stmt := inClass (topS 50) 25
theorem sc_p_Chain_mark_from : FnScope ["self", "first", "at"] ["self", "first"] (defScope s_p_Chain_mark_from) := ⟨rfl, rfl, rfl, by decide +kernel, rfl, by decide +kernel, by decide +kernel⟩
abbrev s_p_Chain_next_leaver : Stmt := inClass (topS 50) 31
theorem sc_p_Chain_next_leaver : FnScope ["self", "at"] ["self"] (defScope s_p_Chain_next_leaver) := ⟨rfl, rfl, rfl, by decide +kernel, rfl, by decide +kernel, by decide +kernel⟩
abbrev s_p_Chain_leave : Stmt := inClass (topS 50) 32
theorem sc_p_Chain_leave : FnScope ["self", "at", "name"] ["self", "at"] (defScope s_p_Chain_leave) := ⟨rfl, rfl, rfl, by decide +kernel, rfl, by decide +kernel, by decide +kernel⟩
abbrev s_p_Chain_turn : Stmt := inClass (topS 50) 30
theorem sc_p_Chain_turn : FnScope ["self", "rows", "leaver"] ["self"] (defScope s_p_Chain_turn) := ⟨rfl, rfl, rfl, by decide +kernel, rfl, by decide +kernel, by decide +kernel⟩
abbrev s_p_Chain_turns : Stmt := inClass (topS 50) 29
theorem sc_p_Chain_turns : FnScope ["self", "rows"] ["self"] (defScope s_p_Chain_turns) := ⟨rfl, rfl, rfl, by decide +kernel, rfl, by decide +kernel, by decide +kernel⟩
abbrev s_p_Chain_walk_for : Stmt := inClass (topS 50) 28
theorem sc_p_Chain_walk_for : FnScope ["self", "hours", "rows", "end", "left", "some"] ["self", "hours"] (defScope s_p_Chain_walk_for) := ⟨rfl, rfl, rfl, by decide +kernel, rfl, by decide +kernel, by decide +kernel⟩
abbrev s_p_Chain_go : Stmt := inClass (topS 50) 6
theorem sc_p_Chain_go : FnScope ["self", "hours", "trial", "rows"] ["self", "hours"] (defScope s_p_Chain_go) := ⟨rfl, rfl, rfl, by decide +kernel, rfl, by decide +kernel, by decide +kernel⟩
abbrev s_l_draws_f : Stmt := topS 53
theorem sc_l_draws_f : FnScope ["_law_cell_here", "_law_parts", "_law_one", "_law_two", "_law_six", "_law_found", "_law_part"] ["_law_cell_here", "_law_parts"] (defScope s_l_draws_f) := ⟨rfl, rfl, rfl, by decide +kernel, rfl, by decide +kernel, by decide +kernel⟩
abbrev s_l_name : Stmt := topS 64
theorem sc_l_name : FnScope ["_law_k", "_law_salt", "_law_letters", "_law_place", "_law_behind_it", "_law_fill", "_law_first", "_law_telling"] ["_law_k", "_law_salt"] (defScope s_l_name) := ⟨rfl, rfl, rfl, by decide +kernel, rfl, by decide +kernel, by decide +kernel⟩
abbrev s_l_same : Stmt := topS 56
theorem sc_l_same : FnScope ["_law_found", "_law_due", "_law_k"] ["_law_found", "_law_due"] (defScope s_l_same) := ⟨rfl, rfl, rfl, by decide +kernel, rfl, by decide +kernel, by decide +kernel⟩
abbrev s_l_split : Stmt := topS 54
theorem sc_l_split : FnScope ["_law_cell_here", "_law_many_here", "_law_found", "_law_big", "_law_k"] ["_law_cell_here", "_law_many_here"] (defScope s_l_split) := ⟨rfl, rfl, rfl, by decide +kernel, rfl, by decide +kernel, by decide +kernel⟩
abbrev s_l_way : Stmt := topS 63
theorem sc_l_way : FnScope ["_law_cell_here", "_law_drawn", "_law_cap", "_law_many_here", "_law_k"] ["_law_cell_here"] (defScope s_l_way) := ⟨rfl, rfl, rfl, by decide +kernel, rfl, by decide +kernel, by decide +kernel⟩
abbrev s_l_gcd : Stmt := topS 58
theorem sc_l_gcd : FnScope ["_law_one", "_law_other"] ["_law_one", "_law_other"] (defScope s_l_gcd) := ⟨rfl, rfl, rfl, by decide +kernel, rfl, by decide +kernel, by decide +kernel⟩
abbrev s_l_amt : Stmt := topS 59
theorem sc_l_amt : FnScope ["_law_num", "_law_den", "_law_by"] ["_law_num", "_law_den"] (defScope s_l_amt) := ⟨rfl, rfl, rfl, by decide +kernel, rfl, by decide +kernel, by decide +kernel⟩
abbrev s_l_add : Stmt := topS 60
theorem sc_l_add : FnScope ["_law_one", "_law_other"] ["_law_one", "_law_other"] (defScope s_l_add) := ⟨rfl, rfl, rfl, by decide +kernel, rfl, by decide +kernel, by decide +kernel⟩
abbrev s_l_sub : Stmt := topS 61
theorem sc_l_sub : FnScope ["_law_one", "_law_other"] ["_law_one", "_law_other"] (defScope s_l_sub) := ⟨rfl, rfl, rfl, by decide +kernel, rfl, by decide +kernel, by decide +kernel⟩
abbrev s_l_mul : Stmt := topS 62
theorem sc_l_mul : FnScope ["_law_one", "_law_number"] ["_law_one", "_law_number"] (defScope s_l_mul) := ⟨rfl, rfl, rfl, by decide +kernel, rfl, by decide +kernel, by decide +kernel⟩
abbrev s_LAW : Stmt := topS 65
theorem sc_LAW : FnScope ["_law_script", "_law_salt", "_law_first", "_law_came", "_law_left", "_law_k", "_law_hands", "_law_told", "_law_row", "_law_hours", "_law_done", "_law_lost", "_law_drawn", "_law_line", "_law_name_here"] ["_law_script"] (defScope s_LAW) := ⟨rfl, rfl, rfl, by decide +kernel, rfl, by decide +kernel, by decide +kernel⟩
structure Bn (mg : Str → Option Value) : Prop where
  ValueError_ : mg "ValueError" = none
  abs_ : mg "abs" = none
  all_ : mg "all" = none
  bool_ : mg "bool" = none
  dict_ : mg "dict" = none
  int_ : mg "int" = none
  isinstance_ : mg "isinstance" = none
  len_ : mg "len" = none
  list_ : mg "list" = none
  max_ : mg "max" = none
  min_ : mg "min" = none
  range_ : mg "range" = none
  reversed_ : mg "reversed" = none
  str_ : mg "str" = none
  sum_ : mg "sum" = none
  tuple_ : mg "tuple" = none
  zip_ : mg "zip" = none

theorem gcd_cut {a b : Nat} (hb : 0 < b) : ∃ g x y : Nat, 0 < g ∧ g = Nat.gcd a b ∧ a = g * x ∧ b = g * y ∧ 0 < y ∧ Nat.gcd x y = 1 := by
  have hg : 0 < Nat.gcd a b := Nat.gcd_pos_of_pos_right _ hb
  obtain ⟨x, hx⟩ := Nat.gcd_dvd_left a b
  obtain ⟨y, hy⟩ := Nat.gcd_dvd_right a b
  refine ⟨Nat.gcd a b, x, y, hg, rfl, hx, hy, ?_, ?_⟩
  · cases y with
    | zero => rw [Nat.mul_zero] at hy; omega
    | succ n => exact Nat.succ_pos n
  · have e : Nat.gcd a b * Nat.gcd x y = Nat.gcd a b * 1 := by
      have h2 : Nat.gcd (Nat.gcd a b * x) (Nat.gcd a b * y) = Nat.gcd a b * Nat.gcd x y := Nat.gcd_mul_left _ _ _
      rw [← hx, ← hy] at h2
      rw [← h2, Nat.mul_one]
    exact Nat.eq_of_mul_eq_mul_left hg e
/-- an amount in lowest terms -/
def Low (x : Int × Int) : Prop := 0 < x.2 ∧ Nat.gcd x.1.natAbs x.2.natAbs = 1
theorem amt_spec {n d : Int} (hd : d ≠ 0) : Low (amt n d) ∧ (amt n d).1 * d = n * (amt n d).2 ∧ (amt n d).1.natAbs ≤ n.natAbs ∧ (amt n d).2.natAbs ≤ d.natAbs := by
  obtain ⟨g, x, y, hg, eg, ex, ey, hy, h1⟩ := gcd_cut (a := n.natAbs) (b := d.natAbs) (by omega)
  have gi : ((g : Nat) : Int) ≠ 0 := by omega
  have e2 : (amt n d).2 = (y : Int) := by
    show ((d.natAbs : Nat) : Int) / ((Nat.gcd n.natAbs d.natAbs : Nat) : Int) = _
    rw [← eg, ey, Int.natCast_mul, Int.mul_ediv_cancel_left _ gi]
  have hyd : d.natAbs ≥ y := by
    rw [ey]; exact Nat.le_mul_of_pos_left _ hg
  have hxn : n.natAbs ≥ x := by
    rw [ex]; exact Nat.le_mul_of_pos_left _ hg
  have exi : ((n.natAbs : Nat) : Int) = (g : Int) * (x : Int) := by rw [ex, Int.natCast_mul]
  have eyi : ((d.natAbs : Nat) : Int) = (g : Int) * (y : Int) := by rw [ey, Int.natCast_mul]
  have main : ∀ (s : Int), (s = 1 ∨ s = -1) → (if d < 0 then -n else n) = s * ((g : Int) * (x : Int)) → (n = s * ((g : Int) * (x : Int)) ∧ d = (g : Int) * (y : Int) ∨ n = -(s * ((g : Int) * (x : Int))) ∧ d = -((g : Int) * (y : Int))) →
      Low (amt n d) ∧ (amt n d).1 * d = n * (amt n d).2 ∧ (amt n d).1.natAbs ≤ n.natAbs ∧ (amt n d).2.natAbs ≤ d.natAbs := by
    intro s hs e hnd
    have e1 : (amt n d).1 = s * (x : Int) := by
      show (if d < 0 then -n else n) / ((Nat.gcd n.natAbs d.natAbs : Nat) : Int) = _
      rw [← eg, e, Int.mul_left_comm, Int.mul_ediv_cancel_left _ gi]
    have ab : (s * (x : Int)).natAbs = x := by
      rcases hs with rfl | rfl
      · rw [Int.one_mul, Int.natAbs_natCast]
      · rw [Int.neg_mul, Int.one_mul, Int.natAbs_neg, Int.natAbs_natCast]
    refine ⟨⟨by rw [e2]; omega, ?_⟩, ?_, ?_, ?_⟩
    · rw [e1, e2, ab, Int.natAbs_natCast]; exact h1
    · rw [e1, e2]
      rcases hnd with ⟨a, b⟩ | ⟨a, b⟩
      · rw [a, b, Int.mul_assoc, Int.mul_assoc, Int.mul_left_comm (x : Int) (g : Int) (y : Int), Int.mul_assoc]
      · rw [a, b, Int.mul_neg, Int.neg_mul, Int.mul_assoc, Int.mul_assoc, Int.mul_left_comm (x : Int) (g : Int) (y : Int), Int.mul_assoc]
    · rw [e1, ab]; exact hxn
    · rw [e2, Int.natAbs_natCast]; exact hyd
  by_cases hdn : d < 0
  · by_cases hnn : n < 0
    · exact main 1 (.inl rfl) (by rw [if_pos hdn, Int.one_mul]; omega) (.inr ⟨by rw [Int.one_mul]; omega, by omega⟩)
    · exact main (-1) (.inr rfl) (by rw [if_pos hdn, Int.neg_mul, Int.one_mul]; omega) (.inr ⟨by rw [Int.neg_mul, Int.one_mul]; omega, by omega⟩)
  · by_cases hnn : n < 0
    · exact main (-1) (.inr rfl) (by rw [if_neg hdn, Int.neg_mul, Int.one_mul]; omega) (.inl ⟨by rw [Int.neg_mul, Int.one_mul]; omega, by omega⟩)
    · exact main 1 (.inl rfl) (by rw [if_neg hdn, Int.one_mul]; omega) (.inl ⟨by rw [Int.one_mul]; omega, by omega⟩)
/-- two amounts in lowest terms of the same worth are the same -/
theorem low_eq {x y : Int × Int} (hx : Low x) (hy : Low y) (e : x.1 * y.2 = y.1 * x.2) : x = y := by
  obtain ⟨a, b⟩ := x
  obtain ⟨c, d⟩ := y
  obtain ⟨hb, g1⟩ := hx
  obtain ⟨hd, g2⟩ := hy
  simp only at hb g1 hd g2 e
  have en : a.natAbs * d.natAbs = c.natAbs * b.natAbs := by rw [← Int.natAbs_mul, ← Int.natAbs_mul, e]
  have h1 : b.natAbs ∣ d.natAbs := by
    have : b.natAbs ∣ a.natAbs * d.natAbs := ⟨c.natAbs, by rw [en, Nat.mul_comm]⟩
    exact Nat.Coprime.dvd_of_dvd_mul_left (show Nat.Coprime b.natAbs a.natAbs by rw [Nat.Coprime, Nat.gcd_comm]; exact g1) this
  have h2 : d.natAbs ∣ b.natAbs := by
    have : d.natAbs ∣ c.natAbs * b.natAbs := ⟨a.natAbs, by rw [← en, Nat.mul_comm]⟩
    exact Nat.Coprime.dvd_of_dvd_mul_left (show Nat.Coprime d.natAbs c.natAbs by rw [Nat.Coprime, Nat.gcd_comm]; exact g2) this
  have h3 : b.natAbs = d.natAbs := Nat.dvd_antisymm h1 h2
  have h4 : b = d := by omega
  subst h4
  have h5 : a = c := Int.eq_of_mul_eq_mul_right (by omega) e
  rw [h5]
theorem amt_low {x : Int × Int} (h : Low x) : amt x.1 x.2 = x := by
  have s := amt_spec (n := x.1) (d := x.2) (by have := h.1; omega)
  exact low_eq s.1 h s.2.1
theorem amt_eq {n d m e : Int} (hd : d ≠ 0) (he : e ≠ 0) (h : n * e = m * d) : amt n d = amt m e := by
  have s := amt_spec (n := n) (d := d) hd
  have t := amt_spec (n := m) (d := e) he
  refine low_eq s.1 t.1 ?_
  -- (amt n d).1 * d = n * (amt n d).2 ; (amt m e).1 * e = m * (amt m e).2
  have key : ((amt n d).1 * (amt m e).2) * (d * e) = ((amt m e).1 * (amt n d).2) * (d * e) := by
    calc ((amt n d).1 * (amt m e).2) * (d * e) = ((amt n d).1 * d) * ((amt m e).2 * e) := by ac_rfl
      _ = (n * (amt n d).2) * ((amt m e).2 * e) := by rw [s.2.1]
      _ = (n * e) * ((amt n d).2 * (amt m e).2) := by ac_rfl
      _ = (m * d) * ((amt n d).2 * (amt m e).2) := by rw [h]
      _ = (m * (amt m e).2) * ((amt n d).2 * d) := by ac_rfl
      _ = ((amt m e).1 * e) * ((amt n d).2 * d) := by rw [t.2.1]
      _ = ((amt m e).1 * (amt n d).2) * (d * e) := by ac_rfl
  exact Int.eq_of_mul_eq_mul_right (Int.mul_ne_zero hd he) key

section
variable {P : Program} {w : World} {K : PySem.W.Frag} {T : Tb} {mg : Str → Option Value} {base : Heap}
/-! ### refusals: own error classes whose __init__ calls the base's -/
/-- C.m(e, ..), m a def read off the own class C -/
theorem pe_clsfn {X : Cx} {x m : Str} {C f : Addr} {mc : Value} {k : Nat} {fd : FuncData} {ps : List Str} {sp : Sp} {e : Expr} {es : List Expr} {t : TA} {p1 p2 pos : Pos} {pl : Sem Bool}
    (r : ClX.CRead X.K C mc) (hat : PySem.W.findCls X.K (.ref C) mc m = some (.val (.ref f))) (F : FnOk X.prog X.w X.K X.mg X.base CX0 k f fd ps sp) (hr : Room k X.A) (hg : Gl X x) (hm : X.mg x = some (.ref C))
    (hk : PySem.W.keepIn X.K (.ref f) = true) (hb : Binds X.K fd ps []) (ha : PA X (e :: es) t)
    (hc : eval (.Call (.Attribute (.Name x p1) m p2) (e :: es) [] pos) X.env = (do
      let ov ← eval (.Name x p1) X.env
      standAt p2.atName
      let (f, first) ← holding [ov] (getMethod ov m pl)
      callWith pos f first (backTo pos (starEach (e :: es) X.env)) (backToKw pos (keywordEach [] X.env))) := by rfl)
    (hdb : (x == ("__debug__" : Str)) = false := by decide) (he : starEach (e :: es) X.env = (false, eval e X.env) :: starEach es X.env := by rfl) (hpl : (backTo pos (starEach es X.env)).any (·.1) = false := by rfl) :
    PE X (.Call (.Attribute (.Name x p1) m p2) (e :: es) [] pos) (tCall sp [] E0 t) := by
  refine ⟨fun pins s σ H Q I h => ?_⟩
  refine PySem.W.methodCall_KW (ld_glob I hg hm ?_ hdb) hc
  refine PySem.W.method_cls I.kIn r.ga (PySem.W.cls_value I.kIn r.rd hat rfl ?_)
  show wpAny _ _ (callWith pos (Value.ref f) [] (backTo pos (starEach (e :: es) X.env)) []) _ _ _
  refine PySem.W.callWith_K (h₀ := X.base) I.ok.mod.kin hk (thn (ha.run pos pins _ σ H _ (I.tok _) h) fun us s1 ⟨vs, H1, I1, r1, q1⟩ => ⟨I1.kIn, ?_⟩) he hpl
  exact run_fn F hr hb .nil pass0 I1 r1 q1
/-- C(), C's own __init__ keeping sp -/
theorem pmk_oex0 {X : Cx} {x : Str} {C fI : Addr} {k : Nat} {fd : FuncData} {ps : List Str} {sp : Sp} {p pos : Pos} (T : OexC X.K C) (iC : PySem.W.findIn X.K (.ref C) "__init__" = some (some (.ref fI))) (tI : PySem.W.typeIn X.K (.ref fI) = some (.type "function"))
    (F1 : FnOk X.prog X.w X.K X.mg X.base CX0 k fI fd ps sp) (hr : Room (k + 1) X.A) (hb : Binds X.K fd ps []) (hg : Gl X x) (hm : X.mg x = some (.ref C)) (hdb : (x == ("__debug__" : Str)) = false := by decide) :
    PMk X (.Call (.Name x p) [] [] pos) (tMkO C sp [] tNil) := by
  intro pins s σ H Q I h
  obtain ⟨nm, q, N, bs, bm, sn, sub, ab, col, dd, k0, k1, k2, k3, k5, hC, hbm⟩ := T.cls
  refine wpAny_Call_Name_kw (ld_glob I hg hm ?_ hdb)
  refine PySem.W.callWith_K0 I.kIn T.kC ?_
  show wpAny _ _ (call (.ref C) []) _ _ _
  obtain ⟨hz, q1⟩ : ([] : List V).length ≤ 1000 ∧ _ := h
  obtain ⟨hp, g, dr, tk, os⟩ := s
  have hsz : hp.objs.size ≤ hp.objs.size + 1 := Nat.le_succ _
  have hn : H (hp.objs.size + 1) = none := I.hok.fresh hsz
  have hq := q1 (hp.objs.size + 1) hn
  have kk : ∀ b o, hp.get? b = some o → ((hp.push (PySem.W.kdv_tup [])).push (PySem.HandSPX.excO C hp.objs.size)).get? b = some o := fun b o e => Heap.get?_push_of_some _ (Heap.get?_push_of_some _ e)
  have hget : ((hp.push (PySem.W.kdv_tup [])).push (PySem.HandSPX.excO C hp.objs.size)).get? (hp.objs.size + 1) = some (PySem.HandSPX.excO C hp.objs.size) := by heap_get
  have I2 : Inv X pins σ (upd H (hp.objs.size + 1) (exo (hp.objs.size + 1) C none)) ⟨(hp.push (PySem.W.kdv_tup [])).push (PySem.HandSPX.excO C hp.objs.size), g, dr, tk, os⟩ :=
    I.laid (t' := tk) (a := hp.objs.size + 1) (o := exo (hp.objs.size + 1) C none) (h' := (hp.push (PySem.W.kdv_tup [])).push (PySem.HandSPX.excO C hp.objs.size)) kk hsz (exo_ok hget)
  have r2 : Vals (V.ref (hp.objs.size + 1) :: ([] ++ [])) ([Value.ref (hp.objs.size + 1)] ++ []) := .cons rfl .nil
  have hl : (Value.ref (hp.objs.size + 1) :: [] ++ []).length = ps.length := by
    have e := r2.length
    rw [F1.len _ _ _ _ hq] at e
    exact e.symm
  have hus : ([] : List Value).length ≤ sizeLine := Nat.zero_le _
  refine wpAny_call (PySem.HandSPX.call_own F.excBase_ValueError (fun Y => PySem.HandSPX.refsVE_contains Y bm hbm) (I.kIn _ _ hC) (PySem.W.looks_findIn I.kIn iC) (fun self => PySem.W.bind_fn I.kIn self tI) hus
    (codeAny_mono (F1.run _ X.stack _ _ ⟨Value.ref (hp.objs.size + 1) :: [], []⟩ ([Value.ref (hp.objs.size + 1)] ++ []) _ _ (fun _ _ _ => False) (hr.make C [] []) (I2.env0.make C [] []) (hb _ (Value.ref (hp.objs.size + 1) :: []) I2.kIn hl) r2 hq) fun r s' hq' => ?_))
  cases r with
  | error er => exact (show False from hq').elim
  | ok fl =>
    cases fl with
    | ret u =>
      obtain ⟨v, H2, os2, bare2, un2, hok2, rv, ev, d, fs, ea, ed, hd1, q2⟩ := hq'
      subst ev
      obtain ⟨h2, g2, d2, t2, os'⟩ := s'
      exact ⟨rv, mk_end (raises_own T.exC T.tyC) I hsz kk un2 hok2 os2 bare2 ea ed hd1 q2⟩
    | next => exact False.elim hq'
    | brk => exact False.elim hq'
    | cont => exact False.elim hq'
/-- what stands of a refusal that flies: its word -/
def Rf (K : PySem.W.Frag) (CP : Addr) (word : Str) (cls : Value) (d : Option Addr) (H' : Hp) : Prop :=
  ∃ C dd, cls = .ref C ∧ d = some dd ∧ XfC K C ∧ PySem.W.findIn K (.ref C) "word" = some none ∧ PySem.W.exmOne K (.ref C) (.ref CP) = some true ∧ H' dd = some (.xd [(("word" : Str), .str word)])
theorem Rf.keep {T : Tb} {K : PySem.W.Frag} {CP : Addr} {word : Str} {cls : Value} {d : Option Addr} {H H' : Hp} (h : Rf K CP word cls d H) (s : Sm T H H') : Rf K CP word cls d H' := by
  obtain ⟨C, dd, h1, h2, h3, h4, h5, h6⟩ := h
  exact ⟨C, dd, h1, h2, h3, h4, h5, s.k h6⟩
/-- the promise of PailError.__init__ and of those under it -/
def spInit2 (K : PySem.W.Frag) : Sp := fun vs H Q _ => ∃ (a C : Addr) (w : Str), vs = [.ref a, .str w] ∧ OexC K C ∧ PySem.W.findIn K (.ref C) "word" = some none ∧ H a = some (exo a C none) ∧
  ∀ dx, H dx = none → dx ≠ a → Q .non (upd (upd H dx (exd dx [(("word" : Str), .str w)])) a (exo a C (some dx)))
def spInit (w : Str) (K : PySem.W.Frag) : Sp := fun vs H Q _ => ∃ (a C : Addr), vs = [.ref a] ∧ OexC K C ∧ PySem.W.findIn K (.ref C) "word" = some none ∧ H a = some (exo a C none) ∧
  ∀ dx, H dx = none → dx ≠ a → Q .non (upd (upd H dx (exd dx [(("word" : Str), .str w)])) a (exo a C (some dx)))
/-- the error class by the name x, its word -/
structure Err (P : Program) (w : World) (K : PySem.W.Frag) (mg : Str → Option Value) (base : Heap) (CP : Addr) (x word : Str) : Prop where
  ex : ∃ (C fI : Addr) (fd : FuncData), mg x = some (.ref C) ∧ OexC K C ∧ XfC K C ∧ PySem.W.findIn K (.ref C) "word" = some none ∧ PySem.W.exmOne K (.ref C) (.ref CP) = some true ∧
    PySem.W.findIn K (.ref C) "__init__" = some (some (.ref fI)) ∧ PySem.W.typeIn K (.ref fI) = some (.type "function") ∧ FnOk P w K mg base CX0 2 fI fd ["self"] (spInit word K) ∧ Binds K fd ["self"] []
def tErr (K : PySem.W.Frag) (CP : Addr) (word : Str) : L2.St → Hp → XK → Prop := fun _ H Q => ∀ cls dd, H dd = none → Rf K CP word cls (some dd) (upd H dd (.xd [(("word" : Str), .str word)])) → Q cls (some dd) (upd H dd (.xd [(("word" : Str), .str word)]))
theorem pmk_err {X : Cx} {CP : Addr} {x word : Str} {p pos : Pos} (R : Err X.prog X.w X.K X.mg X.base CP x word) (hr : Room 3 X.A) (hg : Gl X x) (hdb : (x == ("__debug__" : Str)) = false := by decide) :
    PMk X (.Call (.Name x p) [] [] pos) (tErr X.K CP word) := by
  obtain ⟨C, fI, fd, g, oc, xf, nw, ex, iC, tI, F, b⟩ := R.ex
  intro pins s σ H Q I h
  refine pmk_oex0 (k := 2) oc iC tI F hr b hg g hdb pins s σ H Q I ⟨Nat.zero_le _, fun a ha => ⟨a, C, rfl, oc, nw, upd_same, fun dx hdx hne => ⟨rfl, dx, [(("word" : Str), .str word)], upd_same, ?_, ?_, ?_⟩⟩⟩
  · rw [upd_ne hne, upd_same]
  · rw [upd_ne hne] at hdx
    exact hdx
  · have hd : H dx = none := by
      rw [upd_ne hne] at hdx
      exact hdx
    have e : upd (L2.del (upd (upd (upd H a (exo a C none)) dx (exd dx [(("word" : Str), .str word)])) a (exo a C (some dx))) a) dx (.xd [(("word" : Str), .str word)]) = upd H dx (.xd [(("word" : Str), .str word)]) := by
      funext c
      by_cases h1 : c = dx
      · rw [h1, upd_same, upd_same]
      · rw [upd_ne h1, upd_ne h1]
        by_cases h2 : c = a
        · rw [h2, L2.del_same, ha]
        · rw [L2.del_ne h2, upd_ne h2, upd_ne h1, upd_ne h2]
    rw [e]
    exact h (.ref C) dx hd ⟨C, dx, rfl, rfl, xf, nw, ex, upd_same⟩
/-- e.word, e the refusal that the suite holds -/
def tXw (K : PySem.W.Frag) (a : Addr) (cls : Value) (d : Option Addr) (te : TE) : TE := fun σ H Q => te σ H fun x H1 => x = .ref a ∧ ∃ (C dd : Addr) (v : V), cls = .ref C ∧ XfC K C ∧ PySem.W.findIn K (.ref C) "word" = some none ∧ d = some dd ∧ H1 dd = some (.xd [(("word" : Str), v)]) ∧ Q v H1
theorem pe_xw {X : Cx} {a : Addr} {oe : Obj} {cls : Value} {d : Option Addr} {pn : List (Addr × Obj)} {e : Expr} {te : TE} {pos : Pos}
    (hz : Zc cls d oe) (hf : ∃ vs, oe.data = .fields vs) (he : PE (X.suite a ((a, oe) :: pn)) e te) (hb : attributeBase e "word" X.env (eval e X.env) = eval e X.env := by rfl) :
    PE (X.suite a ((a, oe) :: pn)) (.Attribute e "word" pos) (tXw X.K a cls d te) := by
  refine ⟨fun pins s σ H Q I h => ?_⟩
  refine attr_of hb (thn (he.run pins s σ H _ I h) fun u s1 hh => ?_)
  obtain ⟨x, H1, I1, rx, ex, C, dd, v, ec, T, hno, ed, ea, q⟩ := hh
  subst ex
  obtain rfl : u = Value.ref a := rx
  subst ec
  subst ed
  obtain ⟨ha, _⟩ := I1.pin (a, oe) (List.mem_append_left _ List.mem_cons_self)
  obtain ⟨vs, hd⟩ := hf
  have hx : ObjOk X.prog X.w H1 s1.heap dd (.xd [(("word" : Str), v)]) := I1.hok dd _ ea
  obtain ⟨mA, hns, hr⟩ := hx
  obtain ⟨od, ho, hl⟩ := lookIn_ns hns
  have l : List.lookup ("word" : Str) [(("word" : Str), v)] = some v := by simp [List.lookup]
  obtain ⟨u, hu, ru⟩ := RelO.some_of (v := v) (o := mA "word") (by rw [← l]; exact hr "word")
  have J : PySem.W.InstAt s1.heap a oe C (some od) := ⟨ha, hz.1, by unfold PySem.W.notCls; rw [hd] <;> rfl, by rw [hz.2]; exact ho⟩
  exact HandSPX.exc_get I1.kIn J T.ga T.gg T.exC (PySem.W.findObj_own T.hdC hno rfl (by rw [hl, hu])) (handed_of ru) ⟨v, H1, I1.tok _, ru, q⟩
/-! ### a def that may raise, ready to be called -/
structure Fx (P : Program) (w : World) (K : PySem.W.Frag) (mg : Str → Option Value) (base : Heap) (k : Nat) (x : Str) (ps : List Str) (sp : Sp) : Prop where
  ex : ∃ f fd, FnOk P w K mg base (L2.CX P w) k f fd ps sp ∧ mg x = some (.ref f) ∧ PySem.W.keepIn K (.ref f) = true ∧ Binds K fd ps []
theorem Fx.mk' {P : Program} {w : World} {K : PySem.W.Frag} {mg : Str → Option Value} {base : Heap} {k : Nat} {x : Str} {ps : List Str} {sp : Sp} {f : Addr} {fd : FuncData}
    (h : FnOk P w K mg base (L2.CX P w) k f fd ps sp) (g : mg x = some (.ref f)) (kp : PySem.W.keepIn K (.ref f) = true) (b : Binds K fd ps []) : Fx P w K mg base k x ps sp := ⟨⟨f, fd, h, g, kp, b⟩⟩
theorem pe_fx {X : Cx} {k : Nat} {x : Str} {ps : List Str} {sp : Sp} {e : Expr} {es : List Expr} {t : TA} {p pos : Pos} {E : XK} (F : Fx X.prog X.w X.K X.mg X.base k x ps sp) (hr : Room k X.A) (tk : Takes X (fun cls d _ H => E cls d H)) (ha : PA X (e :: es) t) (hg : Gl X x := by rfl) (hdb : (x == ("__debug__" : Str)) = false := by decide)
    (he : starEach (e :: es) X.env = (false, eval e X.env) :: starEach es X.env := by rfl) (hpl : (backTo pos (starEach es X.env)).any (·.1) = false := by rfl) :
    PE X (.Call (.Name x p) (e :: es) [] pos) (tCall sp [] E t) := by
  obtain ⟨f, fd, h, g, kp, b⟩ := F.ex
  exact pe_call h hr hg g kp b .nil (passes_call tk fun _ _ _ _ h => h) ha hdb he hpl
/-- .. where nothing is to be let out -/
theorem pe_fx0 {X : Cx} {k : Nat} {x : Str} {ps : List Str} {sp : Sp} {e : Expr} {es : List Expr} {t : TA} {p pos : Pos} (F : Fx X.prog X.w X.K X.mg X.base k x ps sp) (hr : Room k X.A) (ha : PA X (e :: es) t) (hg : Gl X x := by rfl) (hdb : (x == ("__debug__" : Str)) = false := by decide)
    (he : starEach (e :: es) X.env = (false, eval e X.env) :: starEach es X.env := by rfl) (hpl : (backTo pos (starEach es X.env)).any (·.1) = false := by rfl) :
    PE X (.Call (.Name x p) (e :: es) [] pos) (tCall sp [] E0 t) := by
  obtain ⟨f, fd, h, g, kp, b⟩ := F.ex
  exact pe_call h hr hg g kp b .nil passL ha hdb he hpl
/-! ### a def whose code object is told -/
structure FunC (K : PySem.W.Frag) (x qual : Str) (st : Stmt) (f : Addr) (fd : FuncData) (c : Addr) : Prop where
  ex : ∃ (oc : Value) (od : Option Addr) (kV doc pm : Value) (an : Option Addr) (ct : Value) (osl : Array (Option Value)),
    fd = PySem.W.fnOf x qual (defArgs st) (defBody st) (defScope st) .none kV doc pm an (.ref c) ct ∧ K.lookup f = some ⟨oc, od, .func fd, osl⟩ ∧ PySem.W.codeIn K (.ref c) qual = true
  kp : PySem.W.keepIn K (.ref f) = true
theorem FunC.ok {P : Program} {w : World} {K : PySem.W.Frag} {mg : Str → Option Value} {base : Heap} {x qual : Str} {st : Stmt} {f c : Addr} {fd : FuncData} {N ps : List Str} {k : Nat} {sp : Sp} (F : FunC K x qual st f fd c) (S : FnScope N ps (defScope st)) (len : ∀ vs H Q E, sp vs H Q E → vs.length = ps.length)
    (hbody : ∀ (A : Around) (outer : List Env) (s : Shared) (H : Hp) (vs : List V) (Q : VK) (E : XK), Room k (A.deeper (envOfC qual (defScope st) s.heap.objs.size f (.ref c))) → sp vs H Q E →
      ∃ t, PSs (cxOf CX0 P w K mg base N qual (defScope st) f (.ref c) A outer s H E).nox (defBody st) t ∧ t { nx := fun _ H' => Q .non H', rt := Q } (start N vs) H) : FnOk P w K mg base CX0 (k + 1) f fd ps sp := by
  obtain ⟨oc, od, kV, doc, pm, an, ct, osl, rfl, lk, hcd⟩ := F.ex
  refine fn_of lk hcd S len fun A outer s H vs Q E hr hsp => ?_
  obtain ⟨t, h, q⟩ := hbody A outer s H vs Q E hr hsp
  exact ⟨t, h.nox, q⟩
theorem FunC.okX {P : Program} {w : World} {K : PySem.W.Frag} {mg : Str → Option Value} {base : Heap} {x qual : Str} {st : Stmt} {f c : Addr} {fd : FuncData} {N ps : List Str} {k : Nat} {sp : Sp} (F : FunC K x qual st f fd c) (S : FnScope N ps (defScope st)) (len : ∀ vs H Q E, sp vs H Q E → vs.length = ps.length)
    (hbody : ∀ (A : Around) (outer : List Env) (s : Shared) (H : Hp) (vs : List V) (Q : VK) (E : XK), Room k (A.deeper (envOfC qual (defScope st) s.heap.objs.size f (.ref c))) → sp vs H Q E →
      ∃ t, PSs (cxOf (L2.CX P w) P w K mg base N qual (defScope st) f (.ref c) A outer s H E) (defBody st) t ∧ t { nx := fun _ H' => Q .non H', rt := Q } (start N vs) H) : FnOk P w K mg base (L2.CX P w) (k + 1) f fd ps sp := by
  obtain ⟨oc, od, kV, doc, pm, an, ct, osl, rfl, lk, hcd⟩ := F.ex
  exact fn_of lk hcd S len fun A outer s H vs Q E hr hsp => hbody A outer s H vs Q E hr hsp
theorem FunC.binds {K : PySem.W.Frag} {x qual : Str} {st : Stmt} {f c : Addr} {fd : FuncData} {ps : List Str} (F : FunC K x qual st f fd c)
    (h : ∀ (kV doc pm : Value) (an : Option Addr) (ct : Value) (us : List Value), us.length = ps.length → bindArgs (PySem.W.fnOf x qual (defArgs st) (defBody st) (defScope st) .none kV doc pm an (.ref c) ct) ⟨us, []⟩ = pure (ps.zip us)) : Binds K fd ps [] := by
  obtain ⟨oc, od, kV, doc, pm, an, ct, osl, rfl, lk, hcd⟩ := F.ex
  exact .all (h kV doc pm an ct)
theorem exm_of {K : PySem.W.Frag} {C S : Addr} (h1 : PySem.W.subIn K (.ref S) (.type "BaseException") = some true) (h2 : PySem.W.isClsIn K S = true) (h3 : PySem.W.typeIn K (.ref S) = some (.type "type")) (h4 : PySem.W.subIn K (.ref C) (.ref S) = some true) :
    PySem.W.exmOne K (.ref C) (.ref S) = some true := by
  have e1 : (PySem.W.subIn K (.ref S) (.type "BaseException") == some true) = true := by rw [h1] <;> rfl
  have e2 : ((PySem.W.clsIn K S).isSome && PySem.W.typeIn K (.ref S) == some (.type "type")) = true := by
    have h2' : (PySem.W.clsIn K S).isSome = true := h2
    rw [h2', h3] <;> rfl
  show (if (PySem.W.subIn K (.ref S) (.type "BaseException") == some true) = true then (if ((PySem.W.clsIn K S).isSome && PySem.W.typeIn K (.ref S) == some (.type "type")) = true then PySem.W.subIn K (.ref C) (.ref S) else none) else none) = some true
  rw [if_pos e1, if_pos e2]
  exact h4

/-! ### generator expressions -/
theorem sm_tabbed {T : Tb} {H H' : Hp} {P : Addr} (hn : (T.map (·.1)).Nodup) (hP : (P, (none : Option Str)) ∈ T) (ht : GxR.TabG H P) (h : GxR.Tabbed P H H') : Sm T H H' := by
  obtain ⟨ps, e, _⟩ := ht
  have ne : ∀ b o, H b = some o → nTbl o → b ≠ P := fun b o q n z => by
    rw [z, e] at q
    cases q
    exact n
  refine ⟨fun b o q n => by rw [h.2 b (ne b o q n)]; exact q, fun k p hp => ?_, fun l hl => ?_⟩
  · by_cases hb : p.1 = P
    · have ep : p = (P, none) := by
        obtain ⟨i, hi, e1⟩ := List.getElem_of_mem hp
        obtain ⟨j, hj, e2⟩ := List.getElem_of_mem hP
        have hij : i = j := by
          have a1 : (T.map (·.1))[i]? = some P := by rw [List.getElem?_map, List.getElem?_eq_getElem hi, e1]; exact congrArg some hb
          have a2 : (T.map (·.1))[j]? = some P := by rw [List.getElem?_map, List.getElem?_eq_getElem hj, e2]; rfl
          exact nd_ix hn a1 a2
        subst hij
        rw [← e1, e2]
      rw [ep]
      exact h.1
    · have q := k p hp
      obtain ⟨P', w⟩ := p
      have hb : P' ≠ P := hb
      cases w with
      | none =>
        obtain ⟨ps', a1, a2⟩ := (show GxR.TabG H P' from q)
        exact ⟨ps', by rw [h.2 _ hb]; exact a1, a2⟩
      | some w =>
        obtain ⟨ps', a1, a2, a3⟩ := (show LamX.TabS H P' w from q)
        refine ⟨ps', by rw [h.2 _ hb]; exact a1, a2, fun pos cv hc => ?_⟩
        obtain ⟨c, e1, e2⟩ := a3 pos cv hc
        refine ⟨c, e1, ?_⟩
        rw [h.2 c (ne c _ e2 (by unfold LamX.CodeO; trivial))]
        exact e2
  · by_cases z : l = P
    · obtain ⟨ps', a1, _⟩ := h.1
      rw [z, a1] at hl
      cases hl
    · rw [← h.2 l z]
      exact hl
/-- the element of a generator over ints, in the generator's frame -/
def EltI (X : Cx) (scope : Scope) (x : Str) (elt : Expr) (F : Int → Value → Prop) : Prop :=
  ∀ (cenv : Env) (A' : Around) (E' : Value → Shared → Prop) (i : Int) (t : Tok) (s₂ : Shared) (m₂ : Str → Option Value), cenv.scope = scope → cenv.globals = X.env.globals → cenv.builtins = builtinsNs → A'.handled = none → A'.depth ≤ X.A.depth + 1 → A'.units ≤ X.A.units + 8 →
    X.K.In s₂.heap → s₂.heap.NoLimit → s₂.heap.Ns mainGlobals X.mg → (∃ mb, s₂.heap.Ns builtinsNs mb ∧ ∀ y : Str, y ≠ "__name__" → mb y = bootBuiltins y) → s₂.heap.Ns cenv.locals m₂ → m₂ x = some (.int i t) →
    wpAny (model X.prog X.w) A' (eval elt cenv) (fun y s₃ => F i y ∧ Keeps s₂ s₃) E' s₂
/-- over pairs of ints -/
def EltP (X : Cx) (scope : Scope) (xa xb : Str) (elt : Expr) (f : Int → Int → Int) : Prop :=
  ∀ (cenv : Env) (A' : Around) (E' : Value → Shared → Prop) (i j : Int) (t u : Tok) (s₂ : Shared) (m₂ : Str → Option Value), cenv.scope = scope → A'.handled = none →
    (-(2 ^ 64) < i ∧ i < 2 ^ 64) → s₂.heap.Ns cenv.locals m₂ → m₂ xa = some (.int i t) → m₂ xb = some (.int j u) →
    wpAny (model X.prog X.w) A' (eval elt cenv) (fun y s₃ => (∃ v, y = .int (f i j) v) ∧ Keeps s₂ s₃) E' s₂
section
variable {X : Cx} {pins : List (Addr × Obj)} {σ : L2.St} {H : Hp} {s : Shared}
theorem gen_tup {c P : Addr} {elt iter : Expr} {x : Str} {px gpos : Pos} {scope : Scope} {pb : Int → Bool} {te : TE} {k : Nat} {Q' : Value → Shared → Prop} {R : List Int → Hp → Prop}
    (hr : Room k X.A) (TB : GxR.TabB X.base X.mg c P) (hcode : X.env.code = .ref c) (S : GxR.GenS X.env scope x) (hi : PE X iter te) (hel : EltI X scope x elt (fun i y => y = .bool (pb i)))
    (hs : ∀ v, genFold iter X.env v = pure v) (I : Inv X pins σ H s) (h : te σ H fun v H1 => ∃ (a : Addr) (ns : List Int), v = .ref a ∧ SqT X.K H1 a (ns.map V.int) ∧ GxR.TabG H1 P ∧ R ns H1)
    (hQ : ∀ ns H1 g s5, R ns H1 → (∃ (fp wr : List Addr) (G : Array GenState → Array GenState → Prop) (F : Nat → Value → Prop) (St : Nat → Shared → Prop),
      WalksS X.prog X.w X.A.in1 g fp wr G ns.length F St ∧ St 0 s5 ∧ TruthOf X.prog X.w X.A.in1 F (fun j => (ns.map pb).getD j false) ∧ ∀ s', Moved wr G s5 s' → ∃ H2, GxR.Tabbed P H1 H2 ∧ Inv X pins σ H2 s') → Q' (.ref g) s5) :
    wpAny (model X.prog X.w) X.A (eval (.GeneratorExp elt [⟨.Name x px, iter, [], 0⟩] scope gpos) X.env) Q' X.xe s := by
  refine wpAny_GeneratorExp_walksQD hr.hd S.co (closure_ok S.free) S.cell S.dot S.loc S.kind (by have := hr.dp; omega) ?_ hs
  refine thn (hi.run pins s σ H _ I h) fun xv s1 ⟨v, H1, I1, r1, q1⟩ => ?_
  obtain ⟨a, ns, rfl, hS, ⟨ps, hP, ht⟩, q1⟩ := q1
  cases r1
  obtain ⟨its, rv, hTup, hz⟩ := I1.tuple hS
  have hT : s1.heap.IsTuple a its.toArray := let ⟨o, ho, hc, n, hd⟩ := hTup; ⟨o, ho, hc, n, hd⟩
  have hlt : a < s1.heap.objs.size := by obtain ⟨_, e, _⟩ := hT; exact Heap.lt_size e
  refine wpAny_pyIter_tuple hT ?_
  have hPs : s1.heap.get? P = some { cls := .none, data := .fields ps } := I1.hok P _ hP
  have hPlt : P < s1.heap.objs.size := Heap.lt_size hPs
  let o : Obj := { cls := .type "tuple_iterator", data := .fields #[.ref a, .int 0 0] }
  show (s1.heap.push o).NoLimit ∧ _
  have hP2 : (s1.heap.push o).get? P = some { cls := .none, data := .fields ps } := Heap.get?_push_of_some _ hPs
  have cd : PySem.W.CodeHd (s1.heap.push o) c P := TB.code.keeps fun b u e => Heap.get?_push_of_some _ (I1.bk b u e)
  have lim2 : (s1.heap.push o).NoLimit := I1.nolimit.push o
  have hni : ∀ (i : Nat) (v : Value), its.toArray[i]? = some v → ∃ (z : Int) (t : Tok), ns[i]? = some z ∧ v = .int z t := fun i v hv => by
    have hv' : its[i]? = some v := by simpa using hv
    have hl : i < (ns.map V.int).length := by
      rw [rv.length]
      exact (List.getElem?_eq_some_iff.mp hv').1
    obtain ⟨u, hu, ru⟩ := rv.get (List.getElem?_eq_getElem hl)
    rw [hv'] at hu
    cases hu
    rw [List.length_map] at hl
    rw [List.getElem_map] at ru
    obtain ⟨t, e⟩ := ru
    exact ⟨ns[i], t, List.getElem?_eq_getElem hl, e⟩
  have cont : ∀ (code : Value) (h3 : Heap) (tk : Nat) (ps' : Array Value), Heap.ExtBut P (s1.heap.push o) h3 → (s1.heap.push o).objs.size ≤ h3.objs.size → h3.get? P = some { cls := .none, data := .fields ps' } → (∃ more, ps' = ps ++ more) → TriplesOk ps'.toList →
      wpAny (model X.prog X.w) X.A (builtinsFor X.env.globals X.env.builtins) (fun bi s₄ =>
        ∃ Ia fp wr n₀ Pf St₀ pz F, Value.ref s1.heap.objs.size = .ref Ia ∧ (∀ A' : Around, A'.handled = none → Walks X.prog X.w A' Ia fp wr n₀ Pf St₀) ∧ St₀ 0 s₄.heap ∧ (∀ b ∈ fp, b < s₄.heap.objs.size) ∧ s₄.heap.NoLimit ∧ cStatics ∉ wr ∧
          (∀ href : Heap, (∀ b o, s₄.heap.get? b = some o → href.get? b = some o) →
            QuietGenD X.prog X.w (genEnv scope (cloFrom X.env.cells scope.names []) s₄.heap.objs.size code bi X.env) x [] elt (List.range s₄.heap.objs.size) wr Pf pz F href (X.A.depth + 1) (X.A.units + 8)) ∧
          (∀ a h₅ tk gs, gs.bare = true → s₄.heap.objs.size < a → h₅.objs.size = a + 1 → (∀ b o, s₄.heap.get? b = some o → h₅.get? b = some o) →
            WalksS X.prog X.w X.A.in4 a (a :: s₄.heap.objs.size :: List.range s₄.heap.objs.size) (s₄.heap.objs.size :: wr) (GenOnlyQ s₄.gens.size) (passing pz n₀ 0).length
              (fun j y => ∃ i, (passing pz n₀ 0)[j]? = some i ∧ F i y) (GenAt X.prog X.w X.A.in4 a s₄.gens.size s₄.heap.objs.size (List.range s₄.heap.objs.size) wr pz n₀ F) →
            GenAt X.prog X.w X.A.in4 a s₄.gens.size s₄.heap.objs.size (List.range s₄.heap.objs.size) wr pz n₀ F 0 { s₄ with gens := s₄.gens.push gs, toks := tk, heap := h₅ } →
            Q' (.ref a) { s₄ with gens := s₄.gens.push gs, toks := tk, heap := h₅ })) X.xe { s1 with heap := h3, toks := tk } := by
    intro code h3 tk ps' hx hsz hP3 hmore ht3
    obtain ⟨bm, ob, e1, e2, e3, e4, e5, e6, e7, e8⟩ := TB.bm
    have hcP : cStatics ≠ P := fun e => by
      obtain ⟨_, hns, _⟩ := I1.nolimit
      obtain ⟨o', es, ep, ho, hd, _⟩ := hns
      rw [e, hPs] at ho
      cases ho
      cases hd
    have hcl : cStatics < s1.heap.objs.size := let ⟨_, hns, _⟩ := I1.nolimit; hns.lt
    have sz2 : (s1.heap.push o).objs.size = s1.heap.objs.size + 1 := Heap.size_push ..
    have keep3 : ∀ b u, b ≠ P → s1.heap.get? b = some u → h3.get? b = some u := fun b u hb e => hx b u hb (Heap.get?_push_of_some _ e)
    have glob3 : h3.Ns X.env.globals X.mg := by rw [I1.ok.glob]; exact ((I1.mod.glob.keeps I1.bk).push o).extBut hx TB.gP
    refine wpAny_builtinsFor (m := X.mg) glob3 e1 e2 (keep3 _ _ e4 (I1.bk _ _ e5)) e6 e7 e8 ?_
    have haP : a ≠ P := fun e => by
      obtain ⟨o', ho', hc', _⟩ := hT
      rw [e, hPs] at ho'
      cases ho'
      cases hc'
    refine ⟨s1.heap.objs.size, [s1.heap.objs.size, a], [s1.heap.objs.size], its.toArray.size, (fun i v => its.toArray[i]? = some v), (fun i h => h.IsTupleIter s1.heap.objs.size a i ∧ h.IsTuple a its.toArray), (fun _ => true), (fun i y => ∃ z, ns[i]? = some z ∧ y = .bool (pb z)), rfl, fun A' hA => Walks.tuple hA _ _ (Nat.ne_of_lt hlt) its.toArray, ?_, ?_, lim2.extBut hx hcP, ?_, ?_, ?_⟩
    · have h0 : (s1.heap.push o).IsTupleIter s1.heap.objs.size a 0 ∧ (s1.heap.push o).IsTuple a its.toArray := ⟨⟨_, Heap.get?_push_size _ rfl, rfl, rfl⟩, hT.push _⟩
      refine (Walks.tuple (prog := X.prog) (w := X.w) hr.hd _ _ (Nat.ne_of_lt hlt) its.toArray).frame _ _ _ h0 fun b hb u e => hx b u (fun z => ?_) e
      rcases List.mem_cons.mp hb with z2 | z2
      · exact Nat.ne_of_lt hPlt (z.symm.trans z2)
      · rcases List.mem_cons.mp z2 with z2 | z2
        · exact haP (z2.symm.trans z)
        · cases z2
    · intro b hb
      show b < h3.objs.size
      have sz3 : s1.heap.objs.size + 1 ≤ h3.objs.size := by rw [← sz2]; exact hsz
      rcases List.mem_cons.mp hb with z | z
      · rw [z]
        exact sz3
      · rcases List.mem_cons.mp z with z | z
        · rw [z]
          exact Nat.lt_trans hlt sz3
        · cases z
    · intro z
      rcases List.mem_cons.mp z with z | z
      · exact Nat.ne_of_lt hcl z
      · cases z
    · intro href hhref
      have up : ∀ (s₂ : Shared), (∀ b ∈ List.range h3.objs.size, b ∉ [s1.heap.objs.size] → ∀ o, href.get? b = some o → s₂.heap.get? b = some o) → ∀ b u, b ≠ P → s1.heap.get? b = some u → s₂.heap.get? b = some u := fun s₂ hk b u hb e => by
        have h1 := keep3 b u hb e
        refine hk b (List.mem_range.mpr (Heap.lt_size h1)) (fun z => ?_) u (hhref b u h1)
        rcases List.mem_cons.mp z with z | z
        · rw [z] at e
          exact Nat.lt_irrefl _ (Heap.lt_size e)
        · cases z
      refine ⟨fun A' E' i v s₂ m₂ hA _ _ hPv hn hm hk => ?_, fun A' E' i v s₂ m₂ hA hD hU hPv hp hn hm hk => ?_⟩
      · simp only [List.forIn_nil]
        exact wpAny_pure ⟨rfl, GxR.keeps_refl _⟩
      · obtain ⟨z, t, hz1, rfl⟩ := hni i v hPv
        have u2 := up s₂ hk
        have baseK : ∀ b u, X.base.get? b = some u → b ≠ P → s₂.heap.get? b = some u := fun b u e hb => u2 b u hb (I1.bk b u e)
        have nP : X.base.get? P = none := by
          cases q : X.base.get? P with
          | none => rfl
          | some u =>
            have := (I1.bs P u q).2
            rw [hP] at this
            cases this
        have baseA : ∀ b u, X.base.get? b = some u → s₂.heap.get? b = some u := fun b u e => baseK b u e (fun z => by rw [z, nP] at e; cases e)
        obtain ⟨mb, hb1, hb2⟩ := I1.mod.blt
        exact wpAny_mono (hel _ A' E' z t s₂ m₂ rfl rfl rfl hA hD hU (I1.ok.mod.kin.keeps baseA) (I1.ok.mod.nolimit.keeps baseA) (I1.mod.glob.keeps baseA) ⟨mb, hb1.keeps baseA, hb2⟩ hn hm) (fun y s3 r => ⟨⟨z, hz1, r.1⟩, r.2⟩) fun _ _ e => e
    · intro g h5 tk5 gs hgb hag hsz5 hk5 W5 hat
      simp only [GxR.passing_true, List.length_range] at W5
      have hsize : its.toArray.size = ns.length := by
        have := rv.length
        rw [List.length_map] at this
        rw [List.size_toArray]
        exact this.symm
      rw [hsize] at W5 hat
      refine hQ ns H1 g _ q1 ⟨_, _, _, _, _, W5.in4_1, hat, ?_, fun s' hm => ?_⟩
      · intro j y sj Qj Ej hy hQj
        obtain ⟨i, hij, z, hz1, rfl⟩ := hy
        obtain ⟨hj, ej⟩ := List.getElem?_eq_some_iff.mp hij
        rw [List.getElem_range] at ej
        subst ej
        have e9 : (ns.map pb).getD j false = pb z := by rw [List.getD_eq_getElem?_getD, List.getElem?_map, hz1]; rfl
        have hQ2 : Qj ((ns.map pb).getD j false) sj := hQj
        rw [e9] at hQ2
        exact wpAny_truthy_bool hQ2
      · obtain ⟨more, em⟩ := hmore
        have nwr : ∀ b u, s1.heap.get? b = some u → b ∉ h3.objs.size :: [s1.heap.objs.size] := fun b u e hb => by
          have hl := Heap.lt_size e
          rcases List.mem_cons.mp hb with z | z
          · rw [z] at hl
            have h9 : (h3.objs.size : Nat) < s1.heap.objs.size := hl
            omega
          · rcases List.mem_cons.mp z with z | z
            · rw [z] at hl
              exact Nat.lt_irrefl _ hl
            · cases z
        have J := GxR.inv_tab (more := more) (h' := s'.heap) (g' := s'.gens) (d' := s'.drawn) (t' := s'.toks) I1 hP (fun b u hb e => hm.heap b u (nwr b u e) (hk5 b u (keep3 b u hb e)))
          (by rw [← em]; exact hm.heap P _ (nwr P _ hPs) (hk5 P _ hP3)) (AllBare.movedS (I1.bare.push hgb) hm)
        rw [GxR.sh_eta s1 s' hm.os] at J
        refine ⟨upd H1 P (.tbl (ps ++ more)), ⟨⟨ps ++ more, upd_same, by rw [← em]; exact ht3⟩, fun b hb => upd_ne hb⟩, J⟩
  refine ⟨lim2, ?_⟩
  cases hf : codeAmong gpos ps.toList with
  | none =>
    refine wpAny_genexprCodeX hcode (cd.code hP2 ht) (cd.tab hP2) hf fun c' h' tk hx hge hlt hco' _ htab' _ => ?_
    obtain ⟨o1, vs, f1, tf, fl, tg, inF, tx, tt, op, _, _, _, _, _, _, _, _, _, htr, _⟩ := hco'
    exact cont _ h' tk _ hx (Nat.le_trans hge (Nat.le_of_lt hlt)) htab'.2 ⟨_, rfl⟩ htr
  | some cv =>
    refine wpAny_genexprCode_hit hcode (cd.code hP2 ht) hf ?_
    exact cont cv (s1.heap.push o) s1.toks ps (Heap.ExtBut.refl _ _) (Nat.le_refl _) hP2 ⟨#[], by simp⟩ ht
theorem all_getD (ns : List Int) (pb : Int → Bool) : (List.range ns.length).all (fun j => (ns.map pb).getD j false) = ns.all pb := by
  rw [Bool.eq_iff_iff, List.all_eq_true, List.all_eq_true]
  constructor
  · intro h z hz
    obtain ⟨j, hj, e⟩ := List.getElem_of_mem hz
    have q := h j (List.mem_range.mpr hj)
    rw [List.getD_eq_getElem?_getD, List.getElem?_map, List.getElem?_eq_getElem hj] at q
    rw [← e]
    exact q
  · intro h j hj
    have hj' := List.mem_range.mp hj
    rw [List.getD_eq_getElem?_getD, List.getElem?_map, List.getElem?_eq_getElem hj']
    exact h _ (List.getElem_mem hj')
/-- all(test for x in e), e a tuple of ints -/
def tAllI (K : PySem.W.Frag) (T : Tb) (P : Addr) (pb : Int → Bool) (te : TE) : TE := fun σ H Q => te σ H fun v H1 => ∃ (a : Addr) (ns : List Int), v = .ref a ∧ SqT K H1 a (ns.map V.int) ∧ GxR.TabG H1 P ∧ (Ok T H1 ∧ ∀ H2, Sm T H1 H2 → Q (.bl (ns.all pb)) H2)
theorem pe_allI {T : Tb} {c P : Addr} {elt iter : Expr} {x : Str} {px p pos gpos : Pos} {scope : Scope} {pb : Int → Bool} {te : TE} {k : Nat} (hn : (T.map (·.1)).Nodup) (hPT : (P, (none : Option Str)) ∈ T)
    (hr : Room k X.A) (hg : Gl X "all") (hm : X.mg "all" = none) (hb : bootBuiltins "all" = some (.builtin "all")) (TB : GxR.TabB X.base X.mg c P) (hcode : X.env.code = .ref c) (S : GxR.GenS X.env scope x) (hi : PE X iter te) (hel : EltI X scope x elt (fun i y => y = .bool (pb i)))
    (hs : ∀ v, genFold iter X.env v = pure v)
    (he : starEach [.GeneratorExp elt [⟨.Name x px, iter, [], 0⟩] scope gpos] X.env = (false, eval (.GeneratorExp elt [⟨.Name x px, iter, [], 0⟩] scope gpos) X.env) :: starEach [] X.env := by rfl) :
    PE X (.Call (.Name "all" p) [.GeneratorExp elt [⟨.Name x px, iter, [], 0⟩] scope gpos] [] pos) (tAllI X.K T P pb te) := by
  refine ⟨fun pins s σ H Q I h => ?_⟩
  refine wpAny_Call_Name_kw (ld_blt I hg hm hb ?_)
  refine PyProof.Rows.callWith_builtin1 ?_ he (by rfl)
  rw [he]
  show wpAny _ _ (spliced ((false, eval (.GeneratorExp elt [⟨.Name x px, iter, [], 0⟩] scope gpos) X.env) :: backTo pos (starEach [] X.env))) _ _ s
  refine Calls.spliced_cons (gen_tup (R := fun ns H1 => Ok T H1 ∧ ∀ H2, Sm T H1 H2 → Q (.bl (ns.all pb)) H2) hr TB hcode S hi hel hs I h fun ns H1 g s5 hR hG => ?_)
  obtain ⟨fp, wr, G, F, St, W, hst, htr, hI⟩ := hG
  refine Calls.spliced_nil ?_
  refine call_all_walkS (W.self 0 _ _ _ hst ⟨g, fp, wr, G, _, F, St, _, rfl, W, hst, htr, fun s' hmv => ?_⟩)
  obtain ⟨H2, hT, J⟩ := hI s' hmv
  refine ⟨.bl _, H2, J, rfl, ?_⟩
  rw [all_getD ns pb]
  exact hR.2 H2 (sm_tabbed hn hPT (hR.1 _ hPT) hT)
end
section
variable {X : Cx} {pins : List (Addr × Obj)} {σ : L2.St} {H : Hp} {s : Shared}
/-- a list of pairs of ints -/
def Pairs (K : PySem.W.Frag) (H : Hp) (a : Addr) (ps : List (Int × Int)) : Prop := ∃ vs : List V, SqL K H a vs ∧ vs.length = ps.length ∧ ∀ (i : Nat) (p : Int × Int), ps[i]? = some p → ∃ b, vs[i]? = some (.ref b) ∧ SqT K H b [.int p.1, .int p.2]
theorem Pairs.keep {T : Tb} {K : PySem.W.Frag} {H H' : Hp} {a : Addr} {ps : List (Int × Int)} (h : Pairs K H a ps) (s : Sm T H H') : Pairs K H' a ps := by
  obtain ⟨vs, h1, h2, h3⟩ := h
  refine ⟨vs, s.seq h1, h2, fun i p e => ?_⟩
  obtain ⟨b, e1, e2⟩ := h3 i p e
  exact ⟨b, e1, same_tup s e2⟩
theorem gen_pairs {c P : Addr} {elt iter : Expr} {xa xb : Str} {pa pb pt gpos : Pos} {kt : Nat} {scope : Scope} {f : Int → Int → Int} {te : TE} {k : Nat} {Q' : Value → Shared → Prop} {R : List (Int × Int) → Hp → Prop}
    (hr : Room k X.A) (TB : GxR.TabB X.base X.mg c P) (hcode : X.env.code = .ref c) (S : GxR.GenS X.env scope xa) (hxb : scope.names.lookup xb = some .local) (hab : xa ≠ xb) (hi : PE X iter te) (hel : EltP X scope xa xb elt f)
    (hs : ∀ v, genFold iter X.env v = pure v) (I : Inv X pins σ H s) (h : te σ H fun v H1 => ∃ (a : Addr) (qs : List (Int × Int)), v = .ref a ∧ Pairs X.K H1 a qs ∧ (∀ q ∈ qs, -(2 ^ 64) < q.1 ∧ q.1 < 2 ^ 64) ∧ GxR.TabG H1 P ∧ R qs H1)
    (hQ : ∀ qs H1 g s5, R qs H1 → (∃ (fp wr : List Addr) (G : Array GenState → Array GenState → Prop) (F : Nat → Value → Prop) (St : Nat → Shared → Prop),
      WalksS X.prog X.w X.A.in1 g fp wr G qs.length F St ∧ St 0 s5 ∧ (∀ b ∈ fp, b < s5.heap.objs.size) ∧ (∀ i v, F i v → ∃ t, v = .int ((qs.map fun (q : Int × Int) => f q.1 q.2).getD i 0) t) ∧ ∀ s', Moved wr G s5 s' → ∃ H2, GxR.Tabbed P H1 H2 ∧ Inv X pins σ H2 s') → Q' (.ref g) s5) :
    wpAny (model X.prog X.w) X.A (eval (.GeneratorExp elt [⟨.Tuple [.Name xa pa, .Name xb pb] kt pt, iter, [], 0⟩] scope gpos) X.env) Q' X.xe s := by
  refine wpAny_GeneratorExp_walksQT hr.hd S.co (closure_ok S.free) S.cell S.dot S.loc hxb hab S.kind (by have := hr.dp; omega) ?_ hs
  refine thn (hi.run pins s σ H _ I h) fun xv s1 ⟨v, H1, I1, r1, q1⟩ => ?_
  obtain ⟨a, qs, rfl, ⟨vs, hS, hvl, hvp⟩, hbd, ⟨ps, hP, ht⟩, q1⟩ := q1
  cases r1
  obtain ⟨its, rv, ⟨o0, n0, ho0, hc0, _, hd0⟩, hz⟩ := I1.list hS
  have hL : s1.heap.IsList a its.toArray := ⟨o0, ho0, hc0, n0, hd0⟩
  have hlt : a < s1.heap.objs.size := Heap.lt_size ho0
  have hlen : its.toArray.size = qs.length := by rw [List.size_toArray, ← rv.length, hvl]
  have hpair : ∀ j, j < its.toArray.size → ∃ (b : Addr) (t u : Tok) (q : Int × Int), qs[j]? = some q ∧ its.toArray[j]? = some (.ref b) ∧ s1.heap.IsTuple b #[.int q.1 t, .int q.2 u] := fun j hj => by
    have hj' : j < qs.length := by rw [← hlen]; exact hj
    obtain ⟨b, e1, e2⟩ := hvp j _ (List.getElem?_eq_getElem hj')
    obtain ⟨u', hu, ru⟩ := rv.get e1
    obtain rfl : u' = Value.ref b := ru
    obtain ⟨its2, rv2, ⟨o2, ho2, hc2, n2, hd2⟩, _⟩ := I1.tuple e2
    cases rv2 with
    | cons r1 rr =>
      cases rr with
      | cons r2 rn =>
        cases rn
        obtain ⟨t1, rfl⟩ := r1
        obtain ⟨t2, rfl⟩ := r2
        exact ⟨b, t1, t2, qs[j], List.getElem?_eq_getElem hj', by simpa using hu, ⟨o2, ho2, hc2, n2, hd2⟩⟩
  refine wpAny_pyIter_list hL ?_
  have hPs : s1.heap.get? P = some { cls := .none, data := .fields ps } := I1.hok P _ hP
  have hPlt : P < s1.heap.objs.size := Heap.lt_size hPs
  let o : Obj := { cls := .type "list_iterator", data := .fields #[.ref a, .int 0 0] }
  show (s1.heap.push o).NoLimit ∧ _
  have hP2 : (s1.heap.push o).get? P = some { cls := .none, data := .fields ps } := Heap.get?_push_of_some _ hPs
  have cd : PySem.W.CodeHd (s1.heap.push o) c P := TB.code.keeps fun b u e => Heap.get?_push_of_some _ (I1.bk b u e)
  have lim2 : (s1.heap.push o).NoLimit := I1.nolimit.push o
  let Ts : Nat → Addr := fun j => match its.toArray[j]? with | some (.ref b) => b | _ => 0
  have hTs : ∀ j, j < its.toArray.size → its.toArray[j]? = some (.ref (Ts j)) := fun j hj => by
    obtain ⟨b, t, u, q, _, e, _⟩ := hpair j hj
    show _ = some (Value.ref (match its.toArray[j]? with | some (.ref b) => b | _ => 0))
    rw [e]
  have hvals : ∃ vals : Nat → Array Value, ∀ j, j < its.toArray.size → s1.heap.IsTuple (Ts j) (vals j) ∧ ∃ (t u : Tok) (q : Int × Int), qs[j]? = some q ∧ vals j = #[.int q.1 t, .int q.2 u] := by
    have : ∀ j, ∃ va : Array Value, j < its.toArray.size → s1.heap.IsTuple (Ts j) va ∧ ∃ (t u : Tok) (q : Int × Int), qs[j]? = some q ∧ va = #[.int q.1 t, .int q.2 u] := fun j => by
      by_cases hj : j < its.toArray.size
      · obtain ⟨b, t, u, q, e1, e, e2⟩ := hpair j hj
        have eb : Ts j = b := by
          have := hTs j hj
          rw [e] at this
          cases this
          rfl
        exact ⟨_, fun _ => ⟨by rw [eb]; exact e2, t, u, q, e1, rfl⟩⟩
      · exact ⟨#[], fun z => absurd z hj⟩
    exact ⟨fun j => Classical.choose (this j), fun j hj => Classical.choose_spec (this j) hj⟩
  obtain ⟨vals, hvals⟩ := hvals
  have hTlt : ∀ j, j < its.toArray.size → Ts j < s1.heap.objs.size := fun j hj => by
    obtain ⟨⟨o', ho', _⟩, _⟩ := hvals j hj
    exact Heap.lt_size ho'
  have W : ∀ A' : Around, A'.handled = none → WalksU X.prog X.w A' s1.heap.objs.size (s1.heap.objs.size :: a :: (List.range its.toArray.size).map Ts) [s1.heap.objs.size] its.toArray.size (fun j v => j < its.toArray.size ∧ v = vals j) _ _ :=
    fun A' hA => (WalksU.listOfTuples (prog := X.prog) (w := X.w) hA s1.heap.objs.size a (Nat.ne_of_lt hlt) its.toArray Ts vals hTs (fun j hj => Nat.ne_of_lt (hTlt j hj))).bound
  have notP : ∀ b, b ∈ s1.heap.objs.size :: a :: (List.range its.toArray.size).map Ts → b ≠ P := fun b hb z => by
    rcases List.mem_cons.mp hb with z2 | z2
    · exact Nat.ne_of_lt hPlt (z.symm.trans z2)
    · rcases List.mem_cons.mp z2 with z2 | z2
      · rw [← z, z2, ho0] at hPs
        cases hPs
        cases hc0
      · obtain ⟨j, hj, e⟩ := List.mem_map.mp z2
        obtain ⟨⟨o', ho', hc', _⟩, _⟩ := hvals j (List.mem_range.mp hj)
        rw [e, z, hPs] at ho'
        cases ho'
        cases hc'
  have cont : ∀ (code : Value) (h3 : Heap) (tk : Nat) (ps' : Array Value), Heap.ExtBut P (s1.heap.push o) h3 → (s1.heap.push o).objs.size ≤ h3.objs.size → h3.get? P = some { cls := .none, data := .fields ps' } → (∃ more, ps' = ps ++ more) → TriplesOk ps'.toList →
      wpAny (model X.prog X.w) X.A (builtinsFor X.env.globals X.env.builtins) (fun bi s₄ =>
        ∃ Ia fp wr n₀ Pt St₀ Mid pz F, Value.ref s1.heap.objs.size = .ref Ia ∧ (∀ A' : Around, A'.handled = none → WalksU X.prog X.w A' Ia fp wr n₀ Pt St₀ Mid) ∧ (∀ i vals, Pt i vals → ∃ va vb, vals = #[va, vb]) ∧ St₀ 0 s₄.heap ∧ (∀ b ∈ fp, b < s₄.heap.objs.size) ∧ s₄.heap.NoLimit ∧ cStatics ∉ wr ∧
          (∀ href : Heap, (∀ b o, s₄.heap.get? b = some o → href.get? b = some o) →
            QuietGenT X.prog X.w (genEnv scope (cloFrom X.env.cells scope.names []) s₄.heap.objs.size code bi X.env) xa xb [] elt (List.range s₄.heap.objs.size) wr Pt pz F href) ∧
          (∀ a h₅ tk gs, gs.bare = true → s₄.heap.objs.size < a → h₅.objs.size = a + 1 → (∀ b o, s₄.heap.get? b = some o → h₅.get? b = some o) →
            WalksS X.prog X.w X.A.in4 a (a :: s₄.heap.objs.size :: List.range s₄.heap.objs.size) (s₄.heap.objs.size :: wr) (GenOnlyQ s₄.gens.size) (passing pz n₀ 0).length
              (fun j y => ∃ i, (passing pz n₀ 0)[j]? = some i ∧ F i y) (GenAt X.prog X.w X.A.in4 a s₄.gens.size s₄.heap.objs.size (List.range s₄.heap.objs.size) wr pz n₀ F) →
            GenAt X.prog X.w X.A.in4 a s₄.gens.size s₄.heap.objs.size (List.range s₄.heap.objs.size) wr pz n₀ F 0 { s₄ with gens := s₄.gens.push gs, toks := tk, heap := h₅ } →
            Q' (.ref a) { s₄ with gens := s₄.gens.push gs, toks := tk, heap := h₅ })) X.xe { s1 with heap := h3, toks := tk } := by
    intro code h3 tk ps' hx hsz hP3 hmore ht3
    obtain ⟨bm, ob, e1, e2, e3, e4, e5, e6, e7, e8⟩ := TB.bm
    have hcP : cStatics ≠ P := fun e => by
      obtain ⟨_, hns, _⟩ := I1.nolimit
      obtain ⟨o', es, ep, ho, hd, _⟩ := hns
      rw [e, hPs] at ho
      cases ho
      cases hd
    have hcl : cStatics < s1.heap.objs.size := let ⟨_, hns, _⟩ := I1.nolimit; hns.lt
    have sz2 : (s1.heap.push o).objs.size = s1.heap.objs.size + 1 := Heap.size_push ..
    have sz3 : s1.heap.objs.size + 1 ≤ h3.objs.size := by rw [← sz2]; exact hsz
    have keep3 : ∀ b u, b ≠ P → s1.heap.get? b = some u → h3.get? b = some u := fun b u hb e => hx b u hb (Heap.get?_push_of_some _ e)
    have glob3 : h3.Ns X.env.globals X.mg := by rw [I1.ok.glob]; exact ((I1.mod.glob.keeps I1.bk).push o).extBut hx TB.gP
    refine wpAny_builtinsFor (m := X.mg) glob3 e1 e2 (keep3 _ _ e4 (I1.bk _ _ e5)) e6 e7 e8 ?_
    refine ⟨s1.heap.objs.size, _, [s1.heap.objs.size], its.toArray.size, _, _, _, (fun _ => true), (fun i y => ∃ q t, qs[i]? = some q ∧ y = .int (f q.1 q.2) t), rfl, W, ?_, ?_, ?_, lim2.extBut hx hcP, ?_, ?_, ?_⟩
    · rintro i va ⟨hi', rfl⟩
      obtain ⟨_, t, u, q, _, e⟩ := hvals i hi'
      exact ⟨_, _, e⟩
    · have h0 : (s1.heap.push o).IsListIter s1.heap.objs.size a 0 ∧ (s1.heap.push o).IsList a its.toArray ∧ ∀ k, k < its.toArray.size → (s1.heap.push o).IsTuple (Ts k) (vals k) :=
        ⟨⟨_, Heap.get?_push_size _ rfl, rfl, rfl⟩, hL.push _, fun k hk => (hvals k hk).1.push _⟩
      exact (W X.A hr.hd).frame _ _ _ h0 fun b hb u e => hx b u (notP b hb) e
    · intro b hb
      show b < h3.objs.size
      rcases List.mem_cons.mp hb with z | z
      · rw [z]
        exact sz3
      · rcases List.mem_cons.mp z with z | z
        · rw [z]
          exact Nat.lt_trans hlt sz3
        · obtain ⟨j, hj, e⟩ := List.mem_map.mp z
          rw [← e]
          exact Nat.lt_trans (hTlt j (List.mem_range.mp hj)) sz3
    · intro z
      rcases List.mem_cons.mp z with z | z
      · exact Nat.ne_of_lt hcl z
      · cases z
    · intro href hhref
      refine ⟨fun A' E' i va vb s₂ m₂ hA hPv hn hma hmb hk => ?_, fun A' E' i va vb s₂ m₂ hA hPv hp hn hma hmb hk => ?_⟩
      · simp only [List.forIn_nil]
        exact wpAny_pure ⟨rfl, GxR.keeps_refl _⟩
      · obtain ⟨hi', ev⟩ := hPv
        obtain ⟨_, t, u, q, hq, e⟩ := hvals i hi'
        rw [e] at ev
        obtain ⟨rfl, rfl⟩ : va = .int q.1 t ∧ vb = .int q.2 u := by simpa using congrArg Array.toList ev
        exact wpAny_mono (hel _ A' E' q.1 q.2 t u s₂ m₂ rfl hA (hbd q (List.mem_of_getElem? hq)) hn hma hmb) (fun y s3 r => ⟨let ⟨v, hv⟩ := r.1; ⟨q, v, hq, hv⟩, r.2⟩) fun _ _ e => e
    · intro g h5 tk5 gs hgb hag hsz5 hk5 W5 hat
      simp only [GxR.passing_true, List.length_range] at W5
      rw [hlen] at W5 hat
      refine hQ qs H1 g _ q1 ⟨_, _, _, _, _, W5.in4_1, hat, ?_, ?_, fun s' hm => ?_⟩
      · intro b hb
        show b < h5.objs.size
        have hag' : h3.objs.size < g := hag
        rcases List.mem_cons.mp hb with z | z
        · rw [z, hsz5]
          exact Nat.lt_succ_self _
        · rcases List.mem_cons.mp z with z | z
          · rw [z, hsz5]
            exact Nat.lt_succ_of_lt hag'
          · rw [hsz5]
            exact Nat.lt_succ_of_lt (Nat.lt_trans (List.mem_range.mp z) hag')
      · intro j y hy
        obtain ⟨i, hij, q, t, hq, rfl⟩ := hy
        obtain ⟨hj, ej⟩ := List.getElem?_eq_some_iff.mp hij
        rw [List.getElem_range] at ej
        subst ej
        exact ⟨t, by rw [List.getD_eq_getElem?_getD, List.getElem?_map, hq]; rfl⟩
      · obtain ⟨more, em⟩ := hmore
        have nwr : ∀ b u, s1.heap.get? b = some u → b ∉ h3.objs.size :: [s1.heap.objs.size] := fun b u e hb => by
          have hl := Heap.lt_size e
          rcases List.mem_cons.mp hb with z | z
          · rw [z] at hl
            have h9 : (h3.objs.size : Nat) < s1.heap.objs.size := hl
            omega
          · rcases List.mem_cons.mp z with z | z
            · rw [z] at hl
              exact Nat.lt_irrefl _ hl
            · cases z
        have J := GxR.inv_tab (more := more) (h' := s'.heap) (g' := s'.gens) (d' := s'.drawn) (t' := s'.toks) I1 hP (fun b u hb e => hm.heap b u (nwr b u e) (hk5 b u (keep3 b u hb e)))
          (by rw [← em]; exact hm.heap P _ (nwr P _ hPs) (hk5 P _ hP3)) (AllBare.movedS (I1.bare.push hgb) hm)
        rw [GxR.sh_eta s1 s' hm.os] at J
        refine ⟨upd H1 P (.tbl (ps ++ more)), ⟨⟨ps ++ more, upd_same, by rw [← em]; exact ht3⟩, fun b hb => upd_ne hb⟩, J⟩
  refine ⟨lim2, ?_⟩
  cases hf : codeAmong gpos ps.toList with
  | none =>
    refine wpAny_genexprCodeX hcode (cd.code hP2 ht) (cd.tab hP2) hf fun c' h' tk hx hge hlt hco' _ htab' _ => ?_
    obtain ⟨o1, vs, f1, tf, fl, tg, inF, tx, tt, op, _, _, _, _, _, _, _, _, _, htr, _⟩ := hco'
    exact cont _ h' tk _ hx (Nat.le_trans hge (Nat.le_of_lt hlt)) htab'.2 ⟨_, rfl⟩ htr
  | some cv =>
    refine wpAny_genexprCode_hit hcode (cd.code hP2 ht) hf ?_
    exact cont cv (s1.heap.push o) s1.toks ps (Heap.ExtBut.refl _ _) (Nat.le_refl _) hP2 ⟨#[], by simp⟩ ht
/-- sum(elt for a, b in e), e a list of pairs of ints -/
def tSumP (K : PySem.W.Frag) (T : Tb) (P : Addr) (f : Int → Int → Int) (te : TE) : TE := fun σ H Q => te σ H fun v H1 => ∃ (a : Addr) (qs : List (Int × Int)), v = .ref a ∧ Pairs K H1 a qs ∧ (∀ q ∈ qs, -(2 ^ 64) < q.1 ∧ q.1 < 2 ^ 64) ∧ GxR.TabG H1 P ∧
  ((Ok T H1 ∧ ∀ j, j < qs.length → InLong ((qs.map fun (q : Int × Int) => f q.1 q.2).getD j 0) ∧ InLong (((qs.map fun (q : Int × Int) => f q.1 q.2).take (j + 1)).sum)) ∧ ∀ H2, Sm T H1 H2 → Q (.int (qs.map fun (q : Int × Int) => f q.1 q.2).sum) H2)
theorem pe_sumP {T : Tb} {c P : Addr} {elt iter : Expr} {xa xb : Str} {pa pb pt p pos gpos : Pos} {kt : Nat} {scope : Scope} {f : Int → Int → Int} {te : TE} {k : Nat} (hn : (T.map (·.1)).Nodup) (hPT : (P, (none : Option Str)) ∈ T)
    (hr : Room k X.A) (hg : Gl X "sum") (hm : X.mg "sum" = none) (hb : bootBuiltins "sum" = some (.builtin "sum")) (TB : GxR.TabB X.base X.mg c P) (hcode : X.env.code = .ref c) (S : GxR.GenS X.env scope xa) (hxb : scope.names.lookup xb = some .local) (hab : xa ≠ xb) (hi : PE X iter te) (hel : EltP X scope xa xb elt f)
    (hs : ∀ v, genFold iter X.env v = pure v)
    (he : starEach [.GeneratorExp elt [⟨.Tuple [.Name xa pa, .Name xb pb] kt pt, iter, [], 0⟩] scope gpos] X.env = (false, eval (.GeneratorExp elt [⟨.Tuple [.Name xa pa, .Name xb pb] kt pt, iter, [], 0⟩] scope gpos) X.env) :: starEach [] X.env := by rfl) :
    PE X (.Call (.Name "sum" p) [.GeneratorExp elt [⟨.Tuple [.Name xa pa, .Name xb pb] kt pt, iter, [], 0⟩] scope gpos] [] pos) (tSumP X.K T P f te) := by
  refine ⟨fun pins s σ H Q I h => ?_⟩
  refine wpAny_Call_Name_kw (ld_blt I hg hm hb ?_)
  refine PyProof.Rows.callWith_builtin1 ?_ he (by rfl)
  rw [he]
  show wpAny _ _ (spliced ((false, eval (.GeneratorExp elt [⟨.Tuple [.Name xa pa, .Name xb pb] kt pt, iter, [], 0⟩] scope gpos) X.env) :: backTo pos (starEach [] X.env))) _ _ s
  refine Calls.spliced_cons (gen_pairs (R := fun qs H1 => (Ok T H1 ∧ ∀ j, j < qs.length → InLong ((qs.map fun (q : Int × Int) => f q.1 q.2).getD j 0) ∧ InLong (((qs.map fun (q : Int × Int) => f q.1 q.2).take (j + 1)).sum)) ∧ ∀ H2, Sm T H1 H2 → Q (.int (qs.map fun (q : Int × Int) => f q.1 q.2).sum) H2) hr TB hcode S hxb hab hi hel hs I h fun qs H1 g s5 hR hG => ?_)
  obtain ⟨fp, wr, G, F, St, W, hst, hfp, hval, hI⟩ := hG
  refine Calls.spliced_nil ?_
  refine call_sum_walkS (W.self 0 _ _ _ hst ⟨g, fp, wr, G, _, F, St, (fun i => (qs.map fun (q : Int × Int) => f q.1 q.2).getD i 0), rfl, W, hst, hfp, hval, fun j hj => ⟨(hR.1.2 j hj).1, by rw [preSum_getD]; exact (hR.1.2 j hj).2⟩, fun s' t' hmv => ?_⟩)
  obtain ⟨H2, hT, J⟩ := hI s' hmv
  refine ⟨.int _, H2, J, ⟨t', rfl⟩, ?_⟩
  rw [preSum_getD, show qs.length = (qs.map fun (q : Int × Int) => f q.1 q.2).length by rw [List.length_map], List.take_length]
  exact hR.2 H2 (sm_tabbed hn hPT (hR.1.1 _ hPT) hT)
end
def genB (scope : Scope) (x : Str) : Bool := decide (scope.kind = .function) && !scope.isCoroutine && (scope.names.all fun y => !decide (y.2 = .cell) && !decide (y.2 = .free)) && decide (scope.names.lookup (".0" : Str) = some .local) && decide (scope.names.lookup x = some .local)
theorem gens_by {env : Env} {scope : Scope} {x : Str} (h : genB scope x = true) : GxR.GenS env scope x := by
  unfold genB at h
  simp only [Bool.and_eq_true, Bool.not_eq_true', decide_eq_true_eq, decide_eq_false_iff_not, List.all_eq_true] at h
  obtain ⟨⟨⟨⟨h1, h2⟩, h3⟩, h4⟩, h5⟩ := h
  exact ⟨h1, h2, fun y hy => (h3 y hy).1, h4, h5, fun y hy e => absurd e (h3 y hy).2⟩

/-! ### sum over a tuple of pairs -/
theorem walksU_tup {prog : Program} {w : World} {A : Around} (hd0 : A.handled = none) (J tp : Addr) (hJ : tp ≠ J) (its : Array Value) (Ts : Nat → Addr) (vals : Nat → Array Value)
    (ht : ∀ j, j < its.size → its[j]? = some (.ref (Ts j))) (hn : ∀ j, j < its.size → Ts j ≠ J) :
    WalksU prog w A J (J :: tp :: (List.range its.size).map Ts) [J] its.size (fun j v => v = vals j)
      (fun j h => h.IsTupleIter J tp j ∧ h.IsTuple tp its ∧ ∀ n, n < its.size → h.IsTuple (Ts n) (vals n))
      (fun j Tt h => (j < its.size ∧ Tt = Ts j) ∧ h.IsTupleIter J tp (j + 1) ∧ h.IsTuple tp its ∧ ∀ n, n < its.size → h.IsTuple (Ts n) (vals n)) where
  sub := fun d hd => by
    rw [List.mem_singleton.mp hd]
    exact List.mem_cons_self
  frame := fun _ _ _ q hk => by
    refine ⟨q.1.at fun o e => hk J (by simp) o e, q.2.1.at fun o e => hk tp (by simp) o e, fun n hn' => (q.2.2 n hn').at fun o e => hk (Ts n) ?_ o e⟩
    exact List.mem_cons_of_mem _ (List.mem_cons_of_mem _ (List.mem_map.mpr ⟨n, List.mem_range.mpr hn', rfl⟩))
  item := fun i s Q E hi q hQ => by
    refine wpAny_pyNext_tuple_item q.1 q.2.1 (x := .ref (Ts i)) (ht i hi) fun h' q' b => ?_
    have all' : ∀ n, n < its.size → h'.IsTuple (Ts n) (vals n) := fun n hn' => (q.2.2 n hn').extBut b.extBut (hn n hn')
    refine hQ (Ts i) (vals i) h' s.toks rfl (all' i hi) ⟨⟨hi, rfl⟩, q', q.2.1.extBut b.extBut hJ, all'⟩ fun d o hd e => ?_
    exact b.extBut d o (fun z => hd (by simp [z])) e
  go := fun _ _ _ _ _ s Q _ hm hQ => by
    obtain ⟨o, ho, hc, hd⟩ := hm.2.1
    exact go_of ho hc hd (by decide) (hQ s.heap hm.2 fun _ _ _ e => e)
  apart := fun j Tt _ hm hmem => by
    have e := List.mem_singleton.mp hmem
    exact hn j hm.1.1 (hm.1.2 ▸ e)
  done := fun s Q E q hQ => wpAny_pyNext_tuple_end hd0 q.1 q.2.1 (by simp) fun h' b => hQ h' s.toks fun d o hd e => b d o (fun z => hd (by simp [z])) e
  self := fun _ _ _ _ q hQ => wpAny_pyIter_tupleiter q.1 hQ
section
variable {X : Cx} {pins : List (Addr × Obj)} {σ : L2.St} {H : Hp} {s : Shared}
/-- a tuple of pairs of ints -/
def PairsT (K : PySem.W.Frag) (H : Hp) (a : Addr) (ps : List (Int × Int)) : Prop := ∃ vs : List V, SqT K H a vs ∧ vs.length = ps.length ∧ ∀ (i : Nat) (p : Int × Int), ps[i]? = some p → ∃ b, vs[i]? = some (.ref b) ∧ SqT K H b [.int p.1, .int p.2]
theorem PairsT.keep {T : Tb} {K : PySem.W.Frag} {H H' : Hp} {a : Addr} {ps : List (Int × Int)} (h : PairsT K H a ps) (s : Sm T H H') : PairsT K H' a ps := by
  obtain ⟨vs, h1, h2, h3⟩ := h
  refine ⟨vs, same_tup s h1, h2, fun i p e => ?_⟩
  obtain ⟨b, e1, e2⟩ := h3 i p e
  exact ⟨b, e1, same_tup s e2⟩
theorem gen_pairsT {c P : Addr} {elt iter : Expr} {xa xb : Str} {pa pb pt gpos : Pos} {kt : Nat} {scope : Scope} {f : Int → Int → Int} {te : TE} {k : Nat} {Q' : Value → Shared → Prop} {R : List (Int × Int) → Hp → Prop}
    (hr : Room k X.A) (TB : GxR.TabB X.base X.mg c P) (hcode : X.env.code = .ref c) (S : GxR.GenS X.env scope xa) (hxb : scope.names.lookup xb = some .local) (hab : xa ≠ xb) (hi : PE X iter te) (hel : EltP X scope xa xb elt f)
    (hs : ∀ v, genFold iter X.env v = pure v) (I : Inv X pins σ H s) (h : te σ H fun v H1 => ∃ (a : Addr) (qs : List (Int × Int)), v = .ref a ∧ PairsT X.K H1 a qs ∧ (∀ q ∈ qs, -(2 ^ 64) < q.1 ∧ q.1 < 2 ^ 64) ∧ GxR.TabG H1 P ∧ R qs H1)
    (hQ : ∀ qs H1 g s5, R qs H1 → (∃ (fp wr : List Addr) (G : Array GenState → Array GenState → Prop) (F : Nat → Value → Prop) (St : Nat → Shared → Prop),
      WalksS X.prog X.w X.A.in1 g fp wr G qs.length F St ∧ St 0 s5 ∧ (∀ b ∈ fp, b < s5.heap.objs.size) ∧ (∀ i v, F i v → ∃ t, v = .int ((qs.map fun (q : Int × Int) => f q.1 q.2).getD i 0) t) ∧ ∀ s', Moved wr G s5 s' → ∃ H2, GxR.Tabbed P H1 H2 ∧ Inv X pins σ H2 s') → Q' (.ref g) s5) :
    wpAny (model X.prog X.w) X.A (eval (.GeneratorExp elt [⟨.Tuple [.Name xa pa, .Name xb pb] kt pt, iter, [], 0⟩] scope gpos) X.env) Q' X.xe s := by
  refine wpAny_GeneratorExp_walksQT hr.hd S.co (closure_ok S.free) S.cell S.dot S.loc hxb hab S.kind (by have := hr.dp; omega) ?_ hs
  refine thn (hi.run pins s σ H _ I h) fun xv s1 ⟨v, H1, I1, r1, q1⟩ => ?_
  obtain ⟨a, qs, rfl, ⟨vs, hS, hvl, hvp⟩, hbd, ⟨ps, hP, ht⟩, q1⟩ := q1
  cases r1
  obtain ⟨its, rv, ⟨o0, ho0, hc0, n0, hd0⟩, hz⟩ := I1.tuple hS
  have hL : s1.heap.IsTuple a its.toArray := ⟨o0, ho0, hc0, n0, hd0⟩
  have hlt : a < s1.heap.objs.size := Heap.lt_size ho0
  have hlen : its.toArray.size = qs.length := by rw [List.size_toArray, ← rv.length, hvl]
  have hpair : ∀ j, j < its.toArray.size → ∃ (b : Addr) (t u : Tok) (q : Int × Int), qs[j]? = some q ∧ its.toArray[j]? = some (.ref b) ∧ s1.heap.IsTuple b #[.int q.1 t, .int q.2 u] := fun j hj => by
    have hj' : j < qs.length := by rw [← hlen]; exact hj
    obtain ⟨b, e1, e2⟩ := hvp j _ (List.getElem?_eq_getElem hj')
    obtain ⟨u', hu, ru⟩ := rv.get e1
    obtain rfl : u' = Value.ref b := ru
    obtain ⟨its2, rv2, ⟨o2, ho2, hc2, n2, hd2⟩, _⟩ := I1.tuple e2
    cases rv2 with
    | cons r1 rr =>
      cases rr with
      | cons r2 rn =>
        cases rn
        obtain ⟨t1, rfl⟩ := r1
        obtain ⟨t2, rfl⟩ := r2
        exact ⟨b, t1, t2, qs[j], List.getElem?_eq_getElem hj', by simpa using hu, ⟨o2, ho2, hc2, n2, hd2⟩⟩
  refine wpAny_pyIter_tuple hL ?_
  have hPs : s1.heap.get? P = some { cls := .none, data := .fields ps } := I1.hok P _ hP
  have hPlt : P < s1.heap.objs.size := Heap.lt_size hPs
  let o : Obj := { cls := .type "tuple_iterator", data := .fields #[.ref a, .int 0 0] }
  show (s1.heap.push o).NoLimit ∧ _
  have hP2 : (s1.heap.push o).get? P = some { cls := .none, data := .fields ps } := Heap.get?_push_of_some _ hPs
  have cd : PySem.W.CodeHd (s1.heap.push o) c P := TB.code.keeps fun b u e => Heap.get?_push_of_some _ (I1.bk b u e)
  have lim2 : (s1.heap.push o).NoLimit := I1.nolimit.push o
  let Ts : Nat → Addr := fun j => match its.toArray[j]? with | some (.ref b) => b | _ => 0
  have hTs : ∀ j, j < its.toArray.size → its.toArray[j]? = some (.ref (Ts j)) := fun j hj => by
    obtain ⟨b, t, u, q, _, e, _⟩ := hpair j hj
    show _ = some (Value.ref (match its.toArray[j]? with | some (.ref b) => b | _ => 0))
    rw [e]
  have hvals : ∃ vals : Nat → Array Value, ∀ j, j < its.toArray.size → s1.heap.IsTuple (Ts j) (vals j) ∧ ∃ (t u : Tok) (q : Int × Int), qs[j]? = some q ∧ vals j = #[.int q.1 t, .int q.2 u] := by
    have : ∀ j, ∃ va : Array Value, j < its.toArray.size → s1.heap.IsTuple (Ts j) va ∧ ∃ (t u : Tok) (q : Int × Int), qs[j]? = some q ∧ va = #[.int q.1 t, .int q.2 u] := fun j => by
      by_cases hj : j < its.toArray.size
      · obtain ⟨b, t, u, q, e1, e, e2⟩ := hpair j hj
        have eb : Ts j = b := by
          have := hTs j hj
          rw [e] at this
          cases this
          rfl
        exact ⟨_, fun _ => ⟨by rw [eb]; exact e2, t, u, q, e1, rfl⟩⟩
      · exact ⟨#[], fun z => absurd z hj⟩
    exact ⟨fun j => Classical.choose (this j), fun j hj => Classical.choose_spec (this j) hj⟩
  obtain ⟨vals, hvals⟩ := hvals
  have hTlt : ∀ j, j < its.toArray.size → Ts j < s1.heap.objs.size := fun j hj => by
    obtain ⟨⟨o', ho', _⟩, _⟩ := hvals j hj
    exact Heap.lt_size ho'
  have W : ∀ A' : Around, A'.handled = none → WalksU X.prog X.w A' s1.heap.objs.size (s1.heap.objs.size :: a :: (List.range its.toArray.size).map Ts) [s1.heap.objs.size] its.toArray.size (fun j v => j < its.toArray.size ∧ v = vals j) _ _ :=
    fun A' hA => (walksU_tup (prog := X.prog) (w := X.w) hA s1.heap.objs.size a (Nat.ne_of_lt hlt) its.toArray Ts vals hTs (fun j hj => Nat.ne_of_lt (hTlt j hj))).bound
  have notP : ∀ b, b ∈ s1.heap.objs.size :: a :: (List.range its.toArray.size).map Ts → b ≠ P := fun b hb z => by
    rcases List.mem_cons.mp hb with z2 | z2
    · exact Nat.ne_of_lt hPlt (z.symm.trans z2)
    · rcases List.mem_cons.mp z2 with z2 | z2
      · rw [← z, z2, ho0] at hPs
        cases hPs
        cases hc0
      · obtain ⟨j, hj, e⟩ := List.mem_map.mp z2
        obtain ⟨⟨o', ho', hc', _⟩, _⟩ := hvals j (List.mem_range.mp hj)
        rw [e, z, hPs] at ho'
        cases ho'
        cases hc'
  have cont : ∀ (code : Value) (h3 : Heap) (tk : Nat) (ps' : Array Value), Heap.ExtBut P (s1.heap.push o) h3 → (s1.heap.push o).objs.size ≤ h3.objs.size → h3.get? P = some { cls := .none, data := .fields ps' } → (∃ more, ps' = ps ++ more) → TriplesOk ps'.toList →
      wpAny (model X.prog X.w) X.A (builtinsFor X.env.globals X.env.builtins) (fun bi s₄ =>
        ∃ Ia fp wr n₀ Pt St₀ Mid pz F, Value.ref s1.heap.objs.size = .ref Ia ∧ (∀ A' : Around, A'.handled = none → WalksU X.prog X.w A' Ia fp wr n₀ Pt St₀ Mid) ∧ (∀ i vals, Pt i vals → ∃ va vb, vals = #[va, vb]) ∧ St₀ 0 s₄.heap ∧ (∀ b ∈ fp, b < s₄.heap.objs.size) ∧ s₄.heap.NoLimit ∧ cStatics ∉ wr ∧
          (∀ href : Heap, (∀ b o, s₄.heap.get? b = some o → href.get? b = some o) →
            QuietGenT X.prog X.w (genEnv scope (cloFrom X.env.cells scope.names []) s₄.heap.objs.size code bi X.env) xa xb [] elt (List.range s₄.heap.objs.size) wr Pt pz F href) ∧
          (∀ a h₅ tk gs, gs.bare = true → s₄.heap.objs.size < a → h₅.objs.size = a + 1 → (∀ b o, s₄.heap.get? b = some o → h₅.get? b = some o) →
            WalksS X.prog X.w X.A.in4 a (a :: s₄.heap.objs.size :: List.range s₄.heap.objs.size) (s₄.heap.objs.size :: wr) (GenOnlyQ s₄.gens.size) (passing pz n₀ 0).length
              (fun j y => ∃ i, (passing pz n₀ 0)[j]? = some i ∧ F i y) (GenAt X.prog X.w X.A.in4 a s₄.gens.size s₄.heap.objs.size (List.range s₄.heap.objs.size) wr pz n₀ F) →
            GenAt X.prog X.w X.A.in4 a s₄.gens.size s₄.heap.objs.size (List.range s₄.heap.objs.size) wr pz n₀ F 0 { s₄ with gens := s₄.gens.push gs, toks := tk, heap := h₅ } →
            Q' (.ref a) { s₄ with gens := s₄.gens.push gs, toks := tk, heap := h₅ })) X.xe { s1 with heap := h3, toks := tk } := by
    intro code h3 tk ps' hx hsz hP3 hmore ht3
    obtain ⟨bm, ob, e1, e2, e3, e4, e5, e6, e7, e8⟩ := TB.bm
    have hcP : cStatics ≠ P := fun e => by
      obtain ⟨_, hns, _⟩ := I1.nolimit
      obtain ⟨o', es, ep, ho, hd, _⟩ := hns
      rw [e, hPs] at ho
      cases ho
      cases hd
    have hcl : cStatics < s1.heap.objs.size := let ⟨_, hns, _⟩ := I1.nolimit; hns.lt
    have sz2 : (s1.heap.push o).objs.size = s1.heap.objs.size + 1 := Heap.size_push ..
    have sz3 : s1.heap.objs.size + 1 ≤ h3.objs.size := by rw [← sz2]; exact hsz
    have keep3 : ∀ b u, b ≠ P → s1.heap.get? b = some u → h3.get? b = some u := fun b u hb e => hx b u hb (Heap.get?_push_of_some _ e)
    have glob3 : h3.Ns X.env.globals X.mg := by rw [I1.ok.glob]; exact ((I1.mod.glob.keeps I1.bk).push o).extBut hx TB.gP
    refine wpAny_builtinsFor (m := X.mg) glob3 e1 e2 (keep3 _ _ e4 (I1.bk _ _ e5)) e6 e7 e8 ?_
    refine ⟨s1.heap.objs.size, _, [s1.heap.objs.size], its.toArray.size, _, _, _, (fun _ => true), (fun i y => ∃ q t, qs[i]? = some q ∧ y = .int (f q.1 q.2) t), rfl, W, ?_, ?_, ?_, lim2.extBut hx hcP, ?_, ?_, ?_⟩
    · rintro i va ⟨hi', rfl⟩
      obtain ⟨_, t, u, q, _, e⟩ := hvals i hi'
      exact ⟨_, _, e⟩
    · have h0 : (s1.heap.push o).IsTupleIter s1.heap.objs.size a 0 ∧ (s1.heap.push o).IsTuple a its.toArray ∧ ∀ k, k < its.toArray.size → (s1.heap.push o).IsTuple (Ts k) (vals k) :=
        ⟨⟨_, Heap.get?_push_size _ rfl, rfl, rfl⟩, hL.push _, fun k hk => (hvals k hk).1.push _⟩
      exact (W X.A hr.hd).frame _ _ _ h0 fun b hb u e => hx b u (notP b hb) e
    · intro b hb
      show b < h3.objs.size
      rcases List.mem_cons.mp hb with z | z
      · rw [z]
        exact sz3
      · rcases List.mem_cons.mp z with z | z
        · rw [z]
          exact Nat.lt_trans hlt sz3
        · obtain ⟨j, hj, e⟩ := List.mem_map.mp z
          rw [← e]
          exact Nat.lt_trans (hTlt j (List.mem_range.mp hj)) sz3
    · intro z
      rcases List.mem_cons.mp z with z | z
      · exact Nat.ne_of_lt hcl z
      · cases z
    · intro href hhref
      refine ⟨fun A' E' i va vb s₂ m₂ hA hPv hn hma hmb hk => ?_, fun A' E' i va vb s₂ m₂ hA hPv hp hn hma hmb hk => ?_⟩
      · simp only [List.forIn_nil]
        exact wpAny_pure ⟨rfl, GxR.keeps_refl _⟩
      · obtain ⟨hi', ev⟩ := hPv
        obtain ⟨_, t, u, q, hq, e⟩ := hvals i hi'
        rw [e] at ev
        obtain ⟨rfl, rfl⟩ : va = .int q.1 t ∧ vb = .int q.2 u := by simpa using congrArg Array.toList ev
        exact wpAny_mono (hel _ A' E' q.1 q.2 t u s₂ m₂ rfl hA (hbd q (List.mem_of_getElem? hq)) hn hma hmb) (fun y s3 r => ⟨let ⟨v, hv⟩ := r.1; ⟨q, v, hq, hv⟩, r.2⟩) fun _ _ e => e
    · intro g h5 tk5 gs hgb hag hsz5 hk5 W5 hat
      simp only [GxR.passing_true, List.length_range] at W5
      rw [hlen] at W5 hat
      refine hQ qs H1 g _ q1 ⟨_, _, _, _, _, W5.in4_1, hat, ?_, ?_, fun s' hm => ?_⟩
      · intro b hb
        show b < h5.objs.size
        have hag' : h3.objs.size < g := hag
        rcases List.mem_cons.mp hb with z | z
        · rw [z, hsz5]
          exact Nat.lt_succ_self _
        · rcases List.mem_cons.mp z with z | z
          · rw [z, hsz5]
            exact Nat.lt_succ_of_lt hag'
          · rw [hsz5]
            exact Nat.lt_succ_of_lt (Nat.lt_trans (List.mem_range.mp z) hag')
      · intro j y hy
        obtain ⟨i, hij, q, t, hq, rfl⟩ := hy
        obtain ⟨hj, ej⟩ := List.getElem?_eq_some_iff.mp hij
        rw [List.getElem_range] at ej
        subst ej
        exact ⟨t, by rw [List.getD_eq_getElem?_getD, List.getElem?_map, hq]; rfl⟩
      · obtain ⟨more, em⟩ := hmore
        have nwr : ∀ b u, s1.heap.get? b = some u → b ∉ h3.objs.size :: [s1.heap.objs.size] := fun b u e hb => by
          have hl := Heap.lt_size e
          rcases List.mem_cons.mp hb with z | z
          · rw [z] at hl
            have h9 : (h3.objs.size : Nat) < s1.heap.objs.size := hl
            omega
          · rcases List.mem_cons.mp z with z | z
            · rw [z] at hl
              exact Nat.lt_irrefl _ hl
            · cases z
        have J := GxR.inv_tab (more := more) (h' := s'.heap) (g' := s'.gens) (d' := s'.drawn) (t' := s'.toks) I1 hP (fun b u hb e => hm.heap b u (nwr b u e) (hk5 b u (keep3 b u hb e)))
          (by rw [← em]; exact hm.heap P _ (nwr P _ hPs) (hk5 P _ hP3)) (AllBare.movedS (I1.bare.push hgb) hm)
        rw [GxR.sh_eta s1 s' hm.os] at J
        refine ⟨upd H1 P (.tbl (ps ++ more)), ⟨⟨ps ++ more, upd_same, by rw [← em]; exact ht3⟩, fun b hb => upd_ne hb⟩, J⟩
  refine ⟨lim2, ?_⟩
  cases hf : codeAmong gpos ps.toList with
  | none =>
    refine wpAny_genexprCodeX hcode (cd.code hP2 ht) (cd.tab hP2) hf fun c' h' tk hx hge hlt hco' _ htab' _ => ?_
    obtain ⟨o1, vs, f1, tf, fl, tg, inF, tx, tt, op, _, _, _, _, _, _, _, _, _, htr, _⟩ := hco'
    exact cont _ h' tk _ hx (Nat.le_trans hge (Nat.le_of_lt hlt)) htab'.2 ⟨_, rfl⟩ htr
  | some cv =>
    refine wpAny_genexprCode_hit hcode (cd.code hP2 ht) hf ?_
    exact cont cv (s1.heap.push o) s1.toks ps (Heap.ExtBut.refl _ _) (Nat.le_refl _) hP2 ⟨#[], by simp⟩ ht
/-- sum(elt for a, b in e), e a tuple of pairs of ints -/
def tSumPT (K : PySem.W.Frag) (T : Tb) (P : Addr) (f : Int → Int → Int) (te : TE) : TE := fun σ H Q => te σ H fun v H1 => ∃ (a : Addr) (qs : List (Int × Int)), v = .ref a ∧ PairsT K H1 a qs ∧ (∀ q ∈ qs, -(2 ^ 64) < q.1 ∧ q.1 < 2 ^ 64) ∧ GxR.TabG H1 P ∧
  ((Ok T H1 ∧ ∀ j, j < qs.length → InLong ((qs.map fun (q : Int × Int) => f q.1 q.2).getD j 0) ∧ InLong (((qs.map fun (q : Int × Int) => f q.1 q.2).take (j + 1)).sum)) ∧ ∀ H2, Sm T H1 H2 → Q (.int (qs.map fun (q : Int × Int) => f q.1 q.2).sum) H2)
theorem pe_sumPT {T : Tb} {c P : Addr} {elt iter : Expr} {xa xb : Str} {pa pb pt p pos gpos : Pos} {kt : Nat} {scope : Scope} {f : Int → Int → Int} {te : TE} {k : Nat} (hn : (T.map (·.1)).Nodup) (hPT : (P, (none : Option Str)) ∈ T)
    (hr : Room k X.A) (hg : Gl X "sum") (hm : X.mg "sum" = none) (hb : bootBuiltins "sum" = some (.builtin "sum")) (TB : GxR.TabB X.base X.mg c P) (hcode : X.env.code = .ref c) (S : GxR.GenS X.env scope xa) (hxb : scope.names.lookup xb = some .local) (hab : xa ≠ xb) (hi : PE X iter te) (hel : EltP X scope xa xb elt f)
    (hs : ∀ v, genFold iter X.env v = pure v)
    (he : starEach [.GeneratorExp elt [⟨.Tuple [.Name xa pa, .Name xb pb] kt pt, iter, [], 0⟩] scope gpos] X.env = (false, eval (.GeneratorExp elt [⟨.Tuple [.Name xa pa, .Name xb pb] kt pt, iter, [], 0⟩] scope gpos) X.env) :: starEach [] X.env := by rfl) :
    PE X (.Call (.Name "sum" p) [.GeneratorExp elt [⟨.Tuple [.Name xa pa, .Name xb pb] kt pt, iter, [], 0⟩] scope gpos] [] pos) (tSumPT X.K T P f te) := by
  refine ⟨fun pins s σ H Q I h => ?_⟩
  refine wpAny_Call_Name_kw (ld_blt I hg hm hb ?_)
  refine PyProof.Rows.callWith_builtin1 ?_ he (by rfl)
  rw [he]
  show wpAny _ _ (spliced ((false, eval (.GeneratorExp elt [⟨.Tuple [.Name xa pa, .Name xb pb] kt pt, iter, [], 0⟩] scope gpos) X.env) :: backTo pos (starEach [] X.env))) _ _ s
  refine Calls.spliced_cons (gen_pairsT (R := fun qs H1 => (Ok T H1 ∧ ∀ j, j < qs.length → InLong ((qs.map fun (q : Int × Int) => f q.1 q.2).getD j 0) ∧ InLong (((qs.map fun (q : Int × Int) => f q.1 q.2).take (j + 1)).sum)) ∧ ∀ H2, Sm T H1 H2 → Q (.int (qs.map fun (q : Int × Int) => f q.1 q.2).sum) H2) hr TB hcode S hxb hab hi hel hs I h fun qs H1 g s5 hR hG => ?_)
  obtain ⟨fp, wr, G, F, St, W, hst, hfp, hval, hI⟩ := hG
  refine Calls.spliced_nil ?_
  refine call_sum_walkS (W.self 0 _ _ _ hst ⟨g, fp, wr, G, _, F, St, (fun i => (qs.map fun (q : Int × Int) => f q.1 q.2).getD i 0), rfl, W, hst, hfp, hval, fun j hj => ⟨(hR.1.2 j hj).1, by rw [preSum_getD]; exact (hR.1.2 j hj).2⟩, fun s' t' hmv => ?_⟩)
  obtain ⟨H2, hT, J⟩ := hI s' hmv
  refine ⟨.int _, H2, J, ⟨t', rfl⟩, ?_⟩
  rw [preSum_getD, show qs.length = (qs.map fun (q : Int × Int) => f q.1 q.2).length by rw [List.length_map], List.take_length]
  exact hR.2 H2 (sm_tabbed hn hPT (hR.1.1 _ hPT) hT)
end

/-! ### elements of generator expressions, in the model's own words -/
section
variable {X : Cx} {scope : Scope} {xa xb : Str} {p1 p2 p3 : Pos}
theorem ldl {M : Model} {s : Shared} {env : Env} {m : Str → Option Value} {x : Str} {pos : Pos} {v : Value} {Q : Value → Shared → Prop} {A : Around} {E : Value → Shared → Prop} (hk : env.scope.kind = .function) (hl : env.kindOf x = some .local) (hn : s.heap.Ns env.locals m) (hv : m x = some v) (h : Q v s)
    (hd : (x == ("__debug__" : Str)) = false := by decide) : wpAny M A (eval (.Name x pos) env) Q E s := wpAny_Name (wpAny_loadName_local hk hl hn hv h) hd
theorem elt_first (hk : scope.kind = .function) (hl : scope.names.lookup xa = some .local) (hd : (xa == ("__debug__" : Str)) = false := by decide) : EltP X scope xa xb (.Name xa p1) (fun i _ => i) := by
  intro cenv A' E' i j t u s₂ m₂ hs hA hb hn hma hmb
  exact ldl (by rw [hs]; exact hk) (show cenv.scope.names.lookup xa = some .local by rw [hs]; exact hl) hn hma ⟨⟨t, rfl⟩, GxR.keeps_refl _⟩ hd
theorem elt_mul (hk : scope.kind = .function) (hl : scope.names.lookup xa = some .local) (hl2 : scope.names.lookup xb = some .local) (hd : (xa == ("__debug__" : Str)) = false := by decide) (hd2 : (xb == ("__debug__" : Str)) = false := by decide) :
    EltP X scope xa xb (.BinOp (.Name xa p1) .Mult (.Name xb p2) p3) (fun i j => i * j) := by
  intro cenv A' E' i j t u s₂ m₂ hs hA hb hn hma hmb
  refine wpAny_BinOp ?_
  refine ldl (by rw [hs]; exact hk) (show cenv.scope.names.lookup xa = some .local by rw [hs]; exact hl) hn hma ?_ hd
  refine ldl (by rw [hs]; exact hk) (show cenv.scope.names.lookup xb = some .local by rw [hs]; exact hl2) hn hmb ?_ hd2
  exact mul_int ⟨⟨_, rfl⟩, GxR.keeps_tok _ _⟩ (show CMul i j from .inl hb).ok
end
/-- isinstance(x, T) of an int at the name x -/
theorem isi_int {prog : Program} {w : World} {K : PySem.W.Frag} {A : Around} {E : Value → Shared → Prop} {s : Shared} {env : Env} {m mg mb : Str → Option Value} {x T : Str} {Ts : String} {i : Int} {t : Tok} {b : Bool} {q1 q2 q3 q4 : Pos} {Q : Value → Shared → Prop}
    (KX : K.In s.heap) (hk : env.scope.kind = .function) (hl : env.kindOf x = some .local) (hn : s.heap.Ns env.locals m) (hv : m x = some (.int i t)) (hg : s.heap.Ns env.globals mg) (hb : s.heap.Ns env.builtins mb) (hbb : ∀ y : Str, y ≠ "__name__" → mb y = bootBuiltins y)
    (gi : env.kindOf "isinstance" = some .globalImplicit) (gT : env.kindOf T = some .globalImplicit) (mi : mg "isinstance" = none) (mT : mg T = none) (hT : bootBuiltins T = some (.type Ts)) (hTn : T ≠ "__name__") (kt : kitB "int" Ts = some b)
    (h : ∀ tk, Q (.bool b) { s with toks := tk }) (hd : (x == ("__debug__" : Str)) = false) (hdT : (T == ("__debug__" : Str)) = false)
    (he1 : starEach [.Name x q2, .Name T q3] env = (false, eval (.Name x q2) env) :: starEach [.Name T q3] env := by rfl) (he2 : starEach [.Name T q3] env = [(false, eval (.Name T q3) env)] := by rfl) :
    wpAny (model prog w) A (eval (.Call (.Name "isinstance" q1) [.Name x q2, .Name T q3] [] q4) env) Q E s := by
  refine wpAny_Call_Name_kw (Calls.Name_function_global hk gi (Calls.loadGlobal_builtin hg mi hb ((hbb "isinstance" (by decide)).trans (by decide +kernel : bootBuiltins "isinstance" = some (.builtin "isinstance"))) ?_))
  refine PyProof.Rows.callWith_builtin1 ?_ he1 (by rw [he2]; rfl)
  rw [he1, he2]
  show wpAny _ _ (spliced ((false, eval (.Name x q2) env) :: (false, eval (.Name T q3) env) :: [])) _ _ s
  refine Calls.spliced_cons (ldl hk hl hn hv (Calls.spliced_cons (Calls.Name_function_global hk gT (Calls.loadGlobal_builtin hg mT hb ((hbb T hTn).trans hT) (Calls.spliced_nil ?_)) hdT)) hd)
  exact PySem.W.kia_one PySem.W.kitx_int KX True.intro (kit_ty kt) (fun z => nomatch z) h
/-- the text of is_number -/
def numBody (n0 n1 n2 n3 n4 n5 n6 n7 n8 n9 n10 : Pos) : List Stmt := [.Return (some (.BoolOp .And [.Call (.Name "isinstance" n0) [.Name "thing" n1, .Name "int" n2] [] n3, .UnaryOp .Not (.Call (.Name "isinstance" n4) [.Name "thing" n5, .Name "bool" n6] [] n7) n8] n9)) n10]
def numArgs (p : Pos) : Arguments := { posonlyargs := [], args := [{ arg := "thing", annotation := none, pos := p }], vararg := none, kwonlyargs := [], kw_defaults := [], kwarg := none, defaults := [] }
def numScope : Scope := { kind := .function, names := [(PySem.Str.ofString "thing", .local), (PySem.Str.ofString "isinstance", .globalImplicit), (PySem.Str.ofString "int", .globalImplicit), (PySem.Str.ofString "bool", .globalImplicit)], isGenerator := false, isCoroutine := false, more := [] }
/-- what of is_number's text the walk needs -/
def NumAt (K : PySem.W.Frag) (f : Addr) : Prop := ∃ (oc : Value) (od : Option Addr) (kV doc pm : Value) (an : Option Addr) (cdv ct : Value) (osl : Array (Option Value)) (p n0 n1 n2 n3 n4 n5 n6 n7 n8 n9 n10 : Pos),
  K.lookup f = some ⟨oc, od, .func (PySem.W.fnOf "is_number" "is_number" (numArgs p) (numBody n0 n1 n2 n3 n4 n5 n6 n7 n8 n9 n10) numScope .none kV doc pm an cdv ct), osl⟩ ∧ PySem.W.codeIn K cdv "is_number" = true
theorem num_call {prog : Program} {w : World} {K : PySem.W.Frag} {mg mb : Str → Option Value} {A : Around} {E : Value → Shared → Prop} {s : Shared} {f : Addr} {i : Int} {t : Tok} {Q : Value → Shared → Prop} (N : NumAt K f) (KX : K.In s.heap) (hlim : s.heap.NoLimit) (hg : s.heap.Ns mainGlobals mg)
    (hb : s.heap.Ns builtinsNs mb) (hbb : ∀ y : Str, y ≠ "__name__" → mb y = bootBuiltins y) (mi : mg "isinstance" = none) (m1 : mg "int" = none) (m2 : mg "bool" = none) (hroom : A.depth < recursionLimit) (hq : ∀ s', Keeps s s' → Q (.bool true) s') :
    wpAny (model prog w) A (call (.ref f) [.int i t]) Q E s := by
  obtain ⟨oc, od, kV, doc, pm, an, cdv, ct, osl, p, n0, n1, n2, n3, n4, n5, n6, n7, n8, n9, n10, lk, hcd⟩ := N
  refine wpAny_call ?_
  refine Att.call_fn (binds := [("thing", .int i t)]) KX hlim lk hcd hroom (BindsTo.of_eq (by first | rfl | with_unfolding_all rfl)) (by first | rfl | decide | with_unfolding_all rfl) (fun s₁ IC => ?_) rfl rfl rfl
  obtain ⟨h₁, tk₁, rfl⟩ := IC.toInCall.same
  have kp : ∀ b o, s.heap.get? b = some o → h₁.get? b = some o := IC.toInCall.keep
  have hn := IC.toInCall.ns
  show wpAny _ _ (execs _ _) _ _ _
  refine wpAny_execs_cons (wpAny_Return_some ?_)
  refine BoolOp_and ?_
  refine isi_int (mg := mg) (mb := mb) (b := true) (KX.keeps kp) rfl rfl hn (by first | rfl | with_unfolding_all rfl | kernel_rfl) (hg.keeps kp) (hb.keeps kp) hbb rfl rfl mi m1 (by decide +kernel : bootBuiltins "int" = some (.type "int")) (by decide) kb_int_int (fun tk => ?_) (by decide) (by decide)
  refine wpAny_truthy_bool ?_
  show wpAny _ _ (eval (.BoolOp .And [.UnaryOp .Not (.Call (.Name "isinstance" n4) [.Name "thing" n5, .Name "bool" n6] [] n7) n8] n9) _) _ _ _
  refine BoolOp_one (UnaryOp_ ?_)
  refine isi_int (mg := mg) (mb := mb) (b := false) (KX.keeps kp) rfl rfl hn (by first | rfl | with_unfolding_all rfl | kernel_rfl) (hg.keeps kp) (hb.keeps kp) hbb rfl rfl mi m2 (by decide +kernel : bootBuiltins "bool" = some (.type "bool")) (by decide) kb_int_bool (fun tk => ?_) (by decide) (by decide)
  refine not_of (wpAny_truthy_bool ?_)
  exact hq _ ⟨h₁, tk, rfl, kp⟩
/-- the text of is_within -/
def withBody (n0 n1 n2 n3 n4 n5 n6 n7 n8 : Pos) : List Stmt := [.Return (some (.BoolOp .And [.Call (.Name "is_number" n0) [.Name "thing" n1] [] n2, .Compare (.Name "least" n3) [.LtE, .LtE] [.Name "thing" n4, .Name "most" n5] n6] n7)) n8]
def withArgs (p1 p2 p3 : Pos) : Arguments := { posonlyargs := [], args := [{ arg := "thing", annotation := none, pos := p1 }, { arg := "least", annotation := none, pos := p2 }, { arg := "most", annotation := none, pos := p3 }], vararg := none, kwonlyargs := [], kw_defaults := [], kwarg := none, defaults := [] }
def withScope : Scope := { kind := .function, names := [(PySem.Str.ofString "thing", .local), (PySem.Str.ofString "least", .local), (PySem.Str.ofString "most", .local), (PySem.Str.ofString "is_number", .globalImplicit)], isGenerator := false, isCoroutine := false, more := [] }
def WithAt (K : PySem.W.Frag) (f : Addr) : Prop := ∃ (oc : Value) (od : Option Addr) (kV doc pm : Value) (an : Option Addr) (cdv ct : Value) (osl : Array (Option Value)) (p1 p2 p3 n0 n1 n2 n3 n4 n5 n6 n7 n8 : Pos),
  K.lookup f = some ⟨oc, od, .func (PySem.W.fnOf "is_within" "is_within" (withArgs p1 p2 p3) (withBody n0 n1 n2 n3 n4 n5 n6 n7 n8) withScope .none kV doc pm an cdv ct), osl⟩ ∧ PySem.W.codeIn K cdv "is_within" = true
theorem with_call {prog : Program} {w : World} {K : PySem.W.Frag} {mg mb : Str → Option Value} {A : Around} {E : Value → Shared → Prop} {s : Shared} {f fn : Addr} {i l n : Int} {t tl tn : Tok} {Q : Value → Shared → Prop} (Wt : WithAt K f) (N : NumAt K fn) (kN : PySem.W.keepIn K (.ref fn) = true) (gN : mg "is_number" = some (.ref fn)) (KX : K.In s.heap) (hlim : s.heap.NoLimit) (hg : s.heap.Ns mainGlobals mg)
    (hb : s.heap.Ns builtinsNs mb) (hbb : ∀ y : Str, y ≠ "__name__" → mb y = bootBuiltins y) (mi : mg "isinstance" = none) (m1 : mg "int" = none) (m2 : mg "bool" = none) (hroom : A.depth + 1 < recursionLimit) (hq : ∀ s', Keeps s s' → Q (.bool (decide (l ≤ i) && decide (i ≤ n))) s') :
    wpAny (model prog w) A (call (.ref f) [.int i t, .int l tl, .int n tn]) Q E s := by
  obtain ⟨oc, od, kV, doc, pm, an, cdv, ct, osl, p1, p2, p3, n0, n1, n2, n3, n4, n5, n6, n7, n8, lk, hcd⟩ := Wt
  refine wpAny_call ?_
  refine Att.call_fn (binds := [("thing", .int i t), ("least", .int l tl), ("most", .int n tn)]) KX hlim lk hcd (by omega) (BindsTo.of_eq (by first | rfl | with_unfolding_all rfl)) (by first | rfl | decide | with_unfolding_all rfl) (fun s₁ IC => ?_) rfl rfl rfl
  obtain ⟨h₁, tk₁, rfl⟩ := IC.toInCall.same
  have kp : ∀ b o, s.heap.get? b = some o → h₁.get? b = some o := IC.toInCall.keep
  have hn := IC.toInCall.ns
  have hlim1 : h₁.NoLimit := hlim.keeps kp
  have hg1 := hg.keeps kp
  show wpAny _ _ (execs _ _) _ _ _
  refine wpAny_execs_cons (wpAny_Return_some ?_)
  refine BoolOp_and ?_
  refine wpAny_Call_Name_kw (Calls.Name_function_global rfl rfl (Calls.loadGlobal_global hg1 gN ?_))
  refine PySem.W.callWith_K (h₀ := h₁) (KX.keeps kp) kN ?_ (by rfl) (by rfl)
  show wpAny _ _ (spliced ((false, eval (.Name "thing" n1) _) :: [])) _ _ _
  refine Calls.spliced_cons (ldl (v := .int i t) rfl rfl hn (by first | rfl | with_unfolding_all rfl | kernel_rfl) (Calls.spliced_nil ⟨KX.keeps kp, ?_⟩) (by decide))
  refine num_call N (KX.keeps kp) hlim1 hg1 (hb.keeps kp) hbb mi m1 m2 (by show A.depth + 1 < _; omega) (fun s' hks => ?_)
  obtain ⟨h', tk', rfl, hkp⟩ := hks
  refine wpAny_truthy_bool ?_
  show wpAny _ _ (eval (.BoolOp .And [.Compare (.Name "least" n3) [.LtE, .LtE] [.Name "thing" n4, .Name "most" n5] n6] n7) _) _ _ _
  refine BoolOp_one ?_
  have kp2 : ∀ b o, s.heap.get? b = some o → h'.get? b = some o := fun b o e => hkp b o (kp b o e)
  refine Compare_chain (ldl (v := .int l tl) rfl rfl (hn.keeps hkp) (by first | rfl | with_unfolding_all rfl | kernel_rfl) (chain_link (ldl (v := .int i t) rfl rfl (hn.keeps hkp) (by first | rfl | with_unfolding_all rfl | kernel_rfl) (le_int (wpAny_truthy_bool ?_)) (by decide))) (by decide)) (by with_unfolding_all rfl)
  by_cases h1 : l ≤ i
  · rw [if_pos (decide_eq_true h1)]
    refine chain_last (ldl (v := .int n tn) rfl rfl (hn.keeps hkp) (by first | rfl | with_unfolding_all rfl | kernel_rfl) ?_ (by decide))
    refine le_int ?_
    have := hq ⟨h', s.gens, s.drawn, tk', s.os⟩ ⟨h', tk', rfl, kp2⟩
    rw [decide_eq_true h1, Bool.true_and] at this
    exact this
  · rw [if_neg (fun z => h1 (of_decide_eq_true z))]
    have := hq ⟨h', s.gens, s.drawn, tk', s.os⟩ ⟨h', tk', rfl, kp2⟩
    rw [decide_eq_false h1, Bool.false_and] at this
    show _
    rw [decide_eq_false h1]
    exact this
/-- is_within(x, 1, MOST) -/
theorem elt_num {X : Cx} {scope : Scope} {x M : Str} {f fn : Addr} {n : Int} {tn : Tok} {q0 q1 q2 q3 q4 : Pos} {k : Nat} (hr : Room k X.A) (Wt : WithAt X.K f) (kW : PySem.W.keepIn X.K (.ref f) = true) (gW : X.mg "is_within" = some (.ref f)) (N : NumAt X.K fn) (kp : PySem.W.keepIn X.K (.ref fn) = true) (gf : X.mg "is_number" = some (.ref fn)) (gM : X.mg M = some (.int n tn)) (hglob : X.env.globals = mainGlobals)
    (mi : X.mg "isinstance" = none) (m1 : X.mg "int" = none) (m2 : X.mg "bool" = none) (hk : scope.kind = .function) (hl : scope.names.lookup x = some .local) (hf : scope.names.lookup ("is_within" : Str) = some .globalImplicit) (hM : scope.names.lookup M = some .globalImplicit)
    (hd : (x == ("__debug__" : Str)) = false := by decide) (hdM : (M == ("__debug__" : Str)) = false := by decide) :
    EltI X scope x (.Call (.Name "is_within" q0) [.Name x q1, .Constant (.int 1) 0 q2, .Name M q3] [] q4) (fun i y => y = .bool (decide (1 ≤ i) && decide (i ≤ n))) := by
  intro cenv A' E' i t s₂ m₂ hs hG hB hA hD hU KX hlim hg hbl hn hm
  obtain ⟨mb, hb, hbb⟩ := hbl
  have hk' : cenv.scope.kind = .function := by rw [hs]; exact hk
  have hl' : cenv.kindOf x = some .local := show cenv.scope.names.lookup x = some .local by rw [hs]; exact hl
  have hf' : cenv.kindOf "is_within" = some .globalImplicit := show cenv.scope.names.lookup ("is_within" : Str) = _ by rw [hs]; exact hf
  have hM' : cenv.kindOf M = some .globalImplicit := show cenv.scope.names.lookup M = _ by rw [hs]; exact hM
  have hg' : s₂.heap.Ns cenv.globals X.mg := by rw [hG, hglob]; exact hg
  refine wpAny_Call_Name_kw (Calls.Name_function_global hk' hf' (Calls.loadGlobal_global hg' gW ?_))
  refine PySem.W.callWith_K (h₀ := s₂.heap) KX kW ?_ (by rfl) (by rfl)
  show wpAny _ _ (spliced ((false, eval (.Name x q1) cenv) :: (false, eval (.Constant (.int 1) 0 q2) cenv) :: (false, eval (.Name M q3) cenv) :: [])) _ _ s₂
  refine Calls.spliced_cons (ldl hk' hl' hn hm (Calls.spliced_cons (wpAny_Constant_int (Calls.spliced_cons (Calls.Name_function_global hk' hM' (Calls.loadGlobal_global hg' gM (Calls.spliced_nil ⟨KX, ?_⟩)) hdM)))) hd)
  exact with_call Wt N kp gf KX hlim hg hb hbb mi m1 m2 (by have := hr.dp; omega) (fun s' hks => ⟨rfl, hks⟩)

/-! ### x(lambda: body), the tables kept -/
theorem sm_lam {T : Tb} {H H' : Hp} {P : Addr} {q : Str} (hn : (T.map (·.1)).Nodup) (hP : (P, some q) ∈ T) (ht : LamX.TabS H P q) (h1 : LamX.TabS H' P q) (h2 : ∀ b o, b ≠ P → H b = some o → H' b = some o) : Sm T H H' := by
  obtain ⟨ps, e, _⟩ := ht
  have ne : ∀ b o, H b = some o → nTbl o → b ≠ P := fun b o q n z => by
    rw [z, e] at q
    cases q
    exact n
  refine ⟨fun b o q n => h2 b o (ne b o q n) q, fun k p hp => ?_, fun l hl => ?_⟩
  · by_cases hb : p.1 = P
    · have ep : p = (P, some q) := by
        obtain ⟨i, hi, e1⟩ := List.getElem_of_mem hp
        obtain ⟨j, hj, e2⟩ := List.getElem_of_mem hP
        have hij : i = j := by
          have a1 : (T.map (·.1))[i]? = some P := by rw [List.getElem?_map, List.getElem?_eq_getElem hi, e1]; exact congrArg some hb
          have a2 : (T.map (·.1))[j]? = some P := by rw [List.getElem?_map, List.getElem?_eq_getElem hj, e2]; rfl
          exact nd_ix hn a1 a2
        subst hij
        rw [← e1, e2]
      rw [ep]
      exact h1
    · have z := k p hp
      obtain ⟨P', w⟩ := p
      have hb : P' ≠ P := hb
      cases w with
      | none =>
        obtain ⟨ps', a1, a2⟩ := (show GxR.TabG H P' from z)
        exact ⟨ps', h2 _ _ hb a1, a2⟩
      | some w =>
        obtain ⟨ps', a1, a2, a3⟩ := (show LamX.TabS H P' w from z)
        refine ⟨ps', h2 _ _ hb a1, a2, fun pos cv hc => ?_⟩
        obtain ⟨c, e1, e2⟩ := a3 pos cv hc
        exact ⟨c, e1, h2 c _ (ne c _ e2 (by unfold LamX.CodeO; trivial)) e2⟩
  · by_cases z : l = P
    · obtain ⟨ps', a1, _⟩ := h1
      rw [z, a1] at hl
      cases hl
    · cases q' : H l with
      | none => rfl
      | some o =>
        rw [h2 l o z q'] at hl
        cases hl
section
variable {X : Cx} {pins : List (Addr × Obj)} {σ : L2.St} {H : Hp} {s : Shared}
/-- the lambda is made: its code object is new, or found in the table; all else stays -/
theorem lam_make3 {c P : Addr} {params : Arguments} {body : Expr} {scope : Scope} {pos : Pos} {E : Value → Shared → Prop} {Q : Value → Shared → Prop} (I : Inv X pins σ H s) (TB : LamX.TabB X.base X.mg c P) (hcode : X.env.code = .ref c)
    (hT : LamX.TabS H P (X.env.qual ++ "<lambda>")) (hdef : defaultsOf params X.env = ([], [])) (hfree : ∀ y ∈ scope.names, y.2 = .free → ∃ c, X.env.cells.lookup y.1 = some c)
    (h : ∀ (f c' : Addr) (pm ctv : Value) (H1 : Hp) (s' : Shared), Inv X pins σ H1 s' → (∀ b o, b ≠ P → H b = some o → H1 b = some o) → LamX.TabS H1 P (X.env.qual ++ "<lambda>") →
      s'.heap.get? f = some (PySem.W.kla_obj "<lambda>" (X.env.qual ++ "<lambda>") params body scope (cloFrom X.env.cells scope.names []) pm c' ctv) → H1 f = none → f ∉ frs X.stack → H1 c' = some (LamX.CodeO c' (X.env.qual ++ "<lambda>")) → Q (.ref f) s') :
    wpAny (model X.prog X.w) X.A (eval (.Lambda params body scope pos) X.env) Q E s := by
  obtain ⟨ps, hP, ht, ha⟩ := hT
  refine PySem.W.kla_eval hdef ?_
  have bP : s.heap.BuiltinsAt X.mg P := TB.bm.keeps I.bk
  have hP' : s.heap.get? P = some { cls := .none, data := .fields ps } := I.hok P _ hP
  have nofr : ∀ f, s.heap.objs.size ≤ f → f ∉ frs X.stack := fun f hf z => by
    rcases List.mem_cons.mp (I.stkSub _ z) with e | e
    · have h1 := I.lt
      rw [← e] at h1
      exact Nat.lt_irrefl _ (Nat.lt_of_lt_of_le h1 hf)
    · exact I.nofs hf e
  cases hc : codeAmong pos ps.toList with
  | none =>
    refine PySem.W.kla_makeFunction (mg := X.mg) (c := c) (P := P) (ps := ps) (closure_ok hfree) I.ok.glob (I.mod.glob.keeps I.bk) hcode (TB.code.keeps I.bk) hP' ht hc TB.gP bP fun c' ctv h' tk hx hge hlt hrec htb => ?_
    obtain ⟨c2, oc, vs, t, e2, hoc, hd, hv⟩ := hrec
    cases e2
    have hsz : s.heap.objs.size ≤ h'.objs.size := Nat.le_trans hge (Nat.le_of_lt hlt)
    have nC : H c' = none := I.hok.fresh hge
    have I1 := LamX.inv_table (t' := tk) (more := #[rawInt pos.line, rawInt pos.col, .ref c']) (h' := h'.push (PySem.W.kla_obj "<lambda>" (X.env.qual ++ "<lambda>") params body scope (cloFrom X.env.cells scope.names []) ((X.mg "__name__").getD .none) c' ctv)) I hP
      (fun b o hb e => Heap.get?_push_of_some _ (hx b o hb e)) (Heap.get?_push_of_some _ htb) hge ⟨oc, vs, t, Heap.get?_push_of_some _ hoc, hd, hv⟩
    have hE : ∀ b o, b ≠ P → H b = some o → upd (upd H P (.tbl (ps ++ #[rawInt pos.line, rawInt pos.col, .ref c']))) c' (LamX.CodeO c' (X.env.qual ++ "<lambda>")) b = some o := fun b o hb e => by
      rw [upd_ne (ne_of_none e nC), upd_ne hb]
      exact e
    have eL : (ps ++ #[rawInt pos.line, rawInt pos.col, .ref c']).toList = ps.toList ++ [rawInt pos.line, rawInt pos.col, .ref c'] := by simp
    refine h h'.objs.size c' ((X.mg "__name__").getD .none) ctv _ _ I1 hE ?_ (Heap.get?_push_size _ rfl) ?_ (nofr _ hsz) upd_same
    · refine ⟨_, by rw [upd_ne (ne_of_none hP nC), upd_same], by rw [eL]; exact PySem.TriplesOk_snoc _ _ _ _ ht, fun p' cv hcv => ?_⟩
      rw [eL] at hcv
      rcases LamX.among_app _ ht hcv with z | z
      · obtain ⟨c0, e1, e2⟩ := ha p' cv z
        refine ⟨c0, e1, hE _ _ (fun z => ?_) e2⟩
        rw [z, hP] at e2
        unfold LamX.CodeO at e2
        cases e2
      · exact ⟨c', z, upd_same⟩
    · have n1 : h'.objs.size ≠ c' := Nat.ne_of_gt hlt
      have n2 : h'.objs.size ≠ P := Nat.ne_of_gt (Nat.lt_of_lt_of_le (Heap.lt_size hP') hsz)
      rw [upd_ne n1, upd_ne n2]
      exact I.hok.fresh hsz
  | some cv =>
    obtain ⟨c', e, hco⟩ := ha pos cv hc
    subst e
    refine PySem.W.kla_makeFunctionHit (mg := X.mg) (c := c) (P := P) (ps := ps) (closure_ok hfree) I.ok.glob (I.mod.glob.keeps I.bk) hcode (TB.code.keeps I.bk) hP' ht hc bP fun ctv h' tk hx hsz => ?_
    have I1 : Inv X pins σ H { s with heap := h'.push (PySem.W.kla_obj "<lambda>" (X.env.qual ++ "<lambda>") params body scope (cloFrom X.env.cells scope.names []) ((X.mg "__name__").getD .none) c' ctv), toks := tk } := I.kept fun b o e => Heap.get?_push_of_some _ (hx b o e)
    exact h h'.objs.size c' ((X.mg "__name__").getD .none) ctv H _ I1 (fun _ _ _ e => e) ⟨ps, hP, ht, ha⟩ (Heap.get?_push_size _ rfl) (I.hok.fresh hsz) (nofr _ hsz) hco
/-- the def that is given the lambda: as LamX.GivesTo -/
def tLm (T : Tb) (P : Addr) (q : Str) (TT : (XK → Hp → VK → Prop) → Hp → VK → Prop) (t : XK → TE) : TE := fun σ H Q => LamX.TabS H P q ∧ ∀ H1, Sm T H H1 → TT (fun E H' Q' => t E σ H' Q') H1 Q
theorem pe_lam {T : Tb} {TT : (XK → Hp → VK → Prop) → Hp → VK → Prop} {x a : Str} {g c P : Addr} {k : Nat} {pg : Arguments} {bg : List Stmt} {sg : Scope} {dV kV doc pm cdv ct oc : Value} {an od : Option Addr} {osl : Array (Option Value)} {Ng : List Str}
    {params : Arguments} {body : Expr} {scope : Scope} {t : XK → TE} {p lpos pos : Pos} (hn : (T.map (·.1)).Nodup) (hg : Gl X x) (hm : X.mg x = some (.ref g)) (hk : PySem.W.keepIn X.K (.ref g) = true)
    (lk : X.K.lookup g = some ⟨oc, od, .func (PySem.W.fnOf x x pg bg sg dV kV doc pm an cdv ct), osl⟩) (hcg : PySem.W.codeIn X.K cdv x = true) (hb : L2.Binds X.K (PySem.W.fnOf x x pg bg sg dV kV doc pm an cdv ct) [a] []) (Sg : FnScope Ng [a] sg) (hNg : Ng[0]? = some a) (hva : Vis sg a)
    (hG : LamX.GivesTo X Ng x sg g cdv bg a (X.env.qual ++ "<lambda>") TT)
    (TB : LamX.TabB X.base X.mg c P) (hcode : X.env.code = .ref c) (hmT : (P, some (X.env.qual ++ "<lambda>")) ∈ T) (hr : Room (k + 2) X.A) (L : LamX.LamS X.env.scope scope) (hdef : defaultsOf params X.env = ([], []))
    (hbind : ∀ (q : Str) (cl : List (Str × Addr)) (pm cv ctv : Value), bindArgs (PySem.W.kla_fn "<lambda>" q params body scope cl pm cv ctv) ⟨[], []⟩ = pure [])
    (hbody : ∀ (A : Around) (outer : List Env) (s : Shared) (H : Hp) (E : XK) (f c' : Addr), Room k (A.deeper (LamX.lamEnv X scope s.heap.objs.size f c')) → PE (LamX.lamCx X A outer s H E scope f c') body (t E))
    (hdb : (x == ("__debug__" : Str)) = false := by decide) (hd : (a == ("__debug__" : Str)) = false := by decide) (hcd : (a == ("__classdict__" : Str)) = false := by decide) :
    PE X (.Call (.Name x p) [.Lambda params body scope lpos] [] pos) (tLm T P (X.env.qual ++ "<lambda>") TT t) := by
  refine ⟨fun pins s σ H Q I h => ?_⟩
  obtain ⟨hT, h⟩ := h
  refine wpAny_Call_Name_kw (ld_glob I hg hm ?_ hdb)
  refine PySem.W.callWith_K (h₀ := X.base) I.ok.mod.kin hk ?_ (by rfl) (by rfl)
  show wpAny _ _ (spliced ((false, eval (.Lambda params body scope lpos) X.env) :: backTo pos (starEach [] X.env))) _ _ s
  refine Calls.spliced_cons (lam_make3 I TB hcode hT hdef (L.has I.ok) fun f c' pm' ctv H1 s' I1 eN T1 hf hfn hfr hco => ?_)
  refine Calls.spliced_nil ⟨I1.kIn, ?_⟩
  have rc : codeAny (model X.prog X.w) X.A (.call (.ref g) ⟨[.ref f], []⟩) (CR C8.CX0 X.stack X.prog X.w H1 s' Q C8.E0) s' := by
    refine LamX.run_ofS (N := Ng) (ps := [a]) (us := [.ref f]) (vs := [.ref f]) lk hcg Sg hr I1.env0 (hb s' [.ref f] I1.kIn rfl) (.cons rfl .nil) rfl fun hr' => ?_
    obtain ⟨t', ht', hq'⟩ := hG f c' s' H1 Q (fun E H' Q' => t E σ H' Q') (fun W pn xe E p1 p2 tk hW => LamX.pe_act (i := 0) I1 L hf hfn hfr (hbind _ _ _ _ _) tk hW hr' (fun A outer s H hr2 => hbody A outer s H E f c' hr2) hNg hva hd hcd) hco (h H1 (sm_lam hn hmT hT T1 eN))
    exact ⟨t', ht'.nox, hq'⟩
  refine wpAny_call (codeAny_mono rc fun r s2 hq => ?_)
  cases r with
  | error e => exact (show False from hq).elim
  | ok fl =>
    cases fl with
    | ret u => exact I1.after hq
    | next => exact False.elim hq
    | brk => exact False.elim hq
    | cont => exact False.elim hq
/-- word(asked): try: return ("told", asked()) / except PailError as e: return (e.word,) -/
def TTw (K : PySem.W.Frag) (CP : Addr) : (XK → Hp → VK → Prop) → Hp → VK → Prop := fun tl H Q =>
  tl (fun cls d H' => ∃ word, Rf K CP word cls d H' ∧ ∀ p, H' p = none → Q (.ref p) (upd H' p (.tup [.str word]))) H (fun v H' => ([V.str "told", v] : List V).length ≤ sizeLine ∧ ∀ p, H' p = none → Q (.ref p) (upd H' p (.tup [.str "told", v])))
theorem word_gives {x a e n q : Str} {sg : Scope} {g CP : Addr} {cdg : Value} {Ng : List Str} {i j0 j1 j2 : Nat} {p1 p2 p3 p4 p5 p6 p7 p8 p9 q1 q2 q3 : Pos} (hnd : Ng.Nodup) (hi : Ng[i]? = some n) (hln : sg.names.lookup n = some .local) (hge : sg.names.lookup e = some .globalImplicit) (hme : X.mg e = some (.ref CP)) (hde : (e == ("__debug__" : Str)) = false)
    (hdn : (n == ("__debug__" : Str)) = false) (hcn : (n == ("__classdict__" : Str)) = false) (hlen : ∀ f : Addr, (L2.start Ng [V.ref f])[0]? = some (some (V.ref f))) :
    LamX.GivesTo X Ng x sg g cdg [.Try [.Return (some (.Tuple [.Constant (.str "told") j0 p1, .Call (.Name a p2) [] [] p3] j1 p4)) p5] [.ExceptHandler (some (.Name e p6)) (some n) [.Return (some (.Tuple [.Attribute (.Name n q1) "word" q2] j2 q3)) p7] p8] [] [] p9] a q (TTw X.K CP) := by
  intro f c' s H Q tl act hc h
  have hgl : Gl (cxOf C8.CX0 X.prog X.w X.K X.mg X.base Ng x sg g cdg X.A X.stack s H C8.E0).nox e := hge
  refine ⟨_, pss_one (ps_try_as (X := (cxOf C8.CX0 X.prog X.w X.K X.mg X.base Ng x sg g cdg X.A X.stack s H C8.E0).nox) (i := i) (c := .ref CP)
      (tb := fun W D σ H => ∃ Ech : XK, (∀ cls d (σ' : L2.St) H', Ech cls d H' → σ'.length = Ng.length → W cls d σ' H') ∧ σ[0]? = some (some (.ref f)) ∧ H c' = some (LamX.CodeO c' q) ∧ tl Ech H (fun v H' => ([V.str "told", v] : List V).length ≤ sizeLine ∧ ∀ p, H' p = none → D.rt (.ref p) (upd H' p (.tup [.str "told", v]))))
      (ts := fun b cls d => tRet (tTup (tCons (tXw X.K b cls d (tVar i)) tNil)))
      rfl rfl hnd hi hln ⟨hgl, hde, .inl hme⟩ LamX.takes0 (fun W pn xe tk _ => ?_) (fun b oe cls d pn hz hf => pss_one (ps_ret (pe_tup (pa_cons (pe_xw hz hf (pe_var hi (.inl hln) hdn hcn)) pa_nil))))), ?_⟩
  · refine ⟨fun pins s' σ H' D I h' => ?_⟩
    obtain ⟨Ech, hW, h1, h2, h3⟩ := h'
    have tk2 : Takes ((cxOf C8.CX0 X.prog X.w X.K X.mg X.base Ng x sg g cdg X.A X.stack s H C8.E0).tr pn xe) (fun cls d σ' H' => σ'.length = Ng.length → W cls d σ' H') :=
      fun u s' ⟨a, B, sI, pins, σ, H, cls, d, e, I, nb, up, sky, na, os, ag, w⟩ => tk u s' ⟨a, B, sI, pins, σ, H, cls, d, e, I, nb, up, sky, na, os, ag, w I.len⟩
    have hp := act _ pn xe Ech p2 p3 tk2 (fun cls d σ' H' he hl => hW cls d σ' H' he hl)
    have hq := pss_one (ps_ret (pos := p5) (pe_tup (x1 := j1) (pos := p4) (pa_cons (pe_str (x := "told") (j := j0) (pos := p1)) (pa_cons hp pa_nil))))
    exact hq.run pins s' σ H' D I ⟨h1, h2, h3⟩
  · refine ⟨fun cls d H' => ∃ word, Rf X.K CP word cls d H' ∧ ∀ p, H' p = none → Q (.ref p) (upd H' p (.tup [.str word])), fun cls d σ' H' hE hl => ?_, hlen f, hc, h⟩
    obtain ⟨word, ⟨C, dd, rfl, rfl, xf, nw, ex, hdd⟩, hq⟩ := hE
    refine ⟨true, ex, fun _ b hb => ?_, fun z => by cases z⟩
    have hil : i < σ'.length := by
      rw [hl]
      exact (List.getElem?_eq_some_iff.mp hi).1
    exact ⟨.ref b, List.getElem?_set_self hil, rfl, C, dd, .str word, rfl, xf, nw, rfl, hdd, by show 1 ≤ sizeLine; decide, fun p hp => hq p hp⟩
end
/-- the law's own word: what a call tells, or the word of its refusal -/
structure Word (K : PySem.W.Frag) (mg : Str → Option Value) (CP : Addr) : Prop where
  ex : ∃ (g : Addr) (fd : FuncData), Fun K "_law_word" "_law_word" s_l_word g fd ∧ mg "_law_word" = some (.ref g) ∧ Binds K fd ["_law_asked"] [] ∧ mg "PailError" = some (.ref CP)
theorem pe_word {X : Cx} {T : Tb} {CP c P : Addr} {k : Nat} {params : Arguments} {body : Expr} {scope : Scope} {t : XK → TE} {p lpos pos : Pos} (W : Word X.K X.mg CP) (hn : (T.map (·.1)).Nodup) (hg : Gl X "_law_word") (TB : LamX.TabB X.base X.mg c P) (hcode : X.env.code = .ref c)
    (hmT : (P, some (X.env.qual ++ "<lambda>")) ∈ T) (hr : Room (k + 2) X.A) (L : LamX.LamS X.env.scope scope) (hdef : defaultsOf params X.env = ([], []))
    (hbind : ∀ (q : Str) (cl : List (Str × Addr)) (pm cv ctv : Value), bindArgs (PySem.W.kla_fn "<lambda>" q params body scope cl pm cv ctv) ⟨[], []⟩ = pure [])
    (hbody : ∀ (A : Around) (outer : List Env) (s : Shared) (H : Hp) (E : XK) (f c' : Addr), Room k (A.deeper (LamX.lamEnv X scope s.heap.objs.size f c')) → PE (LamX.lamCx X A outer s H E scope f c') body (t E)) :
    PE X (.Call (.Name "_law_word" p) [.Lambda params body scope lpos] [] pos) (tLm T P (X.env.qual ++ "<lambda>") (TTw X.K CP) t) := by
  obtain ⟨g, fd, F, hm, hb, hP⟩ := W.ex
  have kp := F.kp
  obtain ⟨oc, od, kV, doc, pm, an, cdv, ct, osl, rfl, lk, hcg⟩ := F.ex
  exact pe_lam hn hg hm kp lk hcg hb sc_l_word rfl (.inl rfl) (word_gives (i := 1) (n := "e") (e := "PailError") (a := "_law_asked") sc_l_word.nd rfl rfl rfl hP (by decide) (by decide) (by decide) (fun _ => rfl)) TB hcode hmT hr L hdef hbind hbody

/-! ### zip of three lists -/
def It3 (K : PySem.W.Frag) (a b c : Addr) : It :=
  ⟨fun i H => ∃ (us vs ws : List V) (x y z : V), (SqL K H a us ∧ SqL K H b vs ∧ SqL K H c ws) ∧ us[i]? = some x ∧ vs[i]? = some y ∧ ws[i]? = some z,
    fun i H v H' => ∃ Tt x y z, v = .ref Tt ∧ H Tt = none ∧ H' = upd H Tt (.tup [x, y, z]) ∧ (∀ us, SqL K H a us → us[i]? = some x) ∧ (∀ vs, SqL K H b vs → vs[i]? = some y) ∧ ∀ ws, SqL K H c ws → ws[i]? = some z,
    fun i H => ∃ us vs ws : List V, SqL K H a us ∧ SqL K H b vs ∧ SqL K H c ws ∧ min (min us.length vs.length) ws.length = i⟩
theorem turn3 {P : Program} {w : World} {K : PySem.W.Frag} {elts : List Expr} {kk : Nat} {tpos : Pos} {a b c z TI TO j1 j2 j3 : Addr} (S : ZipSep3 z TI TO j1 j2 j3 [j1, a] [j2, b] [j3, c]) (ha : a ≠ j1) (hb : b ≠ j2) (hc3 : c ≠ j3) :
    Turn P w K (.Tuple elts kk tpos) (It3 K a b c) [z, TI, TO, j1, j2, j3] z (fun i h => IsZip h z TI TO .none ∧ IsTupOf3 h TI (.ref j1) (.ref j2) (.ref j3) ∧ (∃ x y u, IsTupOf3 h TO x y u) ∧ h.IsListIter j1 a i ∧ h.IsListIter j2 b i ∧ h.IsListIter j3 c i) where
  mem := by simp
  obj := fun i h st d hd => by
    obtain ⟨hz, hTI, ⟨x, y, u, hTO⟩, ⟨o1, e1, _, d1⟩, ⟨o2, e2, _, d2⟩, ⟨o3, e3, _, d3⟩⟩ := st
    have e' : d = z ∨ d = TI ∨ d = TO ∨ d = j1 ∨ d = j2 ∨ d = j3 := by simpa using hd
    rcases e' with rfl | rfl | rfl | rfl | rfl | rfl
    · exact ⟨_, hz, fun v q => nomatch q⟩
    · exact ⟨_, hTI, fun v q => nomatch q⟩
    · exact ⟨_, hTO, fun v q => nomatch q⟩
    · exact ⟨o1, e1, fun v q => by rw [d1] at q; cases q⟩
    · exact ⟨o2, e2, fun v q => by rw [d2] at q; cases q⟩
    · exact ⟨o3, e3, fun v q => by rw [d3] at q; cases q⟩
  keep := fun i h h' st k => by
    obtain ⟨hz, hTI, ⟨x, y, u, hTO⟩, h1, h2, h3⟩ := st
    exact ⟨k z (by simp) _ hz, k TI (by simp) _ hTI, ⟨x, y, u, k TO (by simp) _ hTO⟩, h1.at fun o q => k j1 (by simp) o q, h2.at fun o q => k j2 (by simp) o q, h3.at fun o q => k j3 (by simp) o q⟩
  item := by
    intro X hP hw hK hc i pins s σ H E I hf st hg
    subst hP hw hK
    obtain ⟨hz, hTI, hTO, h1, h2, h3⟩ := st
    obtain ⟨us, vs, ws, x, y, u, ⟨hqx, hqy, hqu⟩, hx, hy, hu⟩ := hg
    obtain ⟨its1, rv1, p1, _⟩ := I.list hqx
    obtain ⟨its2, rv2, p2, _⟩ := I.list hqy
    obtain ⟨its3, rv3, p3, _⟩ := I.list hqu
    obtain ⟨m1, g1, r1⟩ := rv1.get hx
    obtain ⟨m2, g2, r2⟩ := rv2.get hy
    obtain ⟨m3, g3, r3⟩ := rv3.get hu
    have hh : X.A.in1.handled = none := I.ok.hd hc
    have W := WalksT.zipD3 (prog := X.prog) (w := X.w) (A := X.A) S (Draws.list hh j1 a ha its1.toArray) (Draws.list hh j2 b hb its2.toArray) (Draws.list hh j3 c hc3 its3.toArray)
    have lt1 : i < its1.length := (List.getElem?_eq_some_iff.mp g1).1
    have lt2 : i < its2.length := (List.getElem?_eq_some_iff.mp g2).1
    have lt3 : i < its3.length := (List.getElem?_eq_some_iff.mp g3).1
    refine W.item i s _ _ (by simp only [List.size_toArray]; omega) ⟨hz, hTI, hTO, ⟨h1, p1.isList⟩, ⟨h2, p2.isList⟩, ⟨h3, p3.isList⟩⟩ fun Tt vals h' tk hPt hge hT hM hk => ⟨_, rfl, W.go elts kk tpos i Tt _ _ _ hM fun h'' hSt hk2 => ?_⟩
    obtain ⟨n1, n2, n3, f1, f2, f3, rfl⟩ := hPt
    have q1 : n1 = m1 := by have f : its1[i]? = some n1 := by simpa using f1
                            rw [g1] at f; exact (Option.some.inj f).symm
    have q2 : n2 = m2 := by have f : its2[i]? = some n2 := by simpa using f2
                            rw [g2] at f; exact (Option.some.inj f).symm
    have q3 : n3 = m3 := by have f : its3[i]? = some n3 := by simpa using f3
                            rw [g3] at f; exact (Option.some.inj f).symm
    subst q1 q2 q3
    have hT2 := hT.at fun o e => hk2 Tt o (W.apart _ _ _ hM) e
    have new : ObjOk X.prog X.w (upd H Tt (.tup [x, y, u])) h'' Tt (.tup [x, y, u]) := ⟨by show 3 ≤ sizeLine; decide, [n1, n2, n3], .cons r1 (.cons r2 (.cons r3 .nil)), hT2⟩
    have nin : ∀ d, d ∉ [z, TI, TO, j1, j2, j3] → d ∉ [z, TO, j1, j2, j3] := fun d hd hm => hd (by
      have : d = z ∨ d = TO ∨ d = j1 ∨ d = j2 ∨ d = j3 := by simpa using hm
      rcases this with rfl | rfl | rfl | rfl | rfl <;> simp)
    have I1 := I.turnedNew (t' := tk) (h' := h'') (ch := [z, TI, TO, j1, j2, j3]) (fun d o hd q => hk2 d o (nin d hd) (hk d o (nin d hd) q)) hf hge new
    obtain ⟨s1, s2, s3, s4, s5, s6⟩ := hSt
    refine ⟨.ref Tt, _, I1, rfl, ⟨Tt, x, y, u, rfl, I.hok.fresh hge, rfl, fun l hl => by rw [I.list_inj hl hqx]; exact hx, fun l hl => by rw [I.list_inj hl hqy]; exact hy, fun l hl => by rw [I.list_inj hl hqu]; exact hu⟩, ⟨s1, s2, s3, s4.1, s5.1, s6.1⟩, fun d hd => ?_⟩
    have hlt : d < s.heap.objs.size := by
      have e' : d = z ∨ d = TI ∨ d = TO ∨ d = j1 ∨ d = j2 ∨ d = j3 := by simpa using hd
      obtain ⟨x0, y0, u0, hTO⟩ := hTO
      rcases e' with rfl | rfl | rfl | rfl | rfl | rfl
      · exact Heap.lt_size hz
      · exact Heap.lt_size hTI
      · exact Heap.lt_size hTO
      · obtain ⟨_, e1, _⟩ := h1; exact Heap.lt_size e1
      · obtain ⟨_, e1, _⟩ := h2; exact Heap.lt_size e1
      · obtain ⟨_, e1, _⟩ := h3; exact Heap.lt_size e1
    rw [upd_ne (Nat.ne_of_lt (Nat.lt_of_lt_of_le hlt hge))]
    exact (hf d hd).1
  done := by
    intro X hP hw hK hc i pins s σ H E I hf st hg
    subst hP hw hK
    obtain ⟨hz, hTI, hTO, h1, h2, h3⟩ := st
    obtain ⟨us, vs, ws, hqx, hqy, hqu, hend⟩ := hg
    obtain ⟨its1, rv1, p1, _⟩ := I.list hqx
    obtain ⟨its2, rv2, p2, _⟩ := I.list hqy
    obtain ⟨its3, rv3, p3, _⟩ := I.list hqu
    have hh : X.A.in1.handled = none := I.ok.hd hc
    have W := WalksT.zipD3 (prog := X.prog) (w := X.w) (A := X.A) S (Draws.list hh j1 a ha its1.toArray) (Draws.list hh j2 b hb its2.toArray) (Draws.list hh j3 c hc3 its3.toArray)
    have l1 := rv1.length
    have l2 := rv2.length
    have l3 := rv3.length
    have en : min (min its1.toArray.size its2.toArray.size) its3.toArray.size = i := by simp only [List.size_toArray]; omega
    refine W.done s _ _ (by rw [en]; exact ⟨hz, hTI, hTO, ⟨h1, p1.isList⟩, ⟨h2, p2.isList⟩, ⟨h3, p3.isList⟩⟩) fun h' tk hk => ⟨rfl, I.turnedL (t' := tk) (ch := [z, TI, TO, j1, j2, j3]) (fun d o hd q => hk d o (fun hm => hd ?_) q) hf⟩
    have : d = z ∨ d = TO ∨ d = j1 ∨ d = j2 ∨ d = j3 := by simpa using hm
    rcases this with rfl | rfl | rfl | rfl | rfl <;> simp
  self := fun A i s Q E st h => wpAny_pyIter_zip st.1 h
def iZip3 (K : PySem.W.Frag) (ta : TA) : TI := fun σ H R => ta σ H fun xs H1 => ∃ a b c us vs ws, xs = [.ref a, .ref b, .ref c] ∧ SqL K H1 a us ∧ SqL K H1 b vs ∧ SqL K H1 c ws ∧ R (It3 K a b c) H1
theorem pi_zip3 {X : Cx} {e e2 e3 : Expr} {ta : TA} {p pos tpos : Pos} {elts : List Expr} {kk : Nat} (hg : Gl X "zip") (hm : X.mg "zip" = none) (ha : PA X [e, e2, e3] ta)
    (hs : starEach [e, e2, e3] X.env = (false, eval e X.env) :: starEach [e2, e3] X.env := by rfl) (hpl : (backTo pos (starEach [e2, e3] X.env)).any (·.1) = false := by rfl) :
    PI X (.Tuple elts kk tpos) (.Call (.Name "zip" p) [e, e2, e3] [] pos) (iZip3 X.K ta) := by
  refine ⟨fun pins s σ H R I h => Call_ (ld_blt I hg hm PyProof.Rows.boot_zip (PyProof.Rows.callWith_type1 (thn (ha.run pos pins s σ H _ I h) fun us s1 ⟨vs, H1, I1, r1, q1⟩ => ?_) hs hpl))⟩
  obtain ⟨a, b, c, as, bs, cs, ex, hqx, hqy, hqu, q⟩ := q1
  subst ex
  cases r1 with
  | cons r rr =>
    cases rr with
    | cons r' rr =>
      cases rr with
      | cons r'' rr =>
        cases rr
        cases r
        cases r'
        cases r''
        obtain ⟨its1, rv1, p1, _⟩ := I1.list hqx
        obtain ⟨its2, rv2, p2, _⟩ := I1.list hqy
        obtain ⟨its3, rv3, p3, _⟩ := I1.list hqu
        have la : a < s1.heap.objs.size := p1.lt
        have lb : b < s1.heap.objs.size := p2.lt
        have lc : c < s1.heap.objs.size := p3.lt
        refine zip_begins3 (begins_list a its1.toArray) (begins_list b its2.toArray) (begins_list c its3.toArray) p1.isList p2.isList p3.isList fun h' hz hTI hTO h1 h2 h3 hsz hk => wpAny_pyIter_zip hz ?_
        have I2 : Inv X pins σ H1 { s1 with heap := h' } := I1.kept (t' := s1.toks) hk
        have one : ∀ d : Addr, d < s1.heap.objs.size → ∀ e ∈ [d], e < s1.heap.objs.size := fun d hd e he => by rw [List.mem_singleton.mp he]; exact hd
        refine ⟨_, [s1.heap.objs.size + 5, s1.heap.objs.size + 3, s1.heap.objs.size + 4, s1.heap.objs.size, s1.heap.objs.size + 1, s1.heap.objs.size + 2], _, _, H1, rfl, I2, turn3 (zip_sep3 (one a la) (one b lb) (one c lc)) (Nat.ne_of_lt la) (Nat.ne_of_lt (Nat.lt_succ_of_lt lb)) (Nat.ne_of_lt (Nat.lt_add_right 2 lc)), ⟨hz, hTI, ⟨_, _, _, hTO⟩, ⟨_, h1, rfl, rfl⟩, ⟨_, h2, rfl, rfl⟩, ⟨_, h3, rfl, rfl⟩⟩, fun d hd => ?_, q⟩
        have hle : s1.heap.objs.size ≤ d := by
          have e' : d = s1.heap.objs.size + 5 ∨ d = s1.heap.objs.size + 3 ∨ d = s1.heap.objs.size + 4 ∨ d = s1.heap.objs.size ∨ d = s1.heap.objs.size + 1 ∨ d = s1.heap.objs.size + 2 := by simpa using hd
          rcases e' with z | z | z | z | z | z <;> rw [z] <;> first | exact Nat.le_refl _ | exact Nat.le_add_right _ _
        exact I1.fpOk hle (I1.hok.fresh hle)
/-- each turn's three in a new tuple -/
def YTri (us vs ws : List V) : Nat → Hp → V → Hp → Prop := fun i H v H' => ∃ Tt x y z, v = .ref Tt ∧ H Tt = none ∧ H' = upd H Tt (.tup [x, y, z]) ∧ us[i]? = some x ∧ vs[i]? = some y ∧ ws[i]? = some z
theorem walk_zip3 {K : PySem.W.Frag} {a b c : Addr} {us vs ws : List V} {n : Nat} (hn : n = min (min us.length vs.length) ws.length) : Walk (It3 K a b c) n (fun H => SqL K H a us ∧ SqL K H b vs ∧ SqL K H c ws) (YTri us vs ws) := by
  subst hn
  refine ⟨fun i _ hi q => ?_, fun _ q => ⟨us, vs, ws, q.1, q.2.1, q.2.2, rfl⟩, fun i H v H' _ q y => ?_⟩
  · have h1 : i < us.length := by omega
    have h2 : i < vs.length := by omega
    have h3 : i < ws.length := by omega
    exact ⟨us, vs, ws, us[i], vs[i], ws[i], q, by simp [h1], by simp [h2], by simp [h3]⟩
  · obtain ⟨Tt, x, z, u, h1, h2, h3, h4, h5, h6⟩ := y
    exact ⟨Tt, x, z, u, h1, h2, h3, h4 us q.1, h5 vs q.2.1, h6 ws q.2.2⟩

/-! ### one own class: fields, methods, making -/
section
variable {X : Cx} {C : Addr} {f : Str} {e o value : Expr} {te ta tv : TE} {pos pos' apos p : Pos}
def tFc (C : Addr) (te : TE) (f : Str) : TE := fun σ H Q => te σ H fun x H1 => ∃ a dx fs v, x = .ref a ∧ H1 a = some (.ins C dx fs) ∧ fs.lookup f = some v ∧ Q v H1
theorem pe_fc (c : Cls X.K C) (n : NoAttr X.K C f) (he : PE X e te) (hb : attributeBase e f X.env (eval e X.env) = eval e X.env := by rfl) : PE X (.Attribute e f pos) (tFc C te f) := by
  refine ⟨fun pins s σ H Q I h => attr_of hb (thn (he.run pins s σ H _ I h) fun u s1 hh => ?_)⟩
  obtain ⟨x, H1, I1, rx, a, dx, fs, v, ex, ea, l, q⟩ := hh
  subst ex
  obtain rfl : u = Value.ref a := rx
  exact getattr_ok I1 ea c n l fun u' s2 I2 ru => ⟨v, H1, I2, ru, q⟩
def sFc (C : Addr) (ta tv : TE) (f : Str) : TS := fun D σ H => tv σ H fun y H1 => ta σ H1 fun x H2 => ∃ a dx fs, x = .ref a ∧ H2 a = some (.ins C dx fs) ∧ fs.length < 1000 ∧ D.nx σ (upd H2 a (.ins C dx (putF f y fs)))
theorem ps_fc (c : Cls X.K C) (n : NoAttr X.K C f) (ha : PE X o ta) (hv : PE X value tv) (hs : swapsWith value (some (.Attribute o f pos')) pos.line X.env = pure false := by rfl) : PS X (.Assign [.Attribute o f pos'] value pos) (sFc C ta tv f) := by
  refine ⟨fun pins s σ H D I h => plainObj_wpAny_Assign_Attribute (thn (hv.run pins s σ H _ I h) fun u s1 hh => ?_) hs⟩
  obtain ⟨y, H1, I1, ry, q⟩ := hh
  refine thn (ha.run pins s1 σ H1 _ I1 q) fun ov s2 hk => ?_
  obtain ⟨x, H2, I2, rx, a, dx, fs, ex, ea, l, q2⟩ := hk
  subst ex
  obtain rfl : ov = Value.ref a := rx
  exact setattr_ok I2 ea c n l ry fun s3 I3 => ⟨σ, _, I3, q2⟩
end
/-- a method, ready to be called; one that may raise -/
structure Mt (P : Program) (w : World) (K : PySem.W.Frag) (mg : Str → Option Value) (base : Heap) (C : Addr) (k : Nat) (m : Str) (ps : List Str) (sp : Sp) : Prop where
  ex : ∃ f fd, FnOk P w K mg base CX0 k f fd ps sp ∧ Meth K C m f ∧ Binds K fd ps []
structure Mx (P : Program) (w : World) (K : PySem.W.Frag) (mg : Str → Option Value) (base : Heap) (C : Addr) (k : Nat) (m : Str) (ps : List Str) (sp : Sp) : Prop where
  ex : ∃ f fd, FnOk P w K mg base (L2.CX P w) k f fd ps sp ∧ Meth K C m f ∧ Binds K fd ps []
structure Mn (P : Program) (w : World) (K : PySem.W.Frag) (mg : Str → Option Value) (base : Heap) (C : Addr) (k : Nat) (x : Str) (ps : List Str) (sp : Sp) : Prop where
  ex : ∃ f fd, FnOk P w K mg base CX0 k f fd ps sp ∧ Mk K C f ∧ Binds K fd ps [] ∧ mg x = some (.ref C)
structure Mnx (P : Program) (w : World) (K : PySem.W.Frag) (mg : Str → Option Value) (base : Heap) (C : Addr) (k : Nat) (x : Str) (ps : List Str) (sp : Sp) : Prop where
  ex : ∃ f fd, FnOk P w K mg base (L2.CX P w) k f fd ps sp ∧ Mk K C f ∧ Binds K fd ps [] ∧ mg x = some (.ref C)
section
variable {X : Cx} {C : Addr} {k : Nat} {m x : Str} {ps : List Str} {sp : Sp} {o e : Expr} {es : List Expr} {ta : TE} {t : TA} {p pos apos : Pos} {E : XK} {pl : Sem Bool}
theorem pe_mt (M : Mt X.prog X.w X.K X.mg X.base C k m ps sp) (c : Cls X.K C) (hr : Room k X.A) (he : PE X o ta) (ha : PA X (e :: es) t)
    (hst : starEach (e :: es) X.env = (false, eval e X.env) :: starEach es X.env := by rfl) (hpl : (backTo pos (starEach es X.env)).any (·.1) = false := by rfl)
    (ht : eval (.Call (.Attribute o m apos) (e :: es) [] pos) X.env = (do
      let ov ← eval o X.env
      standAt apos.atName
      let (f, first) ← holding [ov] (getMethod ov m pl)
      callWith pos f first (backTo pos (starEach (e :: es) X.env)) (backToKw pos (keywordEach [] X.env))) := by rfl) :
    PE X (.Call (.Attribute o m apos) (e :: es) [] pos) (tMeth C m sp [] E0 ta t) := by
  obtain ⟨f, fd, h, mm, b⟩ := M.ex
  exact pe_meth he c mm h hr b .nil pass0 ha hst hpl ht
theorem pe_mt0 (M : Mt X.prog X.w X.K X.mg X.base C k m ps sp) (c : Cls X.K C) (hr : Room k X.A) (he : PE X o ta)
    (ht : eval (.Call (.Attribute o m apos) [] [] pos) X.env = (do
      let ov ← eval o X.env
      standAt apos.atName
      let (f, first) ← holding [ov] (getMethod ov m pl)
      callWith pos f first (backTo pos (starEach [] X.env)) (backToKw pos (keywordEach [] X.env))) := by rfl) :
    PE X (.Call (.Attribute o m apos) [] [] pos) (tMeth C m sp [] E0 ta tNil) := by
  obtain ⟨f, fd, h, mm, b⟩ := M.ex
  exact pe_meth0 he c mm h hr b .nil pass0 ht
theorem pe_mx (M : Mx X.prog X.w X.K X.mg X.base C k m ps sp) (c : Cls X.K C) (hr : Room k X.A) (tk : Takes X (fun cls d _ H => E cls d H)) (he : PE X o ta) (ha : PA X (e :: es) t)
    (hst : starEach (e :: es) X.env = (false, eval e X.env) :: starEach es X.env := by rfl) (hpl : (backTo pos (starEach es X.env)).any (·.1) = false := by rfl)
    (ht : eval (.Call (.Attribute o m apos) (e :: es) [] pos) X.env = (do
      let ov ← eval o X.env
      standAt apos.atName
      let (f, first) ← holding [ov] (getMethod ov m pl)
      callWith pos f first (backTo pos (starEach (e :: es) X.env)) (backToKw pos (keywordEach [] X.env))) := by rfl) :
    PE X (.Call (.Attribute o m apos) (e :: es) [] pos) (tMeth C m sp [] E ta t) := by
  obtain ⟨f, fd, h, mm, b⟩ := M.ex
  exact pe_meth he c mm h hr b .nil (passes_call tk fun _ _ _ _ h => h) ha hst hpl ht
theorem pe_mx_ (M : Mx X.prog X.w X.K X.mg X.base C k m ps sp) (c : Cls X.K C) (hr : Room k X.A) (he : PE X o ta) (ha : PA X (e :: es) t)
    (hst : starEach (e :: es) X.env = (false, eval e X.env) :: starEach es X.env := by rfl) (hpl : (backTo pos (starEach es X.env)).any (·.1) = false := by rfl)
    (ht : eval (.Call (.Attribute o m apos) (e :: es) [] pos) X.env = (do
      let ov ← eval o X.env
      standAt apos.atName
      let (f, first) ← holding [ov] (getMethod ov m pl)
      callWith pos f first (backTo pos (starEach (e :: es) X.env)) (backToKw pos (keywordEach [] X.env))) := by rfl) :
    PE X (.Call (.Attribute o m apos) (e :: es) [] pos) (tMeth C m sp [] E0 ta t) := by
  obtain ⟨f, fd, h, mm, b⟩ := M.ex
  exact pe_meth he c mm h hr b .nil passL ha hst hpl ht
theorem pe_mn (M : Mn X.prog X.w X.K X.mg X.base C k x ps sp) (hr : Room (k + 1) X.A) (ha : PA X (e :: es) t) (hg : Gl X x := by rfl) (hdb : (x == ("__debug__" : Str)) = false := by decide)
    (he : starEach (e :: es) X.env = (false, eval e X.env) :: starEach es X.env := by rfl) (hpl : (backTo pos (starEach es X.env)).any (·.1) = false := by rfl) :
    PE X (.Call (.Name x p) (e :: es) [] pos) (tMake C sp [] E0 t) := by
  obtain ⟨f, fd, h, mm, b, g⟩ := M.ex
  exact pe_make mm h hr hg g b .nil pass0 ha hdb he hpl
theorem pe_mnx (M : Mnx X.prog X.w X.K X.mg X.base C k x ps sp) (hr : Room (k + 1) X.A) (tk : Takes X (fun cls d _ H => E cls d H)) (ha : PA X (e :: es) t) (hg : Gl X x := by rfl) (hdb : (x == ("__debug__" : Str)) = false := by decide)
    (he : starEach (e :: es) X.env = (false, eval e X.env) :: starEach es X.env := by rfl) (hpl : (backTo pos (starEach es X.env)).any (·.1) = false := by rfl) :
    PE X (.Call (.Name x p) (e :: es) [] pos) (tMake C sp [] E t) := by
  obtain ⟨f, fd, h, mm, b, g⟩ := M.ex
  exact pe_make mm h hr hg g b .nil (passes_call tk fun _ _ _ _ h => h) ha hdb he hpl
theorem pe_mnx_ (M : Mnx X.prog X.w X.K X.mg X.base C k x ps sp) (hr : Room (k + 1) X.A) (ha : PA X (e :: es) t) (hg : Gl X x := by rfl) (hdb : (x == ("__debug__" : Str)) = false := by decide)
    (he : starEach (e :: es) X.env = (false, eval e X.env) :: starEach es X.env := by rfl) (hpl : (backTo pos (starEach es X.env)).any (·.1) = false := by rfl) :
    PE X (.Call (.Name x p) (e :: es) [] pos) (tMake C sp [] E0 t) := by
  obtain ⟨f, fd, h, mm, b, g⟩ := M.ex
  exact pe_make mm h hr hg g b .nil passL ha hdb he hpl
end

def sp_p_common_divisor (K : PySem.W.Frag) (T : Tb) : Sp := fun vs H Q _ => ∃ a b : Nat, vs = [.int a, .int b] ∧ Q (.int (Nat.gcd a b : Nat)) H
theorem ok_p_common_divisor {f : Addr} {fd : FuncData} (F : Fun K "common_divisor" "common_divisor" s_p_common_divisor f fd) : FnOk P w K mg base CX0 1 f fd ["one", "other"] (sp_p_common_divisor K T) := by
  refine F.ok sc_p_common_divisor (fun vs H Q E h => ?_) (fun cdv A outer s H vs Q E hr h => ?_)
  · obtain ⟨a, b, rfl, _⟩ := h
    rfl
  · obtain ⟨a, b, rfl, q⟩ := h
    refine ⟨_, (pss_cons (ps_while PassesOwn.never (pt_truth (pv 1) (by intro _; rfl)) (pss_one (ps_par (i := 0) (j := 1) (by rfl) sc_p_common_divisor.nd rfl rfl (by decide) rfl rfl (pa_cons (pv 1) (pa_cons (pe_op op_mod (pv 0) (pv 1)) pa_nil)) (by rfl))))
      (pss_one (ps_ret (pv 0)))), ?_⟩
    refine while_by (fun σ H' => ∃ x y : Nat, σ = [some (.int x), some (.int y)] ∧ H' = H ∧ Nat.gcd x y = Nat.gcd a b) (fun σ _ => match σ with | [_, some (.int y)] => y.toNat | _ => 0) ⟨a, b, rfl, rfl, rfl⟩ ?_ ?_
    · rintro σ H' ⟨x, y, rfl, rfl, hg⟩
      refine ⟨_, rfl, _, rfl, ite2 (fun e => ?_) (fun e => ?_)⟩
      · have hy : 0 < y := by
          cases y with
          | zero => cases e
          | succ n => exact Nat.succ_pos n
        refine ⟨_, rfl, _, rfl, _, rfl, _, _, rfl, rfl, (by show (0 : Int) < (y : Int); omega), _, _, rfl, ⟨y, x % y, ?_, rfl, ?_⟩, ?_⟩
        · show [some (V.int y), some (V.int ((x : Int) % (y : Int)))] = _
          rw [Int.natCast_emod]
        · rw [← hg, Nat.gcd_comm x y, Nat.gcd_rec y x, Nat.gcd_comm]
        · show ((x : Int) % (y : Int)).toNat < (y : Int).toNat
          rw [← Int.natCast_emod, Int.toNat_natCast, Int.toNat_natCast]
          exact Nat.mod_lt _ hy
      · have hy : y = 0 := by
          cases y with
          | zero => rfl
          | succ n => exact absurd rfl e
        subst hy
        refine ⟨_, rfl, ?_⟩
        rw [← hg, Nat.gcd_zero_right] at q
        exact q
    · rintro σ H Q Q' m ⟨v, e, k, t, q⟩
      exact ⟨v, e, k, t, m _ _ q⟩

def Bd (n : Nat) (x : Am) : Prop := x.1.natAbs < 2 ^ n ∧ x.2.natAbs < 2 ^ n
theorem Bd.mono {n m : Nat} {x : Am} (h : Bd n x) (e : n ≤ m) : Bd m x := ⟨Nat.lt_of_lt_of_le h.1 (Nat.pow_le_pow_right (by decide) e), Nat.lt_of_lt_of_le h.2 (Nat.pow_le_pow_right (by decide) e)⟩
def plusA (x y : Am) : Am := amt (x.1 * y.2 + y.1 * x.2) (x.2 * y.2)
def minusA (x y : Am) : Am := amt (x.1 * y.2 - y.1 * x.2) (x.2 * y.2)
def timesA (x y : Am) : Am := amt (x.1 * y.1) (x.2 * y.2)
def overA (x y : Am) : Am := amt (x.1 * y.2) (x.2 * y.1)
def belowA (x y : Am) : Bool := decide (x.1 * y.2 < y.1 * x.2)
def spBin (pre : Am → Am → Prop) (g : Am → Am → Am) (K : PySem.W.Frag) (T : Tb) : Sp := fun vs H Q _ => ∃ a b x y, vs = [.ref a, .ref b] ∧ SqT K H a (tv x) ∧ SqT K H b (tv y) ∧ (Bd 6650 x ∧ Bd 6650 y) ∧ pre x y ∧
  ∀ p H', Sm T H H' → H p = none → H' p = some (.tup (tv (g x y))) → Q (.ref p) H'
abbrev sp_p_plus : PySem.W.Frag → Tb → Sp := spBin (fun x y => 0 < x.2 ∧ 0 < y.2) plusA
abbrev sp_p_minus : PySem.W.Frag → Tb → Sp := spBin (fun x y => 0 < x.2 ∧ 0 < y.2) minusA
abbrev sp_p_times : PySem.W.Frag → Tb → Sp := spBin (fun x y => 0 < x.2 ∧ 0 < y.2) timesA
abbrev sp_p_over : PySem.W.Frag → Tb → Sp := spBin (fun x y => 0 < x.2 ∧ 0 < y.2 ∧ y.1 ≠ 0) overA
def sp_p_below (K : PySem.W.Frag) (T : Tb) : Sp := fun vs H Q _ => ∃ a b x y, vs = [.ref a, .ref b] ∧ SqT K H a (tv x) ∧ SqT K H b (tv y) ∧ (Bd 6650 x ∧ Bd 6650 y) ∧ Q (.bl (belowA x y)) H
theorem wm {i j : Int} (hi : i.natAbs < 2 ^ 6650) (hj : j.natAbs < 2 ^ 6650) : CMulW i j := wide_mul hi hj (by decide) (by decide) (by decide)
/-! ### // of great numbers: never by the other way where the one above is below 2 ^ 13500 -/
theorem noPy {x y : Int} (h : x.natAbs < 2 ^ 13500) : Builtin.divisionGoesByPylong x y = false := by
  have hx : (if x == 0 then 0 else x.natAbs.log2 / 30 + 1) ≤ 450 := by
    by_cases e : (x == 0) = true
    · rw [if_pos e]; exact Nat.zero_le _
    · rw [if_neg e]
      have : x.natAbs.log2 < 13500 := PySem.Flt.log2_lt_of (by decide) h
      omega
  show (decide ((if y == 0 then 0 else y.natAbs.log2 / 30 + 1) > 300) && decide ((if x == 0 then 0 else x.natAbs.log2 / 30 + 1) > (if y == 0 then 0 else y.natAbs.log2 / 30 + 1) + 150)) = false
  by_cases c : (if y == 0 then 0 else y.natAbs.log2 / 30 + 1) > 300
  · rw [decide_eq_false (show ¬ (if x == 0 then 0 else x.natAbs.log2 / 30 + 1) > (if y == 0 then 0 else y.natAbs.log2 / 30 + 1) + 150 by omega), Bool.and_false]
  · rw [decide_eq_false c, Bool.false_and]
def CDivP (i j : Int) : Prop := 0 < j ∧ Builtin.divisionGoesByPylong i j = false
theorem op_fdivP {X : Cx} : OpR X (binaryOp .FloorDiv) (rI CDivP fun i j => .int (i / j)) := opI fun i j _ _ _ _ _ hc q => by
  have h1 : (0 : Int) < j := hc.1
  exact floordiv_int (by omega) (by rw [Int.fdiv_eq_ediv_of_nonneg i (by omega)]; exact q) (.inl hc.2)
theorem divP {i j : Int} (h : 0 < j) (hi : i.natAbs < 2 ^ 13500) : CDivP i j := ⟨h, noPy hi⟩
theorem wl {i j : Int} (hi : i.natAbs < 2 ^ 6650) (hj : j.natAbs < 2 ^ 6650) : (i * j).natAbs < 2 ^ 13500 := Nat.lt_trans (wide_lt hi hj) (Nat.pow_lt_pow_right (by decide) (by decide))
theorem wl2 {i j k l : Int} (hi : i.natAbs < 2 ^ 6650) (hj : j.natAbs < 2 ^ 6650) (hk : k.natAbs < 2 ^ 6650) (hl : l.natAbs < 2 ^ 6650) : (i * j + k * l).natAbs < 2 ^ 13500 := by
  have a := wide_lt hi hj
  have b := wide_lt hk hl
  have e : (2 : Nat) ^ (6650 + 6650 + 1) = 2 * 2 ^ (6650 + 6650) := by rw [Nat.pow_succ, Nat.mul_comm]
  have f : (2 : Nat) ^ (6650 + 6650 + 1) < 2 ^ 13500 := Nat.pow_lt_pow_right (by decide) (by decide)
  have g := Int.natAbs_add_le (i * j) (k * l)
  omega
theorem wl3 {i j k l : Int} (hi : i.natAbs < 2 ^ 6650) (hj : j.natAbs < 2 ^ 6650) (hk : k.natAbs < 2 ^ 6650) (hl : l.natAbs < 2 ^ 6650) : (i * j - k * l).natAbs < 2 ^ 13500 := by
  rw [Int.sub_eq_add_neg, ← Int.neg_mul]
  exact wl2 hi hj (by rw [Int.natAbs_neg]; exact hk) hl

def sp_p_amount (K : PySem.W.Frag) (T : Tb) : Sp := fun vs H Q _ => ∃ n d : Int, vs = [.int n, .int d] ∧ d ≠ 0 ∧ d.natAbs < 2 ^ 13500 ∧ n.natAbs < 2 ^ 13500 ∧ ∀ p H', Sm T H H' → H p = none → H' p = some (.tup (tv (amt n d))) → Q (.ref p) H'
theorem ok_p_amount {f : Addr} {fd : FuncData} (F : Fun K "amount" "amount" s_p_amount f fd) (B : Bn mg) (F_p_common_divisor : Fn P w K mg base 1 "common_divisor" ["one", "other"] (sp_p_common_divisor K T)) : FnOk P w K mg base CX0 2 f fd ["num", "den"] (sp_p_amount K T) := by
  refine F.ok sc_p_amount (fun vs H Q E h => ?_) (fun cdv A outer s H vs Q E hr h => ?_)
  · obtain ⟨n, d, rfl, _⟩ := h
    rfl
  · obtain ⟨n, d, rfl, hd, hb, hn, q⟩ := h
    refine ⟨_, (pss_cons (ps_if (pt_cmpR op_lt (pv 1) pe_int (nomark _)) (pss_one (ps_par (i := 0) (j := 1) (by rfl) sc_p_amount.nd rfl rfl (by decide) rfl rfl (pa_cons (pe_un un_neg (pv 0)) (pa_cons (pe_un un_neg (pv 1)) pa_nil)) (by rfl))) pss_nil)
      (pss_cons (ps_set (i := 2) sc_p_amount.nd rfl (.inl rfl) (pe_fn F_p_common_divisor (hr.mono (by decide)) (pa_cons (pe_callB call_abs (by rfl) B.abs_ (by decide +kernel) (pa_cons (pv 0) pa_nil)) (pa_cons (pv 1) pa_nil))))
      (pss_one (ps_ret (pe_tup (pa_cons (pe_op op_fdivP (pv 0) (pv 2)) (pa_cons (pe_op op_fdivP (pv 1) (pv 2)) pa_nil))))))), ?_⟩
    have hg : 0 < Nat.gcd n.natAbs d.natAbs := Nat.gcd_pos_of_pos_right _ (by omega)
    refine seq_if (fun σ' H' => H' = H ∧ σ' = [some (.int (if d < 0 then -n else n)), some (.int d.natAbs), none]) (fun σ' H' p => ?_) (fun k => ?_)
    · obtain ⟨rfl, rfl⟩ := p
      refine ⟨_, rfl, _, rfl, _, rfl, n.natAbs, d.natAbs, ?_, ?_⟩
      · have : (if (if d < 0 then -n else n) < 0 then -(if d < 0 then -n else n) else (if d < 0 then -n else n)) = (n.natAbs : Int) := by split <;> split <;> omega
        rw [this] <;> rfl
      · refine ⟨_, rfl, _, rfl, _, _, rfl, rfl, divP (by omega) (by split <;> omega), ?_⟩
        refine ⟨_, rfl, _, rfl, _, _, rfl, rfl, divP (by omega) (by rw [Int.natAbs_natCast]; exact hb), ?_⟩
        refine ⟨by show 2 ≤ sizeLine; decide, fun p hp => ?_⟩
        exact q p _ (same_upd hp) hp upd_same
    · refine ⟨_, rfl, _, _, rfl, rfl, _, rfl, ite2 (fun e => ?_) (fun e => ?_)⟩
      · have e' : d < 0 := of_decide_eq_true e
        refine ⟨_, rfl, _, rfl, _, rfl, _, rfl, _, _, rfl, ?_⟩
        refine k _ _ ⟨rfl, ?_⟩
        rw [if_pos e', show ((d.natAbs : Nat) : Int) = -d by omega]
        all_goals rfl
      · have e' : ¬ d < 0 := fun z => e (decide_eq_true z)
        refine k _ _ ⟨rfl, ?_⟩
        rw [if_neg e', show ((d.natAbs : Nat) : Int) = d by omega]
        all_goals rfl

/-! ### amounts as rationals -/
def am (r : Rat) : Am := (r.num, (r.den : Int))
def vl (x : Am) : Rat := (x.1 : Rat) / (x.2 : Rat)
theorem am_low (r : Rat) : Low (am r) := ⟨by have := r.den_nz; show (0 : Int) < (r.den : Int); omega, by show Nat.gcd r.num.natAbs ((r.den : Int)).natAbs = 1; rw [Int.natAbs_natCast]; exact r.reduced⟩
theorem am_pos (r : Rat) : 0 < (am r).2 := (am_low r).1
theorem vl_am (r : Rat) : vl (am r) = r := by
  show (r.num : Rat) / ((r.den : Int) : Rat) = r
  have := Rat.num_divInt_den r
  rw [Rat.divInt_eq_div] at this
  exact this
theorem ci {a b : Int} (h : (a : Rat) = (b : Rat)) : a = b := Rat.intCast_inj.mp h
theorem cn {a : Int} (h : a ≠ 0) : (a : Rat) ≠ 0 := fun z => h (ci z)
theorem cp {a : Int} (h : 0 < a) : (0 : Rat) < (a : Rat) := Rat.intCast_pos.mpr h
theorem vl_eq {x y : Am} (hx : Low x) (hy : Low y) (e : vl x = vl y) : x = y := by
  refine low_eq hx hy (ci ?_)
  have h1 := cn (a := x.2) (by have := hx.1; omega)
  have h2 := cn (a := y.2) (by have := hy.1; omega)
  unfold vl at e
  rw [Rat.intCast_mul, Rat.intCast_mul]
  grind
theorem am_vl {x : Am} (hx : Low x) : am (vl x) = x := vl_eq (am_low _) hx (vl_am _)
theorem am_inj {a b : Rat} (h : am a = am b) : a = b := by rw [← vl_am a, h, vl_am]
theorem vl_amt {n d : Int} (hd : d ≠ 0) : vl (amt n d) = (n : Rat) / (d : Rat) := by
  have s := amt_spec (n := n) hd
  have h1 := cn (a := (amt n d).2) (by have := s.1.1; omega)
  have h2 := cn hd
  have e : (((amt n d).1 * d : Int) : Rat) = ((n * (amt n d).2 : Int) : Rat) := by rw [s.2.1]
  rw [Rat.intCast_mul, Rat.intCast_mul] at e
  unfold vl
  grind
theorem amt_am {n d : Int} (hd : d ≠ 0) : amt n d = am ((n : Rat) / (d : Rat)) := by
  rw [← vl_amt hd, am_vl (amt_spec hd).1]
theorem vle (x : Am) : vl x = (x.1 : Rat) / (x.2 : Rat) := rfl
theorem plus_am (a b : Rat) : plusA (am a) (am b) = am (a + b) := by
  have h1 := am_pos a
  have h2 := am_pos b
  unfold plusA
  rw [amt_am (by exact Int.mul_ne_zero (by omega) (by omega))]
  congr 1
  have e1 := vl_am a
  have e2 := vl_am b
  have k1 := cn (a := (am a).2) (by omega)
  have k2 := cn (a := (am b).2) (by omega)
  unfold vl at e1 e2
  rw [Rat.intCast_add, Rat.intCast_mul, Rat.intCast_mul, Rat.intCast_mul]
  grind
theorem minus_am (a b : Rat) : minusA (am a) (am b) = am (a - b) := by
  have h1 := am_pos a
  have h2 := am_pos b
  unfold minusA
  rw [amt_am (by exact Int.mul_ne_zero (by omega) (by omega))]
  congr 1
  have e1 := vl_am a
  have e2 := vl_am b
  have k1 := cn (a := (am a).2) (by omega)
  have k2 := cn (a := (am b).2) (by omega)
  unfold vl at e1 e2
  rw [Rat.intCast_sub, Rat.intCast_mul, Rat.intCast_mul, Rat.intCast_mul]
  grind
theorem times_am (a b : Rat) : timesA (am a) (am b) = am (a * b) := by
  have h1 := am_pos a
  have h2 := am_pos b
  unfold timesA
  rw [amt_am (by exact Int.mul_ne_zero (by omega) (by omega))]
  congr 1
  have e1 := vl_am a
  have e2 := vl_am b
  have k1 := cn (a := (am a).2) (by omega)
  have k2 := cn (a := (am b).2) (by omega)
  unfold vl at e1 e2
  rw [Rat.intCast_mul, Rat.intCast_mul]
  grind
theorem am_ne {b : Rat} (h : b ≠ 0) : (am b).1 ≠ 0 := fun z => h (by
  rw [← vl_am b]
  unfold vl
  rw [z]
  show (0 : Rat) / _ = 0
  grind)
theorem over_am (a b : Rat) (hb : b ≠ 0) : overA (am a) (am b) = am (a / b) := by
  have h1 := am_pos a
  have h2 := am_pos b
  have h3 := am_ne hb
  unfold overA
  rw [amt_am (by exact Int.mul_ne_zero (by omega) h3)]
  congr 1
  have e1 := vl_am a
  have e2 := vl_am b
  have k1 := cn (a := (am a).2) (by omega)
  have k2 := cn (a := (am b).2) (by omega)
  have k3 := cn h3
  unfold vl at e1 e2
  rw [Rat.intCast_mul, Rat.intCast_mul]
  grind
theorem below_am (a b : Rat) : belowA (am a) (am b) = decide (a < b) := by
  have h1 := am_pos a
  have h2 := am_pos b
  have k1 := cp h1
  have k2 := cp h2
  have e1 := vl_am a
  have e2 := vl_am b
  unfold belowA
  rw [decide_eq_decide, ← Rat.intCast_lt_intCast, Rat.intCast_mul, Rat.intCast_mul]
  unfold vl at e1 e2
  have f1 : ((am a).1 : Rat) = a * ((am a).2 : Rat) := by grind
  have f2 : ((am b).1 : Rat) = b * ((am b).2 : Rat) := by grind
  rw [f1, f2]
  have k3 := Rat.mul_pos k1 k2
  constructor
  · intro h
    by_cases z : a < b
    · exact z
    · have := Rat.mul_le_mul_of_nonneg_right (a := b) (b := a) (Rat.not_lt.mp z) (Rat.le_of_lt k3)
      grind
  · intro h
    have := Rat.mul_lt_mul_of_pos_right h k3
    grind
theorem am_int (z : Int) : am (z : Rat) = (z, 1) := by
  refine vl_eq (am_low _) ⟨by show (0 : Int) < 1; decide, by show Nat.gcd _ 1 = 1; exact Nat.gcd_one_right _⟩ ?_
  rw [vl_am]
  show (z : Rat) = (z : Rat) / ((1 : Int) : Rat)
  have : ((1 : Int) : Rat) = 1 := rfl
  rw [this]
  grind
theorem am_zero : am 0 = (0, 1) := am_int 0
theorem am_one : am 1 = (1, 1) := am_int 1
theorem am_eq_iff {a b : Rat} : am a = am b ↔ a = b := ⟨am_inj, fun h => by rw [h]⟩
theorem sub_nn {a b : Rat} (h : a < b) : 0 ≤ b - a := by grind
theorem sub_nn' {a b : Rat} (h : a ≤ b) : 0 ≤ b - a := by grind
theorem sub_le' {a b c : Rat} (h : b ≤ c) (h0 : 0 ≤ a) : b - a ≤ c := by grind
theorem neg_le {a c : Rat} (h : 0 ≤ a) (hc : 0 ≤ c) : -c ≤ a := by grind

/-! ### walking -/
def mnI (p q : Int) : Int := if q < p then q else p
def spd : List Int → List Rat → List Int
  | p :: ns, x :: xs => (match xs, spd ns xs with
      | y :: _, s :: _ => if x = y then mnI p s else p
      | _, _ => p) :: spd ns xs
  | _, _ => []
theorem spd_len : ∀ (ns : List Int) (xs : List Rat), ns.length = xs.length → (spd ns xs).length = ns.length
  | [], [], _ => rfl
  | [], _ :: _, h => by simp at h
  | _ :: _, [], h => by simp at h
  | p :: ns, x :: xs, h => by
    have := spd_len ns xs (by simpa using h)
    simp only [spd, List.length_cons, this]
theorem spd_step {ns : List Int} {xs : List Rat} (hl : ns.length = xs.length) {j : Nat} (hj : j < ns.length) :
    spd (ns.drop j) (xs.drop j) = (if h : j + 1 < ns.length then (if xs[j] = xs[j + 1] then mnI ns[j] ((spd (ns.drop (j + 1)) (xs.drop (j + 1))).headD 0) else ns[j]) else ns[j]) :: spd (ns.drop (j + 1)) (xs.drop (j + 1)) := by
  rw [List.drop_eq_getElem_cons hj, List.drop_eq_getElem_cons (show j < xs.length by omega)]
  by_cases h : j + 1 < ns.length
  · rw [dif_pos h]
    have e2 := List.drop_eq_getElem_cons (show j + 1 < xs.length by omega)
    have l := spd_len (ns.drop (j + 1)) (xs.drop (j + 1)) (by rw [List.length_drop, List.length_drop, hl])
    simp only [spd]
    cases hs : spd (ns.drop (j + 1)) (xs.drop (j + 1)) with
    | nil => rw [hs, List.length_drop] at l; simp at l; omega
    | cons s r =>
      rw [e2]
      simp
  · rw [dif_neg h]
    have e1 : ns.drop (j + 1) = [] := List.drop_eq_nil_of_le (by omega)
    have e2 : xs.drop (j + 1) = [] := List.drop_eq_nil_of_le (by omega)
    rw [e1, e2]
    simp [spd]
/-- the law's own -/
def ptl (x : Rat) : Int → List Int → List Rat → Int
  | p, q :: ns, y :: ys => ptl x (if y = x then mnI p q else p) ns ys
  | p, _, _ => p
theorem mnI_assoc (p q r : Int) : mnI (mnI p q) r = mnI p (mnI q r) := by unfold mnI; grind
theorem ptl_min (x : Rat) (p : Int) : ∀ (q : Int) (ns : List Int) (ys : List Rat), ptl x (mnI p q) ns ys = mnI p (ptl x q ns ys)
  | q, [], _ => by cases ‹List Rat› <;> rfl
  | q, _ :: _, [] => rfl
  | q, r :: ns, y :: ys => by
    simp only [ptl]
    by_cases h : y = x
    · rw [if_pos h, if_pos h, mnI_assoc, ptl_min x p]
    · rw [if_neg h, if_neg h, ptl_min x p]
theorem ptl_none (x : Rat) (p : Int) : ∀ (ns : List Int) (ys : List Rat), (∀ y ∈ ys, y ≠ x) → ptl x p ns ys = p
  | [], _, _ => by cases ‹List Rat› <;> rfl
  | _ :: _, [], _ => rfl
  | r :: ns, y :: ys, h => by
    simp only [ptl]
    rw [if_neg (h y List.mem_cons_self)]
    exact ptl_none x p ns ys fun z hz => h z (List.mem_cons_of_mem _ hz)
theorem spd_ptl : ∀ (p : Int) (x : Rat) (ns : List Int) (xs : List Rat), ns.length = xs.length → (x :: xs).Pairwise (· ≤ ·) → (spd (p :: ns) (x :: xs)).headD 0 = ptl x p ns xs
  | p, x, [], [], _, _ => rfl
  | _, _, [], _ :: _, h, _ => by simp at h
  | _, _, _ :: _, [], h, _ => by simp at h
  | p, x, q :: ns, y :: ys, h, hp => by
    have hp' := List.pairwise_cons.mp hp
    have ih := spd_ptl q y ns ys (by simpa using h) hp'.2
    have l := spd_len (q :: ns) (y :: ys) h
    cases hs : spd (q :: ns) (y :: ys) with
    | nil => rw [hs] at l; simp at l
    | cons s r =>
      rw [hs, List.headD_cons] at ih
      have e0 : spd (p :: q :: ns) (x :: y :: ys) = (if x = y then mnI p s else p) :: (s :: r) := by
        have : spd (p :: q :: ns) (x :: y :: ys) = (match y :: ys, spd (q :: ns) (y :: ys) with | y :: _, s :: _ => if x = y then mnI p s else p | _, _ => p) :: spd (q :: ns) (y :: ys) := rfl
        rw [this, hs]
      rw [e0, List.headD_cons]
      simp only [ptl]
      by_cases e : x = y
      · subst e
        rw [if_pos rfl, if_pos rfl, ptl_min, ih]
      · have hxy := hp'.1 y List.mem_cons_self
        have hl := (List.pairwise_cons.mp hp'.2).1
        rw [if_neg e, if_neg (fun z => e z.symm)]
        refine (ptl_none x p ns ys fun z hz => ?_).symm
        have := hl z hz
        grind
theorem spd_get {ns : List Int} {xs : List Rat} (hl : ns.length = xs.length) (hp : xs.Pairwise (· ≤ ·)) : ∀ {j : Nat} (hj : j < ns.length), (spd ns xs)[j]? = some (ptl xs[j] ns[j] (ns.drop (j + 1)) (xs.drop (j + 1))) := by
  intro j hj
  induction j generalizing ns xs with
  | zero =>
    match ns, xs, hl, hp, hj with
    | p :: ns, x :: xs, hl, hp, _ =>
      have := spd_ptl p x ns xs (by simpa using hl) hp
      simp only [spd] at this ⊢
      simp only [List.headD_cons] at this
      simp [this]
  | succ j ih =>
    match ns, xs, hl, hp, hj with
    | p :: ns, x :: xs, hl, hp, hj =>
      have := ih (ns := ns) (xs := xs) (by simpa using hl) (List.pairwise_cons.mp hp).2 (by simpa using hj)
      simp only [spd]
      simpa using this

/-! ### amounts over a common lower number -/
def Fr (D : Int) (r : Rat) : Prop := ∃ z : Int, r = (z : Rat) / (D : Rat)
theorem Fr.add {D : Int} {a b : Rat} (ha : Fr D a) (hb : Fr D b) : Fr D (a + b) := by
  obtain ⟨x, rfl⟩ := ha
  obtain ⟨y, rfl⟩ := hb
  exact ⟨x + y, by rw [Rat.intCast_add]; grind⟩
theorem Fr.sub {D : Int} {a b : Rat} (ha : Fr D a) (hb : Fr D b) : Fr D (a - b) := by
  obtain ⟨x, rfl⟩ := ha
  obtain ⟨y, rfl⟩ := hb
  exact ⟨x - y, by rw [Rat.intCast_sub]; grind⟩
theorem Fr.mulI {D : Int} {a : Rat} (ha : Fr D a) (k : Int) : Fr D ((k : Rat) * a) := by
  obtain ⟨x, rfl⟩ := ha
  exact ⟨k * x, by rw [Rat.intCast_mul]; grind⟩
theorem Fr.divI {D : Int} {a : Rat} (hD : D ≠ 0) (ha : Fr D a) {k : Int} (hk : k ≠ 0) : Fr (D * k) (a / (k : Rat)) := by
  obtain ⟨x, rfl⟩ := ha
  have h1 := cn hD
  have h2 := cn hk
  exact ⟨x, by rw [Rat.intCast_mul]; grind⟩
theorem Fr.int {D : Int} (hD : D ≠ 0) (k : Int) : Fr D (k : Rat) := ⟨k * D, by have := cn hD; rw [Rat.intCast_mul]; grind⟩
theorem Fr.zero {D : Int} (hD : D ≠ 0) : Fr D 0 := Fr.int hD 0
theorem Fr.scale {D : Int} {a : Rat} (hD : D ≠ 0) (ha : Fr D a) {k : Int} (hk : k ≠ 0) : Fr (D * k) a := by
  obtain ⟨x, rfl⟩ := ha
  have h1 := cn hD
  have h2 := cn hk
  exact ⟨x * k, by rw [Rat.intCast_mul, Rat.intCast_mul]; grind⟩
theorem Fr.of {n d D k : Int} (hd : d ≠ 0) (hk : k ≠ 0) (e : D = d * k) : Fr D ((n : Rat) / (d : Rat)) := by
  subst e
  have h1 := cn hd
  have h2 := cn hk
  exact ⟨n * k, by rw [Rat.intCast_mul, Rat.intCast_mul]; grind⟩
theorem ile {a b : Int} (h : (a : Rat) ≤ (b : Rat)) : a ≤ b := Rat.intCast_le_intCast.mp h
theorem fr_bd {D B : Int} {r : Rat} {k : Nat} (hD : 0 < D) (h : Fr D r) (h0 : -(B : Rat) ≤ r) (h1 : r ≤ (B : Rat)) (hb : (B * D).natAbs < 2 ^ k) (hd : D.natAbs < 2 ^ k) : Bd k (am r) := by
  obtain ⟨z, rfl⟩ := h
  have kD := cp hD
  have e1 : z ≤ B * D := ile (by
    rw [Rat.intCast_mul]
    have := Rat.mul_le_mul_of_nonneg_right h1 (Rat.le_of_lt kD)
    rw [Rat.div_mul_cancel (cn (by omega))] at this
    exact this)
  have e2 : -(B * D) ≤ z := ile (by
    rw [Rat.intCast_neg, Rat.intCast_mul]
    have := Rat.mul_le_mul_of_nonneg_right h0 (Rat.le_of_lt kD)
    rw [Rat.div_mul_cancel (cn (by omega)), Rat.neg_mul] at this
    exact this)
  have s := amt_spec (n := z) (d := D) (by omega)
  rw [← amt_am (by omega)]
  exact ⟨Nat.lt_of_le_of_lt (Nat.le_trans s.2.2.1 (by omega)) hb, Nat.lt_of_le_of_lt s.2.2.2 hd⟩

/-! ### meetings -/
def mnR (a b : Rat) : Rat := if b < a then b else a
def meetF (g : List Int) (ps : List Rat) (h : Rat) : Nat → Rat
  | 0 => h
  | i + 1 => if g.getD (i + 1) 0 < g.getD i 0 then mnR (meetF g ps h i) ((ps.getD (i + 1) 0 - ps.getD i 0) / ((g.getD i 0 - g.getD (i + 1) 0 : Int) : Rat)) else meetF g ps h i
def lastH (L : Int) (ns : List Int) (ps : List Rat) : Rat := ((L : Rat) - ps.getD (ns.length - 1) 0) / ((ns.getD (ns.length - 1) 0 : Int) : Rat)
def meetM (L : Int) (ns : List Int) (ps : List Rat) : Rat := meetF (spd ns ps) ps (lastH L ns ps) (ns.length - 1)
/-- hands on a way of labour L, all places over D -/
structure Wk (D L : Int) (ns : List Int) (ps : List Rat) : Prop where
  eq : ns.length = ps.length
  n8 : ns.length ≤ 8
  pace : ∀ n ∈ ns, 1 ≤ n ∧ n ≤ 12
  rise : ps.Pairwise (· ≤ ·)
  nn : ∀ p ∈ ps, 0 ≤ p
  fire : ∀ p ∈ ps, p ≤ (L : Rat)
  fr : ∀ p ∈ ps, Fr D p
theorem getD_mem {α : Type} {l : List α} {i : Nat} {d : α} (h : i < l.length) : l.getD i d ∈ l := by
  rw [List.getD_eq_getElem?_getD, List.getElem?_eq_getElem h]
  exact List.getElem_mem h
theorem getD_lt {α : Type} {l : List α} {i : Nat} {d : α} (h : i < l.length) : l.getD i d = l[i] := by
  rw [List.getD_eq_getElem?_getD, List.getElem?_eq_getElem h]
  rfl
theorem spd_at {ns : List Int} {xs : List Rat} (hl : ns.length = xs.length) {j : Nat} (hj : j < ns.length) : (spd ns xs).drop j = spd (ns.drop j) (xs.drop j) := by
  induction j generalizing ns xs with
  | zero => rfl
  | succ j ih =>
    match ns, xs, hl, hj with
    | p :: ns, x :: xs, hl, hj =>
      simp only [spd, List.drop_succ_cons]
      exact ih (by simpa using hl) (by simpa using hj)
theorem spd_rec {ns : List Int} {xs : List Rat} (hl : ns.length = xs.length) {j : Nat} (hj : j < ns.length) :
    (spd ns xs).getD j 0 = if j + 1 < ns.length ∧ xs.getD j 0 = xs.getD (j + 1) 0 then mnI (ns.getD j 0) ((spd ns xs).getD (j + 1) 0) else ns.getD j 0 := by
  have st := spd_step hl hj
  have e0 : (spd ns xs).getD j 0 = ((spd ns xs).drop j).headD 0 := by
    rw [List.getD_eq_getElem?_getD, List.headD_eq_head?_getD, List.head?_drop]
  rw [e0, spd_at hl hj, st, List.headD_cons, getD_lt hj]
  by_cases h : j + 1 < ns.length
  · rw [dif_pos h, getD_lt (show j < xs.length by omega), getD_lt (show j + 1 < xs.length by omega)]
    have e1 : (spd (ns.drop (j + 1)) (xs.drop (j + 1))).headD 0 = (spd ns xs).getD (j + 1) 0 := by
      rw [← spd_at hl h, List.getD_eq_getElem?_getD, List.headD_eq_head?_getD, List.head?_drop]
    rw [e1]
    by_cases e : xs[j] = xs[j + 1]
    · rw [if_pos e, if_pos ⟨h, e⟩]
    · rw [if_neg e, if_neg (fun z => e z.2)]
  · rw [dif_neg h, if_neg (fun z => h z.1)]
theorem mnI_le_l (p q : Int) : mnI p q ≤ p := by unfold mnI; split <;> omega
theorem mnI_le_r (p q : Int) : mnI p q ≤ q := by unfold mnI; split <;> omega
section
variable {D L : Int} {ns : List Int} {ps : List Rat}
theorem spd_bd (w : Wk D L ns ps) : ∀ {j : Nat}, j < ns.length → 1 ≤ (spd ns ps).getD j 0 ∧ (spd ns ps).getD j 0 ≤ 12 := by
  have key : ∀ k j, j < ns.length → ns.length - j ≤ k → 1 ≤ (spd ns ps).getD j 0 ∧ (spd ns ps).getD j 0 ≤ 12 := by
    intro k
    induction k with
    | zero => intro j h1 h2; omega
    | succ k ih =>
      intro j h1 h2
      have hp := w.pace _ (getD_mem (d := 0) h1)
      rw [spd_rec w.eq h1]
      split
      · rename_i h
        have := ih (j + 1) h.1 (by omega)
        unfold mnI
        split <;> omega
      · exact hp
  intro j h
  exact key _ j h (Nat.le_refl _)
theorem spd_same (w : Wk D L ns ps) {j : Nat} (h : j + 1 < ns.length) (e : ps.getD j 0 = ps.getD (j + 1) 0) : (spd ns ps).getD j 0 ≤ (spd ns ps).getD (j + 1) 0 := by
  rw [spd_rec w.eq (show j < ns.length by omega), if_pos ⟨h, e⟩]
  exact mnI_le_r _ _
theorem spd_last (w : Wk D L ns ps) (h : 0 < ns.length) : (spd ns ps).getD (ns.length - 1) 0 = ns.getD (ns.length - 1) 0 := by
  rw [spd_rec w.eq (by omega), if_neg (fun z => by omega)]
theorem ps_le (w : Wk D L ns ps) {j : Nat} (h : j + 1 < ns.length) : ps.getD j 0 ≤ ps.getD (j + 1) 0 := by
  have h2 : j + 1 < ps.length := by have := w.eq; omega
  rw [getD_lt (show j < ps.length by omega), getD_lt h2]
  exact List.pairwise_iff_getElem.mp w.rise j (j + 1) (by omega) h2 (by omega)
/-- where the one behind is quicker, they are apart -/
theorem apart (w : Wk D L ns ps) {j : Nat} (h : j + 1 < ns.length) (g : (spd ns ps).getD (j + 1) 0 < (spd ns ps).getD j 0) : ps.getD j 0 < ps.getD (j + 1) 0 := by
  have h1 := ps_le w h
  by_cases e : ps.getD j 0 = ps.getD (j + 1) 0
  · have := spd_same w h e
    omega
  · grind
theorem mnR_le_l (a b : Rat) : mnR a b ≤ a := by unfold mnR; split <;> grind
theorem mnR_le_r (a b : Rat) : mnR a b ≤ b := by unfold mnR; split <;> grind
theorem mnR_or (a b : Rat) : mnR a b = a ∨ mnR a b = b := by unfold mnR; split <;> simp
def cand (g : List Int) (ps : List Rat) (j : Nat) : Rat := (ps.getD (j + 1) 0 - ps.getD j 0) / ((g.getD j 0 - g.getD (j + 1) 0 : Int) : Rat)
theorem meetF_or (g : List Int) (ps : List Rat) (h : Rat) : ∀ i, meetF g ps h i = h ∨ ∃ j, j < i ∧ g.getD (j + 1) 0 < g.getD j 0 ∧ meetF g ps h i = cand g ps j
  | 0 => .inl rfl
  | i + 1 => by
    simp only [meetF]
    split
    · rename_i hg
      rcases mnR_or (meetF g ps h i) ((ps.getD (i + 1) 0 - ps.getD i 0) / ((g.getD i 0 - g.getD (i + 1) 0 : Int) : Rat)) with e | e
      · rw [e]
        rcases meetF_or g ps h i with e | ⟨j, hj, hgj, e⟩
        · exact .inl e
        · exact .inr ⟨j, by omega, hgj, e⟩
      · rw [e]
        exact .inr ⟨i, by omega, hg, rfl⟩
    · rcases meetF_or g ps h i with e | ⟨j, hj, hgj, e⟩
      · exact .inl e
      · exact .inr ⟨j, by omega, hgj, e⟩
theorem meetF_le (g : List Int) (ps : List Rat) (h : Rat) : ∀ i, meetF g ps h i ≤ h ∧ ∀ j, j < i → g.getD (j + 1) 0 < g.getD j 0 → meetF g ps h i ≤ cand g ps j
  | 0 => ⟨by simp only [meetF]; grind, fun j hj => by omega⟩
  | i + 1 => by
    have ih := meetF_le g ps h i
    simp only [meetF]
    split
    · rename_i hg
      have a := mnR_le_l (meetF g ps h i) ((ps.getD (i + 1) 0 - ps.getD i 0) / ((g.getD i 0 - g.getD (i + 1) 0 : Int) : Rat))
      have b := mnR_le_r (meetF g ps h i) ((ps.getD (i + 1) 0 - ps.getD i 0) / ((g.getD i 0 - g.getD (i + 1) 0 : Int) : Rat))
      refine ⟨by grind, fun j hj hgj => ?_⟩
      by_cases e : j = i
      · subst e; exact b
      · have := ih.2 j (by omega) hgj
        grind
    · rename_i hg
      refine ⟨ih.1, fun j hj hgj => ?_⟩
      by_cases e : j = i
      · subst e; exact absurd hgj hg
      · exact ih.2 j (by omega) hgj
theorem lt_div {a b : Rat} {k : Int} (hk : 0 < k) (h : a < b) : 0 < (b - a) / (k : Rat) := (Rat.lt_div_iff (cp hk)).mpr (by rw [Rat.zero_mul]; grind)
theorem div_mul {a : Rat} {k : Int} (hk : 0 < k) : a / (k : Rat) * (k : Rat) = a := Rat.div_mul_cancel (cn (by omega))
theorem div_le1 {a : Rat} {k : Int} (hk : 1 ≤ k) (ha : 0 ≤ a) : a / (k : Rat) ≤ a := by
  have e := div_mul (a := a) (show 0 < k by omega)
  have kp := cp (show 0 < k by omega)
  have h1 : (1 : Rat) ≤ (k : Rat) := Rat.intCast_le_intCast.mpr hk
  by_cases c : a / (k : Rat) < 0
  · have := Rat.mul_lt_mul_of_pos_right c kp
    grind
  · have := Rat.mul_le_mul_of_nonneg_left h1 (Rat.not_lt.mp c)
    grind
/-- the hours up to the i-th step of the search: over one of 1 to 12 parts -/
theorem meetF_ok (w : Wk D L ns ps) (hD : D ≠ 0) (hn : 0 < ns.length) {i : Nat} (hi : i ≤ ns.length - 1) : ∃ k : Int, 1 ≤ k ∧ k ≤ 12 ∧ Fr (D * k) (meetF (spd ns ps) ps (lastH L ns ps) i) ∧ 0 ≤ meetF (spd ns ps) ps (lastH L ns ps) i ∧ meetF (spd ns ps) ps (lastH L ns ps) i ≤ (L : Rat) := by
  have hle := w.eq
  have p0 := w.pace _ (getD_mem (d := 0) (show ns.length - 1 < ns.length by omega))
  have q0 := w.nn _ (getD_mem (d := 0) (show ns.length - 1 < ps.length by omega))
  have q1 := w.fire _ (getD_mem (d := 0) (show ns.length - 1 < ps.length by omega))
  have q2 := w.fr _ (getD_mem (d := 0) (show ns.length - 1 < ps.length by omega))
  have dp := cp (show 0 < ns.getD (ns.length - 1) 0 by omega)
  have em : lastH L ns ps * ((ns.getD (ns.length - 1) 0 : Int) : Rat) = (L : Rat) - ps.getD (ns.length - 1) 0 := div_mul (by omega)
  have h1 : (1 : Rat) ≤ ((ns.getD (ns.length - 1) 0 : Int) : Rat) := Rat.intCast_le_intCast.mpr p0.1
  have l0 : 0 ≤ lastH L ns ps := by
    by_cases c : lastH L ns ps < 0
    · have := Rat.mul_lt_mul_of_pos_right c dp
      grind
    · exact Rat.not_lt.mp c
  have lL : lastH L ns ps ≤ (L : Rat) := by
    have := Rat.mul_le_mul_of_nonneg_left h1 l0
    grind
  rcases meetF_or (spd ns ps) ps (lastH L ns ps) i with e | ⟨j, hj, hg, e⟩
  · rw [e]
    exact ⟨_, p0.1, p0.2, ((Fr.int hD L).sub q2).divI hD (by omega), l0, lL⟩
  · rw [e]
    have hj1 : j + 1 < ns.length := by omega
    have b0 := spd_bd w (show j < ns.length by omega)
    have b1 := spd_bd w hj1
    have ap := apart w hj1 hg
    have r2 := w.fr _ (getD_mem (d := 0) (show j < ps.length by omega))
    have r3 := w.fr _ (getD_mem (d := 0) (show j + 1 < ps.length by omega))
    refine ⟨(spd ns ps).getD j 0 - (spd ns ps).getD (j + 1) 0, by omega, by omega, (r3.sub r2).divI hD (by omega), Rat.le_of_lt (lt_div (by omega) ap), ?_⟩
    rw [← e]
    exact Rat.le_trans (meetF_le (spd ns ps) ps (lastH L ns ps) i).1 lL
theorem meet_pos (w : Wk D L ns ps) (hn : 0 < ns.length) (hf : ∀ p ∈ ps, p < (L : Rat)) : 0 < meetM L ns ps := by
  have hle := w.eq
  unfold meetM
  rcases meetF_or (spd ns ps) ps (lastH L ns ps) (ns.length - 1) with e | ⟨j, hj, hg, e⟩
  · rw [e]
    have p0 := w.pace _ (getD_mem (d := 0) (show ns.length - 1 < ns.length by omega))
    exact lt_div (by omega) (hf _ (getD_mem (d := 0) (show ns.length - 1 < ps.length by omega)))
  · rw [e]
    exact lt_div (by omega) (apart w (by omega) hg)
/-- for so long nobody is beyond the next one -/
theorem meet_order (w : Wk D L ns ps) {t : Rat} (h0 : 0 ≤ t) (ht : t ≤ meetM L ns ps) {j : Nat} (hj : j + 1 < ns.length) :
    ps.getD j 0 + t * (((spd ns ps).getD j 0 : Int) : Rat) ≤ ps.getD (j + 1) 0 + t * (((spd ns ps).getD (j + 1) 0 : Int) : Rat) := by
  have h1 := ps_le w hj
  by_cases g : (spd ns ps).getD (j + 1) 0 < (spd ns ps).getD j 0
  · have c := (meetF_le (spd ns ps) ps (lastH L ns ps) (ns.length - 1)).2 j (by omega) g
    have c2 : t ≤ cand (spd ns ps) ps j := Rat.le_trans ht c
    have kp := cp (show 0 < (spd ns ps).getD j 0 - (spd ns ps).getD (j + 1) 0 by omega)
    have e : cand (spd ns ps) ps j * (((spd ns ps).getD j 0 - (spd ns ps).getD (j + 1) 0 : Int) : Rat) = ps.getD (j + 1) 0 - ps.getD j 0 := div_mul (by omega)
    have := Rat.mul_le_mul_of_nonneg_right c2 (Rat.le_of_lt kp)
    rw [e, Rat.intCast_sub] at this
    grind
  · have k : (((spd ns ps).getD j 0 : Int) : Rat) ≤ (((spd ns ps).getD (j + 1) 0 : Int) : Rat) := Rat.intCast_le_intCast.mpr (by omega)
    have := Rat.mul_le_mul_of_nonneg_left k h0
    grind
theorem meet_fire (w : Wk D L ns ps) (hn : 0 < ns.length) {t : Rat} (ht : t ≤ meetM L ns ps) : ps.getD (ns.length - 1) 0 + t * (((spd ns ps).getD (ns.length - 1) 0 : Int) : Rat) ≤ (L : Rat) := by
  have c := (meetF_le (spd ns ps) ps (lastH L ns ps) (ns.length - 1)).1
  have c2 : t ≤ lastH L ns ps := Rat.le_trans ht c
  have p0 := w.pace _ (getD_mem (d := 0) (show ns.length - 1 < ns.length by omega))
  have e : lastH L ns ps * ((ns.getD (ns.length - 1) 0 : Int) : Rat) = (L : Rat) - ps.getD (ns.length - 1) 0 := div_mul (by omega)
  rw [spd_last w hn]
  have := Rat.mul_le_mul_of_nonneg_right c2 (Rat.le_of_lt (cp (show 0 < ns.getD (ns.length - 1) 0 by omega)))
  grind
/-- somebody has come up -/
theorem meet_come (w : Wk D L ns ps) (hn : 0 < ns.length) : (ps.getD (ns.length - 1) 0 + meetM L ns ps * (((spd ns ps).getD (ns.length - 1) 0 : Int) : Rat) = (L : Rat)) ∨
    ∃ j, j + 1 < ns.length ∧ ps.getD j 0 ≠ ps.getD (j + 1) 0 ∧ ps.getD j 0 + meetM L ns ps * (((spd ns ps).getD j 0 : Int) : Rat) = ps.getD (j + 1) 0 + meetM L ns ps * (((spd ns ps).getD (j + 1) 0 : Int) : Rat) := by
  have p0 := w.pace _ (getD_mem (d := 0) (show ns.length - 1 < ns.length by omega))
  unfold meetM
  rcases meetF_or (spd ns ps) ps (lastH L ns ps) (ns.length - 1) with e | ⟨j, hj, hg, e⟩
  · refine .inl ?_
    rw [e, spd_last w hn]
    have e : lastH L ns ps * ((ns.getD (ns.length - 1) 0 : Int) : Rat) = (L : Rat) - ps.getD (ns.length - 1) 0 := div_mul (by omega)
    grind
  · refine .inr ⟨j, by omega, ?_, ?_⟩
    · have := apart w (j := j) (by omega) hg
      grind
    · rw [e]
      have e : cand (spd ns ps) ps j * (((spd ns ps).getD j 0 - (spd ns ps).getD (j + 1) 0 : Int) : Rat) = ps.getD (j + 1) 0 - ps.getD j 0 := div_mul (by omega)
      rw [Rat.intCast_sub] at e
      grind
end

theorem shaped_am (x : Am) : SeqAt.shaped (.tuple [.int x.1, .int x.2]) = true := by
  simp [SeqAt.shaped, PyData.canLay0, PyData.canLayAll0, PyData.depth, PyData.depthAll]
theorem eqv_am (x y : Am) : PyData.eqv (.tuple [.int x.1, .int x.2]) (.tuple [.int y.1, .int y.2]) = decide (x = y) := by
  obtain ⟨a, b⟩ := x
  obtain ⟨c, d⟩ := y
  simp only [PyData.eqv, PyData.eqvAll, Bool.and_true, Prod.mk.injEq]
  by_cases h1 : a = c <;> by_cases h2 : b = d <;> simp [h1, h2]
theorem ne_am {x y : Am} (h : x = y) : (!PyData.eqv (.tuple [.int x.1, .int x.2]) (.tuple [.int y.1, .int y.2])) = false := by rw [eqv_am, decide_eq_true h]; rfl

theorem dpa_ints {K : PySem.W.Frag} {H : Hp} : ∀ ns : List Int, DpAll K H (ns.map V.int) (ns.map PyData.int)
  | [] => .nil
  | n :: ns => .cons (.int n) (dpa_ints ns)
theorem dp_ints {K : PySem.W.Frag} {H : Hp} {a : Addr} {ns : List Int} (h : SqL K H a (ns.map V.int)) : Dp K H (.ref a) (.list (ns.map PyData.int)) := .lst h (dpa_ints ns)
theorem depOk_ints {n : Nat} {ns : List Int} (h : ns.length ≤ 9000) : depOk (n + 1) (.list (ns.map PyData.int)) = true := by
  show (decide ((ns.map PyData.int).length ≤ 9000) && (ns.map PyData.int).all (depOk n)) = true
  rw [List.length_map, decide_eq_true h, Bool.true_and, List.all_map]
  exact List.all_eq_true.mpr fun q _ => by cases n <;> rfl
theorem depOk_amsN {n : Nat} {qs : List Am} (h : qs.length ≤ 9000) : depOk (n + 2) (.list (qs.map amD)) = true := by
  show (decide ((qs.map amD).length ≤ 9000) && (qs.map amD).all (depOk (n + 1))) = true
  rw [List.length_map, decide_eq_true h, Bool.true_and, List.all_map]
  refine List.all_eq_true.mpr fun q _ => ?_
  cases n <;> rfl

theorem ok_p_plus {f : Addr} {fd : FuncData} (F : Fun K "plus" "plus" s_p_plus f fd) (F_p_amount : Fn P w K mg base 2 "amount" ["num", "den"] (sp_p_amount K T)) : FnOk P w K mg base CX0 3 f fd ["one", "other"] (sp_p_plus K T) := by
  refine F.ok sc_p_plus (fun vs H Q E h => ?_) (fun cdv A outer s H vs Q E hr h => ?_)
  · obtain ⟨a, b, x, y, rfl, _⟩ := h
    rfl
  · obtain ⟨a, b, x, y, rfl, ha, hb, ⟨bx, by_⟩, ⟨hx, hy⟩, q⟩ := h
    refine ⟨_, (pss_one (ps_ret (pe_fn F_p_amount (hr.mono (by decide)) (pa_cons (pe_op op_add (pe_op op_mulW (pe_ix ix_tup (pv 0) pe_int (fun _ _ => rfl)) (pe_ix ix_tup (pv 1) pe_int (fun _ _ => rfl))) (pe_op op_mulW (pe_ix ix_tup (pv 1) pe_int (fun _ _ => rfl)) (pe_ix ix_tup (pv 0) pe_int (fun _ _ => rfl)))) (pa_cons (pe_op op_mulW (pe_ix ix_tup (pv 0) pe_int (fun _ _ => rfl)) (pe_ix ix_tup (pv 1) pe_int (fun _ _ => rfl))) pa_nil))))), ?_⟩
    refine ⟨_, rfl, a, _, 0, .int x.1, rfl, rfl, ha, atI_nat (j := 0) rfl, _, rfl, b, _, 1, .int y.2, rfl, rfl, hb, atI_nat (j := 1) rfl, _, _, rfl, rfl, wm bx.1 by_.2, ?_⟩
    refine ⟨_, rfl, b, _, 0, .int y.1, rfl, rfl, hb, atI_nat (j := 0) rfl, _, rfl, a, _, 1, .int x.2, rfl, rfl, ha, atI_nat (j := 1) rfl, _, _, rfl, rfl, wm by_.1 bx.2, _, _, rfl, rfl, ?_⟩
    refine ⟨_, rfl, a, _, 1, .int x.2, rfl, rfl, ha, atI_nat (j := 1) rfl, _, rfl, b, _, 1, .int y.2, rfl, rfl, hb, atI_nat (j := 1) rfl, _, _, rfl, rfl, wm bx.2 by_.2, ?_⟩
    exact ⟨_, _, rfl, Int.mul_ne_zero (by omega) (by omega), wl bx.2 by_.2, wl2 bx.1 by_.2 by_.1 bx.2, q⟩

theorem ok_p_minus {f : Addr} {fd : FuncData} (F : Fun K "minus" "minus" s_p_minus f fd) (F_p_amount : Fn P w K mg base 2 "amount" ["num", "den"] (sp_p_amount K T)) : FnOk P w K mg base CX0 3 f fd ["one", "other"] (sp_p_minus K T) := by
  refine F.ok sc_p_minus (fun vs H Q E h => ?_) (fun cdv A outer s H vs Q E hr h => ?_)
  · obtain ⟨a, b, x, y, rfl, _⟩ := h
    rfl
  · obtain ⟨a, b, x, y, rfl, ha, hb, ⟨bx, by_⟩, ⟨hx, hy⟩, q⟩ := h
    refine ⟨_, (pss_one (ps_ret (pe_fn F_p_amount (hr.mono (by decide)) (pa_cons (pe_op op_sub (pe_op op_mulW (pe_ix ix_tup (pv 0) pe_int (fun _ _ => rfl)) (pe_ix ix_tup (pv 1) pe_int (fun _ _ => rfl))) (pe_op op_mulW (pe_ix ix_tup (pv 1) pe_int (fun _ _ => rfl)) (pe_ix ix_tup (pv 0) pe_int (fun _ _ => rfl)))) (pa_cons (pe_op op_mulW (pe_ix ix_tup (pv 0) pe_int (fun _ _ => rfl)) (pe_ix ix_tup (pv 1) pe_int (fun _ _ => rfl))) pa_nil))))), ?_⟩
    refine ⟨_, rfl, a, _, 0, .int x.1, rfl, rfl, ha, atI_nat (j := 0) rfl, _, rfl, b, _, 1, .int y.2, rfl, rfl, hb, atI_nat (j := 1) rfl, _, _, rfl, rfl, wm bx.1 by_.2, ?_⟩
    refine ⟨_, rfl, b, _, 0, .int y.1, rfl, rfl, hb, atI_nat (j := 0) rfl, _, rfl, a, _, 1, .int x.2, rfl, rfl, ha, atI_nat (j := 1) rfl, _, _, rfl, rfl, wm by_.1 bx.2, _, _, rfl, rfl, ?_⟩
    refine ⟨_, rfl, a, _, 1, .int x.2, rfl, rfl, ha, atI_nat (j := 1) rfl, _, rfl, b, _, 1, .int y.2, rfl, rfl, hb, atI_nat (j := 1) rfl, _, _, rfl, rfl, wm bx.2 by_.2, ?_⟩
    exact ⟨_, _, rfl, Int.mul_ne_zero (by omega) (by omega), wl bx.2 by_.2, wl3 bx.1 by_.2 by_.1 bx.2, q⟩

theorem ok_p_times {f : Addr} {fd : FuncData} (F : Fun K "times" "times" s_p_times f fd) (F_p_amount : Fn P w K mg base 2 "amount" ["num", "den"] (sp_p_amount K T)) : FnOk P w K mg base CX0 3 f fd ["one", "other"] (sp_p_times K T) := by
  refine F.ok sc_p_times (fun vs H Q E h => ?_) (fun cdv A outer s H vs Q E hr h => ?_)
  · obtain ⟨a, b, x, y, rfl, _⟩ := h
    rfl
  · obtain ⟨a, b, x, y, rfl, ha, hb, ⟨bx, by_⟩, ⟨hx, hy⟩, q⟩ := h
    refine ⟨_, (pss_one (ps_ret (pe_fn F_p_amount (hr.mono (by decide)) (pa_cons (pe_op op_mulW (pe_ix ix_tup (pv 0) pe_int (fun _ _ => rfl)) (pe_ix ix_tup (pv 1) pe_int (fun _ _ => rfl))) (pa_cons (pe_op op_mulW (pe_ix ix_tup (pv 0) pe_int (fun _ _ => rfl)) (pe_ix ix_tup (pv 1) pe_int (fun _ _ => rfl))) pa_nil))))), ?_⟩
    refine ⟨_, rfl, a, _, 0, .int x.1, rfl, rfl, ha, atI_nat (j := 0) rfl, _, rfl, b, _, 0, .int y.1, rfl, rfl, hb, atI_nat (j := 0) rfl, _, _, rfl, rfl, wm bx.1 by_.1, ?_⟩
    refine ⟨_, rfl, a, _, 1, .int x.2, rfl, rfl, ha, atI_nat (j := 1) rfl, _, rfl, b, _, 1, .int y.2, rfl, rfl, hb, atI_nat (j := 1) rfl, _, _, rfl, rfl, wm bx.2 by_.2, ?_⟩
    exact ⟨_, _, rfl, Int.mul_ne_zero (by omega) (by omega), wl bx.2 by_.2, wl bx.1 by_.1, q⟩

theorem ok_p_over {f : Addr} {fd : FuncData} (F : Fun K "over" "over" s_p_over f fd) (F_p_amount : Fn P w K mg base 2 "amount" ["num", "den"] (sp_p_amount K T)) : FnOk P w K mg base CX0 3 f fd ["one", "other"] (sp_p_over K T) := by
  refine F.ok sc_p_over (fun vs H Q E h => ?_) (fun cdv A outer s H vs Q E hr h => ?_)
  · obtain ⟨a, b, x, y, rfl, _⟩ := h
    rfl
  · obtain ⟨a, b, x, y, rfl, ha, hb, ⟨bx, by_⟩, ⟨hx, hy, hn⟩, q⟩ := h
    refine ⟨_, (pss_one (ps_ret (pe_fn F_p_amount (hr.mono (by decide)) (pa_cons (pe_op op_mulW (pe_ix ix_tup (pv 0) pe_int (fun _ _ => rfl)) (pe_ix ix_tup (pv 1) pe_int (fun _ _ => rfl))) (pa_cons (pe_op op_mulW (pe_ix ix_tup (pv 0) pe_int (fun _ _ => rfl)) (pe_ix ix_tup (pv 1) pe_int (fun _ _ => rfl))) pa_nil))))), ?_⟩
    refine ⟨_, rfl, a, _, 0, .int x.1, rfl, rfl, ha, atI_nat (j := 0) rfl, _, rfl, b, _, 1, .int y.2, rfl, rfl, hb, atI_nat (j := 1) rfl, _, _, rfl, rfl, wm bx.1 by_.2, ?_⟩
    refine ⟨_, rfl, a, _, 1, .int x.2, rfl, rfl, ha, atI_nat (j := 1) rfl, _, rfl, b, _, 0, .int y.1, rfl, rfl, hb, atI_nat (j := 0) rfl, _, _, rfl, rfl, wm bx.2 by_.1, ?_⟩
    exact ⟨_, _, rfl, Int.mul_ne_zero (by omega) hn, wl bx.2 by_.1, wl bx.1 by_.2, q⟩

theorem ok_p_below {f : Addr} {fd : FuncData} (F : Fun K "below" "below" s_p_below f fd) : FnOk P w K mg base CX0 1 f fd ["one", "other"] (sp_p_below K T) := by
  refine F.ok sc_p_below (fun vs H Q E h => ?_) (fun cdv A outer s H vs Q E hr h => ?_)
  · obtain ⟨a, b, x, y, rfl, _⟩ := h
    rfl
  · obtain ⟨a, b, x, y, rfl, ha, hb, ⟨bx, by_⟩, q⟩ := h
    refine ⟨_, (pss_one (ps_ret (pe_cmpR op_lt (pe_op op_mulW (pe_ix ix_tup (pv 0) pe_int (fun _ _ => rfl)) (pe_ix ix_tup (pv 1) pe_int (fun _ _ => rfl))) (pe_op op_mulW (pe_ix ix_tup (pv 1) pe_int (fun _ _ => rfl)) (pe_ix ix_tup (pv 0) pe_int (fun _ _ => rfl))) (nomark _)))), ?_⟩
    refine ⟨_, rfl, a, _, 0, .int x.1, rfl, rfl, ha, atI_nat (j := 0) rfl, _, rfl, b, _, 1, .int y.2, rfl, rfl, hb, atI_nat (j := 1) rfl, _, _, rfl, rfl, wm bx.1 by_.2, ?_⟩
    exact ⟨_, rfl, b, _, 0, .int y.1, rfl, rfl, hb, atI_nat (j := 0) rfl, _, rfl, a, _, 1, .int x.2, rfl, rfl, ha, atI_nat (j := 1) rfl, _, _, rfl, rfl, wm by_.1 bx.2, _, _, rfl, rfl, q⟩

def sp_p_lesser (K : PySem.W.Frag) (T : Tb) : Sp := fun vs H Q _ => ∃ a b x y, vs = [.ref a, .ref b] ∧ SqT K H a (tv x) ∧ SqT K H b (tv y) ∧ (Bd 6650 x ∧ Bd 6650 y) ∧ Q (.ref (if belowA x y = true then a else b)) H
theorem ok_p_lesser {f : Addr} {fd : FuncData} (F : Fun K "lesser" "lesser" s_p_lesser f fd) (F_p_below : Fn P w K mg base 1 "below" ["one", "other"] (sp_p_below K T)) : FnOk P w K mg base CX0 2 f fd ["one", "other"] (sp_p_lesser K T) := by
  refine F.ok sc_p_lesser (fun vs H Q E h => ?_) (fun cdv A outer s H vs Q E hr h => ?_)
  · obtain ⟨a, b, x, y, rfl, _⟩ := h
    rfl
  · obtain ⟨a, b, x, y, rfl, ha, hb, bd, q⟩ := h
    refine ⟨_, (pss_one (ps_ret (pe_ifExp (pt_val (pe_fn F_p_below (hr.mono (by decide)) (pa_cons (pv 0) (pa_cons (pv 1) pa_nil)))) (pv 0) (pv 1)))), ?_⟩
    refine ⟨_, rfl, _, rfl, a, b, x, y, rfl, ha, hb, bd, _, rfl, ?_⟩
    cases hz : belowA x y with
    | true =>
      rw [hz, if_pos rfl] at q
      exact iteT ⟨_, rfl, q⟩
    | false =>
      rw [hz, if_neg (by decide)] at q
      exact iteF ⟨_, rfl, q⟩

theorem lesser_sq {K : PySem.W.Frag} {H : Hp} {a b : Addr} {x y : Rat} (ha : SqT K H a (tv (am x))) (hb : SqT K H b (tv (am y))) : SqT K H (if belowA (am x) (am y) = true then a else b) (tv (am (mnR x y))) := by
  rw [below_am]
  unfold mnR
  by_cases h : x < y
  · rw [decide_eq_true h, if_pos rfl, if_neg (by grind)]
    exact ha
  · rw [decide_eq_false h, if_neg (by decide)]
    by_cases h2 : y < x
    · rw [if_pos h2]
      exact hb
    · rw [if_neg h2, show x = y by grind]
      exact hb

theorem ok_PailError {f : Addr} {fd : FuncData} (F : Fun K "__init__" "PailError.__init__" s_p_PailError___init__ f fd) (mV : mg "ValueError" = none) (vV : PySem.W.findCls K (.type "ValueError") (.type "type") "__init__" = some (.val (.builtin "ValueError.__init__"))) :
    FnOk P w K mg base CX0 1 f fd ["self", "word"] (spInit2 K) := by
  refine F.ok sc_p_PailError___init__ (fun vs H Q E h => ?_) (fun cdv A outer s H vs Q E hr h => ?_)
  · obtain ⟨a, C, w, rfl, _⟩ := h
    rfl
  · obtain ⟨a, C, w, rfl, oc, nw, ea, q⟩ := h
    refine ⟨_, (pss_cons (ps_expr (pe_veinit (by rfl) mV vV (pa_cons (pv 0) (pa_cons (pv 1) pa_nil))))
      (pss_one (ps_ost (pv 0) (pv 1)))), ?_⟩
    refine ⟨_, rfl, _, rfl, a, C, [.str w], rfl, by show 1 ≤ 1000; decide, oc, ea, ?_⟩
    exact ⟨_, rfl, _, rfl, a, C, rfl, oc, nw, .inl ⟨ea, fun dx n ne => q dx n ne⟩⟩
theorem ok_BadWay {f fP CP : Addr} {fd fdP : FuncData} {mc : Value} (F : Fun K "__init__" "BadWay.__init__" s_p_BadWay___init__ f fd) (cr : ClX.CRead K CP mc) (hat : PySem.W.findCls K (.ref CP) mc "__init__" = some (.val (.ref fP))) (FP : FnOk P w K mg base CX0 1 fP fdP ["self", "word"] (spInit2 K))
    (gP : mg "PailError" = some (.ref CP)) (kP : PySem.W.keepIn K (.ref fP) = true) (bP : Binds K fdP ["self", "word"] []) : FnOk P w K mg base CX0 2 f fd ["self"] (spInit "bad way" K) := by
  refine F.ok sc_p_BadWay___init__ (fun vs H Q E h => ?_) (fun cdv A outer s H vs Q E hr h => ?_)
  · obtain ⟨a, C, rfl, _⟩ := h
    rfl
  · obtain ⟨a, C, rfl, oc, nw, ea, q⟩ := h
    refine ⟨_, (pss_one (ps_expr (pe_clsfn cr hat FP hr (by rfl) gP kP bP (pa_cons (pv 0) (pa_cons pe_str pa_nil))))), ?_⟩
    exact ⟨_, rfl, a, C, "bad way", rfl, oc, nw, ea, q⟩
theorem ok_BadName {f fP CP : Addr} {fd fdP : FuncData} {mc : Value} (F : Fun K "__init__" "BadName.__init__" s_p_BadName___init__ f fd) (cr : ClX.CRead K CP mc) (hat : PySem.W.findCls K (.ref CP) mc "__init__" = some (.val (.ref fP))) (FP : FnOk P w K mg base CX0 1 fP fdP ["self", "word"] (spInit2 K))
    (gP : mg "PailError" = some (.ref CP)) (kP : PySem.W.keepIn K (.ref fP) = true) (bP : Binds K fdP ["self", "word"] []) : FnOk P w K mg base CX0 2 f fd ["self"] (spInit "bad name" K) := by
  refine F.ok sc_p_BadName___init__ (fun vs H Q E h => ?_) (fun cdv A outer s H vs Q E hr h => ?_)
  · obtain ⟨a, C, rfl, _⟩ := h
    rfl
  · obtain ⟨a, C, rfl, oc, nw, ea, q⟩ := h
    refine ⟨_, (pss_one (ps_expr (pe_clsfn cr hat FP hr (by rfl) gP kP bP (pa_cons (pv 0) (pa_cons pe_str pa_nil))))), ?_⟩
    exact ⟨_, rfl, a, C, "bad name", rfl, oc, nw, ea, q⟩
theorem ok_Taken {f fP CP : Addr} {fd fdP : FuncData} {mc : Value} (F : Fun K "__init__" "Taken.__init__" s_p_Taken___init__ f fd) (cr : ClX.CRead K CP mc) (hat : PySem.W.findCls K (.ref CP) mc "__init__" = some (.val (.ref fP))) (FP : FnOk P w K mg base CX0 1 fP fdP ["self", "word"] (spInit2 K))
    (gP : mg "PailError" = some (.ref CP)) (kP : PySem.W.keepIn K (.ref fP) = true) (bP : Binds K fdP ["self", "word"] []) : FnOk P w K mg base CX0 2 f fd ["self"] (spInit "taken" K) := by
  refine F.ok sc_p_Taken___init__ (fun vs H Q E h => ?_) (fun cdv A outer s H vs Q E hr h => ?_)
  · obtain ⟨a, C, rfl, _⟩ := h
    rfl
  · obtain ⟨a, C, rfl, oc, nw, ea, q⟩ := h
    refine ⟨_, (pss_one (ps_expr (pe_clsfn cr hat FP hr (by rfl) gP kP bP (pa_cons (pv 0) (pa_cons pe_str pa_nil))))), ?_⟩
    exact ⟨_, rfl, a, C, "taken", rfl, oc, nw, ea, q⟩
theorem ok_BadPace {f fP CP : Addr} {fd fdP : FuncData} {mc : Value} (F : Fun K "__init__" "BadPace.__init__" s_p_BadPace___init__ f fd) (cr : ClX.CRead K CP mc) (hat : PySem.W.findCls K (.ref CP) mc "__init__" = some (.val (.ref fP))) (FP : FnOk P w K mg base CX0 1 fP fdP ["self", "word"] (spInit2 K))
    (gP : mg "PailError" = some (.ref CP)) (kP : PySem.W.keepIn K (.ref fP) = true) (bP : Binds K fdP ["self", "word"] []) : FnOk P w K mg base CX0 2 f fd ["self"] (spInit "bad pace" K) := by
  refine F.ok sc_p_BadPace___init__ (fun vs H Q E h => ?_) (fun cdv A outer s H vs Q E hr h => ?_)
  · obtain ⟨a, C, rfl, _⟩ := h
    rfl
  · obtain ⟨a, C, rfl, oc, nw, ea, q⟩ := h
    refine ⟨_, (pss_one (ps_expr (pe_clsfn cr hat FP hr (by rfl) gP kP bP (pa_cons (pv 0) (pa_cons pe_str pa_nil))))), ?_⟩
    exact ⟨_, rfl, a, C, "bad pace", rfl, oc, nw, ea, q⟩
theorem ok_Full {f fP CP : Addr} {fd fdP : FuncData} {mc : Value} (F : Fun K "__init__" "Full.__init__" s_p_Full___init__ f fd) (cr : ClX.CRead K CP mc) (hat : PySem.W.findCls K (.ref CP) mc "__init__" = some (.val (.ref fP))) (FP : FnOk P w K mg base CX0 1 fP fdP ["self", "word"] (spInit2 K))
    (gP : mg "PailError" = some (.ref CP)) (kP : PySem.W.keepIn K (.ref fP) = true) (bP : Binds K fdP ["self", "word"] []) : FnOk P w K mg base CX0 2 f fd ["self"] (spInit "full" K) := by
  refine F.ok sc_p_Full___init__ (fun vs H Q E h => ?_) (fun cdv A outer s H vs Q E hr h => ?_)
  · obtain ⟨a, C, rfl, _⟩ := h
    rfl
  · obtain ⟨a, C, rfl, oc, nw, ea, q⟩ := h
    refine ⟨_, (pss_one (ps_expr (pe_clsfn cr hat FP hr (by rfl) gP kP bP (pa_cons (pv 0) (pa_cons pe_str pa_nil))))), ?_⟩
    exact ⟨_, rfl, a, C, "full", rfl, oc, nw, ea, q⟩
theorem ok_NoHand {f fP CP : Addr} {fd fdP : FuncData} {mc : Value} (F : Fun K "__init__" "NoHand.__init__" s_p_NoHand___init__ f fd) (cr : ClX.CRead K CP mc) (hat : PySem.W.findCls K (.ref CP) mc "__init__" = some (.val (.ref fP))) (FP : FnOk P w K mg base CX0 1 fP fdP ["self", "word"] (spInit2 K))
    (gP : mg "PailError" = some (.ref CP)) (kP : PySem.W.keepIn K (.ref fP) = true) (bP : Binds K fdP ["self", "word"] []) : FnOk P w K mg base CX0 2 f fd ["self"] (spInit "no hand" K) := by
  refine F.ok sc_p_NoHand___init__ (fun vs H Q E h => ?_) (fun cdv A outer s H vs Q E hr h => ?_)
  · obtain ⟨a, C, rfl, _⟩ := h
    rfl
  · obtain ⟨a, C, rfl, oc, nw, ea, q⟩ := h
    refine ⟨_, (pss_one (ps_expr (pe_clsfn cr hat FP hr (by rfl) gP kP bP (pa_cons (pv 0) (pa_cons pe_str pa_nil))))), ?_⟩
    exact ⟨_, rfl, a, C, "no hand", rfl, oc, nw, ea, q⟩
theorem ok_Called {f fP CP : Addr} {fd fdP : FuncData} {mc : Value} (F : Fun K "__init__" "Called.__init__" s_p_Called___init__ f fd) (cr : ClX.CRead K CP mc) (hat : PySem.W.findCls K (.ref CP) mc "__init__" = some (.val (.ref fP))) (FP : FnOk P w K mg base CX0 1 fP fdP ["self", "word"] (spInit2 K))
    (gP : mg "PailError" = some (.ref CP)) (kP : PySem.W.keepIn K (.ref fP) = true) (bP : Binds K fdP ["self", "word"] []) : FnOk P w K mg base CX0 2 f fd ["self"] (spInit "called" K) := by
  refine F.ok sc_p_Called___init__ (fun vs H Q E h => ?_) (fun cdv A outer s H vs Q E hr h => ?_)
  · obtain ⟨a, C, rfl, _⟩ := h
    rfl
  · obtain ⟨a, C, rfl, oc, nw, ea, q⟩ := h
    refine ⟨_, (pss_one (ps_expr (pe_clsfn cr hat FP hr (by rfl) gP kP bP (pa_cons (pv 0) (pa_cons pe_str pa_nil))))), ?_⟩
    exact ⟨_, rfl, a, C, "called", rfl, oc, nw, ea, q⟩
theorem ok_NotCalled {f fP CP : Addr} {fd fdP : FuncData} {mc : Value} (F : Fun K "__init__" "NotCalled.__init__" s_p_NotCalled___init__ f fd) (cr : ClX.CRead K CP mc) (hat : PySem.W.findCls K (.ref CP) mc "__init__" = some (.val (.ref fP))) (FP : FnOk P w K mg base CX0 1 fP fdP ["self", "word"] (spInit2 K))
    (gP : mg "PailError" = some (.ref CP)) (kP : PySem.W.keepIn K (.ref fP) = true) (bP : Binds K fdP ["self", "word"] []) : FnOk P w K mg base CX0 2 f fd ["self"] (spInit "not called" K) := by
  refine F.ok sc_p_NotCalled___init__ (fun vs H Q E h => ?_) (fun cdv A outer s H vs Q E hr h => ?_)
  · obtain ⟨a, C, rfl, _⟩ := h
    rfl
  · obtain ⟨a, C, rfl, oc, nw, ea, q⟩ := h
    refine ⟨_, (pss_one (ps_expr (pe_clsfn cr hat FP hr (by rfl) gP kP bP (pa_cons (pv 0) (pa_cons pe_str pa_nil))))), ?_⟩
    exact ⟨_, rfl, a, C, "not called", rfl, oc, nw, ea, q⟩
theorem ok_NoNext {f fP CP : Addr} {fd fdP : FuncData} {mc : Value} (F : Fun K "__init__" "NoNext.__init__" s_p_NoNext___init__ f fd) (cr : ClX.CRead K CP mc) (hat : PySem.W.findCls K (.ref CP) mc "__init__" = some (.val (.ref fP))) (FP : FnOk P w K mg base CX0 1 fP fdP ["self", "word"] (spInit2 K))
    (gP : mg "PailError" = some (.ref CP)) (kP : PySem.W.keepIn K (.ref fP) = true) (bP : Binds K fdP ["self", "word"] []) : FnOk P w K mg base CX0 2 f fd ["self"] (spInit "no next" K) := by
  refine F.ok sc_p_NoNext___init__ (fun vs H Q E h => ?_) (fun cdv A outer s H vs Q E hr h => ?_)
  · obtain ⟨a, C, rfl, _⟩ := h
    rfl
  · obtain ⟨a, C, rfl, oc, nw, ea, q⟩ := h
    refine ⟨_, (pss_one (ps_expr (pe_clsfn cr hat FP hr (by rfl) gP kP bP (pa_cons (pv 0) (pa_cons pe_str pa_nil))))), ?_⟩
    exact ⟨_, rfl, a, C, "no next", rfl, oc, nw, ea, q⟩
theorem ok_BadTime {f fP CP : Addr} {fd fdP : FuncData} {mc : Value} (F : Fun K "__init__" "BadTime.__init__" s_p_BadTime___init__ f fd) (cr : ClX.CRead K CP mc) (hat : PySem.W.findCls K (.ref CP) mc "__init__" = some (.val (.ref fP))) (FP : FnOk P w K mg base CX0 1 fP fdP ["self", "word"] (spInit2 K))
    (gP : mg "PailError" = some (.ref CP)) (kP : PySem.W.keepIn K (.ref fP) = true) (bP : Binds K fdP ["self", "word"] []) : FnOk P w K mg base CX0 2 f fd ["self"] (spInit "bad time" K) := by
  refine F.ok sc_p_BadTime___init__ (fun vs H Q E h => ?_) (fun cdv A outer s H vs Q E hr h => ?_)
  · obtain ⟨a, C, rfl, _⟩ := h
    rfl
  · obtain ⟨a, C, rfl, oc, nw, ea, q⟩ := h
    refine ⟨_, (pss_one (ps_expr (pe_clsfn cr hat FP hr (by rfl) gP kP bP (pa_cons (pv 0) (pa_cons pe_str pa_nil))))), ?_⟩
    exact ⟨_, rfl, a, C, "bad time", rfl, oc, nw, ea, q⟩
theorem ok_TooLong {f fP CP : Addr} {fd fdP : FuncData} {mc : Value} (F : Fun K "__init__" "TooLong.__init__" s_p_TooLong___init__ f fd) (cr : ClX.CRead K CP mc) (hat : PySem.W.findCls K (.ref CP) mc "__init__" = some (.val (.ref fP))) (FP : FnOk P w K mg base CX0 1 fP fdP ["self", "word"] (spInit2 K))
    (gP : mg "PailError" = some (.ref CP)) (kP : PySem.W.keepIn K (.ref fP) = true) (bP : Binds K fdP ["self", "word"] []) : FnOk P w K mg base CX0 2 f fd ["self"] (spInit "too long" K) := by
  refine F.ok sc_p_TooLong___init__ (fun vs H Q E h => ?_) (fun cdv A outer s H vs Q E hr h => ?_)
  · obtain ⟨a, C, rfl, _⟩ := h
    rfl
  · obtain ⟨a, C, rfl, oc, nw, ea, q⟩ := h
    refine ⟨_, (pss_one (ps_expr (pe_clsfn cr hat FP hr (by rfl) gP kP bP (pa_cons (pv 0) (pa_cons pe_str pa_nil))))), ?_⟩
    exact ⟨_, rfl, a, C, "too long", rfl, oc, nw, ea, q⟩

theorem Drawn.get : ∀ {ds qs : List Int} {i : Nat} {q : Int}, Drawn ds qs → qs[i]? = some q → ∃ d, ds[i]? = some d ∧ 0 ≤ d ∧ d < q
  | [], [], i, q, _, e => by simp at e
  | [], _ :: _, _, _, h, _ => h.elim
  | _ :: _, [], _, _, h, _ => h.elim
  | d :: _, _ :: _, 0, q, h, e => by
    obtain rfl := Option.some.inj e
    exact ⟨d, rfl, h.1.1, h.1.2⟩
  | _ :: ds, _ :: qs, i + 1, q, h, e => Drawn.get (ds := ds) (qs := qs) h.2 e
theorem at_map {ds : List Int} {i : Nat} {d z : Int} (hz : z = (i : Int)) (h : ds[i]? = some d) : atI (ds.map V.int) z = some (.int d) := by
  subst hz
  exact at_of (j := i) rfl (by rw [List.getElem?_map, h]; rfl)

theorem am_at {K : PySem.W.Frag} {H : Hp} {us : List V} {ps : List Rat} (hd : DpAll K H us ((ps.map am).map amD)) {i : Nat} (hi : i < ps.length) : ∃ b, us[i]? = some (.ref b) ∧ SqT K H b (tv (am ps[i])) := by
  obtain ⟨v, e1, e2⟩ := dpa_get hd (i := i) (d := amD (am ps[i])) (by rw [List.getElem?_map, List.getElem?_map, List.getElem?_eq_getElem hi]; rfl)
  obtain ⟨b, rfl, hb⟩ := pd_at e2
  exact ⟨b, e1, hb⟩

theorem bd_int {k : Int} (h : k.natAbs < 2 ^ 6550) : Bd 6650 ((k, 1) : Am) := ⟨Nat.lt_trans h (Nat.pow_lt_pow_right (by decide) (by decide)), by show (1 : Int).natAbs < 2 ^ 6650; exact Nat.one_lt_two_pow (by decide)⟩
theorem small {k : Int} (h : k.natAbs < 2 ^ 60) : k.natAbs < 2 ^ 6550 := Nat.lt_trans h (Nat.pow_lt_pow_right (by decide) (by decide))
theorem bd_fr {D k : Int} {r : Rat} (hD : 0 < D) (hd : D.natAbs < 2 ^ 6550) (h1 : 1 ≤ k) (h2 : k ≤ 12) (h : Fr (D * k) r) (h3 : -(1000 : Rat) ≤ r) (h4 : r ≤ 1000) : Bd 6650 (am r) := by
  have e : (2 : Nat) ^ 6650 = 2 ^ 100 * 2 ^ 6550 := by rw [← Nat.pow_add]
  have a1 : (D * k).natAbs ≤ 16 * D.natAbs := by rw [Int.natAbs_mul, Nat.mul_comm]; exact Nat.mul_le_mul_right _ (by omega)
  have a2 : (1000 * (D * k)).natAbs ≤ 16000 * D.natAbs := by rw [Int.natAbs_mul]; show 1000 * _ ≤ _; omega
  have a3 : (2 : Nat) ^ 100 * 2 ^ 6550 ≥ 16000 * 2 ^ 6550 := Nat.mul_le_mul_right _ (by decide)
  exact fr_bd (D := D * k) (B := 1000) (Int.mul_pos hD (by omega)) h h3 h4 (by omega) (by omega)
theorem bd_fr1 {D : Int} {r : Rat} (hD : 0 < D) (hd : D.natAbs < 2 ^ 6550) (h : Fr D r) (h3 : -(1000 : Rat) ≤ r) (h4 : r ≤ 1000) : Bd 6650 (am r) :=
  bd_fr (k := 1) hD hd (by decide) (by decide) (by rw [Int.mul_one]; exact h) h3 h4

theorem bdL {D : Int} {r : Rat} (hD : 0 < D) (hd : D.natAbs < 2 ^ 6550) (h : Fr D r) (h3 : 0 ≤ r) (h4 : r ≤ 100000000) : Bd 6650 (am r) := by
  have e : (2 : Nat) ^ 6650 = 2 ^ 100 * 2 ^ 6550 := by rw [← Nat.pow_add]
  have a2 : (100000000 * D).natAbs ≤ 100000000 * D.natAbs := by rw [Int.natAbs_mul]; exact Nat.le_refl _
  have a3 : (2 : Nat) ^ 100 * 2 ^ 6550 ≥ 100000001 * 2 ^ 6550 := Nat.mul_le_mul_right _ (by decide)
  exact fr_bd (D := D) (B := 100000000) hD h (neg_le h3 (by decide)) h4 (by omega) (by omega)
theorem bdX {D : Int} {r : Rat} (hD : 0 < D) (hd : D.natAbs < 2 ^ 6550) (h : Fr D r) (h3 : 0 ≤ r) (h4 : r ≤ 10000000000) : Bd 6650 (am r) := by
  have e : (2 : Nat) ^ 6650 = 2 ^ 100 * 2 ^ 6550 := by rw [← Nat.pow_add]
  have a2 : (10000000000 * D).natAbs ≤ 10000000000 * D.natAbs := by rw [Int.natAbs_mul]; exact Nat.le_refl _
  have a3 : (2 : Nat) ^ 100 * 2 ^ 6550 ≥ 10000000001 * 2 ^ 6550 := Nat.mul_le_mul_right _ (by decide)
  exact fr_bd (D := D) (B := 10000000000) hD h (neg_le h3 (by decide)) h4 (by omega) (by omega)
theorem mul_rng {m L g : Rat} (h0 : 0 ≤ m) (h1 : m ≤ L) (g0 : 1 ≤ g) (g1 : g ≤ 12) : 0 ≤ m * g ∧ m * g ≤ 12 * L := by
  have a := Rat.mul_le_mul_of_nonneg_left g1 h0
  have b := Rat.mul_le_mul_of_nonneg_left g0 h0
  exact ⟨by grind, by grind⟩
theorem mul_rng0 {m L g : Rat} (h0 : 0 ≤ m) (h1 : m ≤ L) (g0 : 0 ≤ g) (g1 : g ≤ 12) : 0 ≤ m * g ∧ m * g ≤ 12 * L := by
  have a := Rat.mul_le_mul_of_nonneg_left g1 h0
  have b := Rat.mul_nonneg h0 g0
  exact ⟨b, by grind⟩
theorem div_nn {a : Rat} {k : Int} (hk : 1 ≤ k) (ha : 0 ≤ a) : 0 ≤ a / (k : Rat) := by
  have e := div_mul (a := a) (show 0 < k by omega)
  by_cases c : a / (k : Rat) < 0
  · have := Rat.mul_lt_mul_of_pos_right c (cp (show 0 < k by omega))
    grind
  · exact Rat.not_lt.mp c
/-- lists of amounts -/
def AmL (K : PySem.W.Frag) (H : Hp) (us : List V) (rs : List Rat) : Prop := DpAll K H us ((rs.map am).map amD)
theorem AmL.len {K : PySem.W.Frag} {H : Hp} {us : List V} {rs : List Rat} (h : AmL K H us rs) : us.length = rs.length := by rw [dpa_len h, List.length_map, List.length_map]
theorem AmL.at {K : PySem.W.Frag} {H : Hp} {us : List V} {rs : List Rat} (h : AmL K H us rs) {i : Nat} (hi : i < rs.length) : ∃ b, us[i]? = some (.ref b) ∧ SqT K H b (tv (am (rs.getD i 0))) := by
  rw [getD_lt hi]
  exact am_at h hi
theorem AmL.keep {T : Tb} {K : PySem.W.Frag} {H H' : Hp} {us : List V} {rs : List Rat} (h : AmL K H us rs) (s : Sm T H H') : AmL K H' us rs := dpa_same s _ _ h
theorem AmL.push {K : PySem.W.Frag} {H : Hp} {us : List V} {rs : List Rat} {D b : Addr} {xs : List V} {o : HO} {r : Rat} (h : AmL K H us rs) (hD : H D = some (.lst xs)) (hb : SqT K H b (tv (am r))) : AmL K (upd H D o) (us ++ [.ref b]) (rs ++ [r]) := by
  unfold AmL
  rw [List.map_append, List.map_append]
  exact dpa_app (pds_mut hD h) (.cons (pd_mut (amD_dp hb) hD) .nil)
theorem AmL.mut {K : PySem.W.Frag} {H : Hp} {us : List V} {rs : List Rat} {D : Addr} {xs : List V} {o : HO} (h : AmL K H us rs) (hD : H D = some (.lst xs)) : AmL K (upd H D o) us rs := pds_mut hD h
theorem AmL.dp {K : PySem.W.Frag} {H : Hp} {us : List V} {rs : List Rat} {a : Addr} (h : AmL K H us rs) (ha : SqL K H a us) : Dp K H (.ref a) (.list ((rs.map am).map amD)) := .lst ha h
theorem take_range {α : Type} {f : Nat → α} {i : Nat} : ((List.range (i + 1)).map f) = (List.range i).map f ++ [f i] := by rw [List.range_succ, List.map_append]; rfl

theorem at_neg1 {α : Type} {xs : List α} {v : α} (h : 0 < xs.length) (e : xs[xs.length - 1]? = some v) : atI xs (-1) = some v := by
  have hne : xs ≠ [] := by intro c; rw [c] at h; exact Nat.lt_irrefl _ h
  obtain ⟨ys, z, rfl⟩ : ∃ ys z, xs = ys ++ [z] := ⟨xs.dropLast, xs.getLast hne, (List.dropLast_concat_getLast hne).symm⟩
  rw [List.length_append, show ys.length + [z].length - 1 = ys.length by simp, List.getElem?_append_right (Nat.le_refl _), Nat.sub_self] at e
  obtain rfl : z = v := Option.some.inj e
  exact atI_last _ _

theorem by_am (r : Rat) {k : Int} (hk : 0 < k) : amt (am r).1 ((am r).2 * k) = am (r / (k : Rat)) := by
  have h1 := am_pos r
  rw [amt_am (Int.mul_ne_zero (by omega) (by omega))]
  congr 1
  have e1 := vl_am r
  unfold vl at e1
  have k1 := cn (a := (am r).2) (by omega)
  have k2 := cn (a := k) (by omega)
  rw [Rat.intCast_mul]
  grind
theorem mul_am (r : Rat) (k : Int) : amt ((am r).1 * k) (am r).2 = am (r * (k : Rat)) := by
  have h1 := am_pos r
  rw [amt_am (by omega)]
  congr 1
  have e1 := vl_am r
  unfold vl at e1
  have k1 := cn (a := (am r).2) (by omega)
  rw [Rat.intCast_mul]
  grind

def sp_l_cell (K : PySem.W.Frag) (T : Tb) : Sp := fun vs H Q _ => ∃ (a : Addr) (ns : List Int) (k : Int), vs = [.ref a, .int k] ∧ SqL K H a (ns.map V.int) ∧ 0 ≤ k ∧ ∀ z : Int, Q (.int z) H
theorem ok_l_cell {f : Addr} {fd : FuncData} (F : Fun K "_law_cell" "_law_cell" s_l_cell f fd) (B : Bn mg) : FnOk P w K mg base CX0 1 f fd ["_law_script", "_law_k"] (sp_l_cell K T) := by
  refine F.ok sc_l_cell (fun vs H Q E h => ?_) (fun cdv A outer s H vs Q E hr h => ?_)
  · obtain ⟨a, ns, k, rfl, _⟩ := h
    rfl
  · obtain ⟨a, ns, k, rfl, hS, hk, q⟩ := h
    refine ⟨_, (pss_cons (ps_if (pt_cmpR op_lt (pv 1) (pe_callB call_len_seq (by rfl) B.len_ (by decide +kernel) (pa_cons (pv 0) pa_nil)) (nomark _)) (pss_one (ps_ret (pe_ix ix_list (pv 0) (pv 1) (fun _ _ => rfl)))) pss_nil)
      (pss_one (ps_ret (pe_op op_add (pe_op op_add (pe_op op_mul (pe_op op_mod (pe_callB (cr_sum rfl) (by rfl) B.sum_ (by decide +kernel) (pa_cons (pv 0) pa_nil)) pe_int) pe_int) (pe_op op_mul (pe_callB call_len_seq (by rfl) B.len_ (by decide +kernel) (pa_cons (pv 0) pa_nil)) pe_int)) (pe_op op_mul (pv 1) pe_int))))), ?_⟩
    refine ⟨_, rfl, _, rfl, a, _, rfl, .inl hS, _, _, rfl, rfl, _, rfl, ite2 (fun e => ?_) (fun e => ?_)⟩
    · have e' : k < ((ns.map V.int).length : Int) := of_decide_eq_true e
      rw [List.length_map] at e'
      obtain ⟨j, rfl⟩ : ∃ j : Nat, k = (j : Int) := ⟨k.toNat, by omega⟩
      have hj : j < ns.length := by omega
      refine ⟨_, rfl, _, rfl, a, _, _, .int ns[j], rfl, rfl, hS, atI_nat (by rw [List.getElem?_map, List.getElem?_eq_getElem hj]; rfl), q _⟩
    · refine ⟨_, rfl, a, ns, rfl, hS, ?_⟩
      refine ⟨_, _, rfl, rfl, (by show (0 : Int) < 1000003; decide), _, _, rfl, rfl, .inr ⟨by decide, by decide⟩, ?_⟩
      refine ⟨_, rfl, a, _, rfl, .inl hS, _, _, rfl, rfl, .inr ⟨by decide, by decide⟩, _, _, rfl, rfl, ?_⟩
      refine ⟨_, rfl, _, _, rfl, rfl, .inr ⟨by decide, by decide⟩, _, _, rfl, rfl, q _⟩

def sp_l_draws (K : PySem.W.Frag) (T : Tb) : Sp := fun vs H Q _ => ∃ (c : Int) (a : Addr) (qs : List Int), vs = [.int c, .ref a] ∧ SqL K H a (qs.map V.int) ∧ qs.length ≤ 1000 ∧ (∀ q ∈ qs, 0 < q ∧ q.natAbs < 2 ^ 100) ∧
  ∀ p H' (ds : List Int), Sm T H H' → H p = none → H' p = some (.lst (ds.map V.int)) → Drawn ds qs → Q (.ref p) H'
theorem ok_l_draws {f : Addr} {fd : FuncData} (F : Fun K "_law_draws" "_law_draws" s_l_draws f fd) : FnOk P w K mg base CX0 1 f fd ["_law_cell_here", "_law_parts"] (sp_l_draws K T) := by
  refine F.ok sc_l_draws (fun vs H Q E h => ?_) (fun cdv A outer s H vs Q E hr h => ?_)
  · obtain ⟨c, a, qs, rfl, _⟩ := h
    rfl
  · obtain ⟨c, a, qs, rfl, hS, hlen, hpos, q⟩ := h
    refine ⟨_, (pss_cons (ps_if (pt_cmpR op_lt (pv 0) (pe_op op_pow pe_int pe_int) (nomark _)) (pss_cons (ps_set (i := 2) sc_l_draws.nd rfl (.inl rfl) (pe_op op_mod (pe_op op_add (pe_op op_mul (pv 0) pe_int) pe_int) pe_int))
      (pss_cons (ps_set (i := 3) sc_l_draws.nd rfl (.inl rfl) (pe_op op_mod (pe_op op_add (pe_op op_add (pe_op op_mul (pv 2) (pv 2)) (pe_op op_mul pe_int (pv 2))) (pv 0)) pe_int))
      (pss_cons (ps_set (i := 4) sc_l_draws.nd rfl (.inl rfl) (pe_op op_mod (pe_op op_add (pe_op op_mul (pv 3) pe_int) (pv 2)) pe_int))
      (pss_one (ps_set (i := 0) sc_l_draws.nd rfl (.inl rfl) (pe_op op_add (pv 3) (pe_op op_mul pe_int (pe_op op_add (pv 4) (pe_op op_mul pe_int (pv 2)))))))))) (pss_one (ps_set (i := 0) sc_l_draws.nd rfl (.inl rfl) (pe_op op_sub (pv 0) (pe_op op_pow pe_int pe_int)))))
      (pss_cons (ps_set (i := 5) sc_l_draws.nd rfl (.inl rfl) (pe_lst pa_nil))
      (pss_cons (ps_for PassesOwn.never rfl (pi_list (pv 1)) (pg_name (i := 6) sc_l_draws.nd rfl (.inl rfl))
      (pss_cons (ps_expr (pe_bm PySem.F.plainAttrs_list PySem.F.slot_list_append PySem.F.type_list_append mt_append (pv 5) (pa_cons (pe_op op_mod (pv 0) (pv 6)) pa_nil)))
      (pss_one (ps_set (i := 0) sc_l_draws.nd rfl (.inl rfl) (pe_op op_fdivW (pv 0) (pv 6))))))
      (pss_one (ps_ret (pv 5)))))), ?_⟩
    refine seq_if (fun σ' H' => H' = H ∧ ∃ (c : Int) (x2 x3 x4 : Option V), σ' = [some (.int c), some (.ref a), x2, x3, x4, none, none]) (fun σ' H' p => ?_) (fun k => ?_)
    · obtain ⟨rfl, c, x2, x3, x4, rfl⟩ := p
      refine ⟨Nat.zero_le _, fun o no => ?_⟩
      refine ⟨_, rfl, a, rfl, ⟨_, (same_upd (T := T) no).seq hS⟩, for_list (K := K) (a := a) (xs := qs.map V.int)
        (fun i σ H3 => ∃ (c : Int) (x6 : Option V) (ds : List Int), σ = [some (.int c), some (.ref a), x2, x3, x4, some (.ref o), x6] ∧ Sm T H' H3 ∧ H3 o = some (.lst (ds.map V.int)) ∧ Drawn ds (qs.take i))
        ⟨c, none, [], rfl, same_upd no, upd_same, trivial⟩ (fun i σ H3 _ ⟨_, _, _, _, sm, _⟩ => sm.seq hS) ?_ ?_⟩
      · rintro i y σ H3 hi ⟨c, x6, ds, rfl, sm, eo, hd⟩
        rw [List.getElem?_map] at hi
        obtain ⟨qi, hq, rfl⟩ : ∃ qi, qs[i]? = some qi ∧ V.int qi = y := Option.map_eq_some_iff.mp hi
        have hqm := hpos qi (List.mem_of_getElem? hq)
        have hil : i < qs.length := (List.getElem?_eq_some_iff.mp hq).1
        refine ⟨_, rfl, .inl ⟨rfl, _, SqL.of eo⟩, _, rfl, _, rfl, _, _, rfl, rfl, hqm.1, o, _, _, rfl, rfl, eo, ?_, ?_⟩
        · rw [List.length_map, hd.length, List.length_take]
          exact szl (by omega)
        · refine ⟨_, rfl, _, rfl, _, _, rfl, rfl, wide_div hqm.1 hqm.2 (by decide) (by decide), ?_⟩
          refine ⟨_, _, ds ++ [c % qi], rfl, same_mut sm no eo, ?_, ?_⟩
          · rw [upd_same, List.map_append]
            rfl
          · rw [List.take_add_one, hq]
            exact hd.snoc (Int.emod_nonneg _ (by omega)) (Int.emod_lt_of_pos _ hqm.1)
      · rintro σ H3 ⟨c, x6, ds, rfl, sm, eo, hd⟩
        rw [List.length_map, List.take_length] at hd
        exact ⟨_, rfl, q o H3 ds sm no eo hd⟩
    · have b1 := Int.emod_nonneg (c * 48271 + 11) (show (2147483647 : Int) ≠ 0 by decide)
      have b2 := Int.emod_lt_of_pos (c * 48271 + 11) (show (0 : Int) < 2147483647 by decide)
      refine ⟨_, rfl, _, _, rfl, rfl, ⟨by decide, by decide, by decide⟩, _, _, rfl, rfl, _, rfl, ite2 (fun e => ?_) (fun e => ?_)⟩
      · refine ⟨_, rfl, _, _, rfl, rfl, .inr ⟨by decide, by decide⟩, _, _, rfl, rfl, _, _, rfl, rfl, (by show (0 : Int) < 2147483647; decide), ?_⟩
        refine ⟨_, rfl, _, rfl, _, _, rfl, rfl, .inl ⟨by omega, by omega⟩, ?_⟩
        refine ⟨_, rfl, _, _, rfl, rfl, .inl ⟨by decide, by decide⟩, _, _, rfl, rfl, _, rfl, _, _, rfl, rfl, _, _, rfl, rfl, (by show (0 : Int) < 2147483399; decide), ?_⟩
        refine ⟨_, rfl, _, _, rfl, rfl, .inr ⟨by decide, by decide⟩, _, rfl, _, _, rfl, rfl, _, _, rfl, rfl, (by show (0 : Int) < 1000000007; decide), ?_⟩
        refine ⟨_, rfl, _, rfl, _, rfl, _, _, rfl, rfl, .inl ⟨by decide, by decide⟩, _, _, rfl, rfl, _, _, rfl, rfl, .inl ⟨by decide, by decide⟩, _, _, rfl, rfl, ?_⟩
        exact k _ _ ⟨rfl, _, _, _, _, rfl⟩
      · refine ⟨_, rfl, _, _, rfl, rfl, ⟨by decide, by decide, by decide⟩, _, _, rfl, rfl, ?_⟩
        exact k _ _ ⟨rfl, _, _, _, _, rfl⟩

def sp_l_many (K : PySem.W.Frag) (T : Tb) : Sp := fun vs H Q _ => ∃ (a : Addr) (ns : List Int) (k : Int), vs = [.ref a, .int k] ∧ SqL K H a (ns.map V.int) ∧ 0 ≤ k ∧ k ≤ 63 ∧ ∀ m : Nat, m ≤ 63 → Q (.int m) H
theorem ok_l_many {f : Addr} {fd : FuncData} (F : Fun K "_law_many" "_law_many" s_l_many f fd) (B : Bn mg) : FnOk P w K mg base CX0 1 f fd ["_law_script", "_law_few"] (sp_l_many K T) := by
  refine F.ok sc_l_many (fun vs H Q E h => ?_) (fun cdv A outer s H vs Q E hr h => ?_)
  · obtain ⟨a, ns, k, rfl, _⟩ := h
    rfl
  · obtain ⟨a, ns, k, rfl, hS, h0, h1, q⟩ := h
    refine ⟨_, (pss_one (ps_ret (pe_callB (call_max2 rfl) (by rfl) B.max_ (by decide +kernel) (pa_cons (pv 1) (pa_cons (pe_callB (call_min2 rfl) (by rfl) B.min_ (by decide +kernel) (pa_cons (pe_callB call_len_seq (by rfl) B.len_ (by decide +kernel) (pa_cons (pv 0) pa_nil)) (pa_cons pe_int pa_nil))) pa_nil))))), ?_⟩
    refine ⟨_, rfl, _, rfl, a, _, rfl, .inl hS, _, _, rfl, _, _, rfl, ?_⟩
    rw [List.length_map]
    have e : ∃ m : Nat, m ≤ 63 ∧ (if (if (63 : Int) < (ns.length : Int) then 63 else (ns.length : Int)) > k then (if (63 : Int) < (ns.length : Int) then 63 else (ns.length : Int)) else k) = (m : Int) := by
      refine ⟨(if (if (63 : Int) < (ns.length : Int) then 63 else (ns.length : Int)) > k then (if (63 : Int) < (ns.length : Int) then 63 else (ns.length : Int)) else k).toNat, ?_, ?_⟩ <;> (split <;> (try split) <;> omega)
    obtain ⟨m, hm, em⟩ := e
    rw [em]
    exact q m hm

end
/-! ### the head by one kernel run: what is looked at behind the top -/
def hrRef (o : Obj) : List Addr := match o.data with
  | .dict es _ => es.toList.flatMap fun e => He.refV e.val
  | .func fd => He.refV fd.code
  | .cls cd => [cd.ns]
  | _ => []
def hrStep (g : Addr → Option Obj) (as : List Addr) : List Addr := as.flatMap fun a => match g a with
  | some o => hrRef o
  | none => []
def hrAll (g : Addr → Option Obj) : Nat → List Addr → List Addr
  | 0, as => as ++ [cStatics]
  | n + 1, as => as ++ hrAll g n (hrStep g as)
def hrK (g : Addr → Option Obj) : PySem.W.Frag := He.frG g (hrAll g 4 [mainGlobals])
theorem hrK_in {h : Heap} : (hrK h.get?).In h := He.frG_in
/-- an error class -/
def hrErr (K : PySem.W.Frag) (CP C : Addr) : Bool := (match K.lookup C with
  | some ⟨.type t, _, .cls cd, sl⟩ => (match cd.mro, sl.toList with
    | .ref D :: bm, [_, _, _, _, some (.builtin n), _] => decide (t = "type") && (Nat.beq D C && (decide (n = "ValueError.__new__") && ((!cd.hasDel) && (cd.hasDict && PySem.HandSPX.refsVE bm))))
    | _, _ => false)
  | _ => false) && (He.eqO (PySem.W.findIn K (.ref C) "__setattr__") (some (some (.builtin "object.__setattr__"))) && (He.eqO (PySem.W.findIn K (.ref C) "word") (some none) && (xfB K C && (PySem.W.keepIn K (.ref C) &&
    (decide (PySem.W.typeIn K (.ref C) = some (.type "type")) && (decide (PySem.W.subIn K (.ref C) (.ref CP) = some true) && decide (PySem.W.typeIn K (.ref (He.ma K C "__init__")) = some (.type "function"))))))))
theorem hrErr_ok {K : PySem.W.Frag} {CP C : Addr} (h : hrErr K CP C = true) : OexC K C ∧ XfC K C ∧ PySem.W.findIn K (.ref C) "word" = some none ∧ PySem.W.subIn K (.ref C) (.ref CP) = some true ∧ PySem.W.typeIn K (.ref (He.ma K C "__init__")) = some (.type "function") := by
  obtain ⟨h0, h⟩ := He.ba h
  obtain ⟨h1, h⟩ := He.ba h
  obtain ⟨h2, h⟩ := He.ba h
  obtain ⟨h3, h⟩ := He.ba h
  obtain ⟨h4, h⟩ := He.ba h
  obtain ⟨h5, h⟩ := He.ba h
  obtain ⟨h6, h7⟩ := He.ba h
  have X := xfB_ok h3
  refine ⟨⟨?_, He.eqO_ok h1, X.exC, of_decide_eq_true h5, h4⟩, X, He.eqO_ok h2, of_decide_eq_true h6, of_decide_eq_true h7⟩
  cases lk : K.lookup C with
  | none => rw [lk] at h0; cases h0
  | some o =>
    obtain ⟨oc, od, dt, sl⟩ := o
    rw [lk] at h0
    cases oc with
    | type t =>
      cases dt with
      | cls cd =>
        obtain ⟨nm, bs, mro, ns, qn, hd, sn, sub, ab, col, del⟩ := cd
        obtain ⟨sl⟩ := sl
        cases mro with
        | nil => cases h0
        | cons D0 bm =>
          cases D0 with
          | ref D =>
            rcases sl with _ | ⟨k0, _ | ⟨k1, _ | ⟨k2, _ | ⟨k3, _ | ⟨k4, _ | ⟨k5, _ | ⟨k6, sl⟩⟩⟩⟩⟩⟩⟩ <;> try (cases h0; done)
            · cases k4 with
              | none => cases h0
              | some k4 => cases k4 <;> cases h0
            · cases k4 with
              | none => cases h0
              | some k4 =>
                cases k4 with
                | builtin n =>
                  obtain ⟨g1, h0⟩ := He.ba h0
                  obtain ⟨g2, h0⟩ := He.ba h0
                  obtain ⟨g3, h0⟩ := He.ba h0
                  obtain ⟨g4, h0⟩ := He.ba h0
                  obtain ⟨g5, g6⟩ := He.ba h0
                  have q1 := of_decide_eq_true g1
                  have q2 := Nat.eq_of_beq_eq_true g2
                  have q3 := of_decide_eq_true g3
                  have q4 : del = false := by cases del <;> first | rfl | cases g4
                  have q5 : hd = true := g5
                  subst q1 q2 q3 q4 q5
                  exact ⟨nm, qn, ns, bs, bm, sn, sub, ab, col, od, k0, k1, k2, k3, k5, rfl, g6⟩
                | _ => cases h0
            · cases k4 with
              | none => cases h0
              | some k4 => cases k4 <;> cases h0
          | _ => cases h0
      | _ => cases h0
    | _ => cases dt <;> cases h0
/-- the base of the error classes -/
def hrVal (r : Option PySem.W.CFound) (v : Value) : Bool := match r with
  | some (.val u) => decide (u = v)
  | _ => false
theorem hrVal_ok {r : Option PySem.W.CFound} {v : Value} (h : hrVal r v = true) : r = some (.val v) := by
  cases r with
  | none => cases h
  | some c =>
    cases c with
    | val u => rw [of_decide_eq_true (show decide (u = v) = true from h)]
    | get _ _ _ _ => cases h
def hrBase (K : PySem.W.Frag) (C : Addr) : Bool := PySem.W.readsIn K C (.type "type") && (He.eqO (PySem.W.specialIn K (.ref C) "__getattribute__") (some (some (.builtin "type.__getattribute__"))) && (hrVal (PySem.W.findCls K (.ref C) (.type "type") "__init__") (.ref (He.ma K C "__init__")) &&
  (decide (PySem.W.subIn K (.ref C) (.type "BaseException") = some true) && (PySem.W.isClsIn K C && (decide (PySem.W.typeIn K (.ref C) = some (.type "type")) && hrVal (PySem.W.findCls K (.type "ValueError") (.type "type") "__init__") (.builtin "ValueError.__init__"))))))
theorem hrBase_ok {K : PySem.W.Frag} {C : Addr} (h : hrBase K C = true) : PySem.W.readsIn K C (.type "type") = true ∧ PySem.W.specialIn K (.ref C) "__getattribute__" = some (some (.builtin "type.__getattribute__")) ∧ PySem.W.findCls K (.ref C) (.type "type") "__init__" = some (.val (.ref (He.ma K C "__init__"))) ∧
    PySem.W.subIn K (.ref C) (.type "BaseException") = some true ∧ PySem.W.isClsIn K C = true ∧ PySem.W.typeIn K (.ref C) = some (.type "type") ∧ PySem.W.findCls K (.type "ValueError") (.type "type") "__init__" = some (.val (.builtin "ValueError.__init__")) := by
  obtain ⟨h1, h⟩ := He.ba h
  obtain ⟨h2, h⟩ := He.ba h
  obtain ⟨h3, h⟩ := He.ba h
  obtain ⟨h4, h⟩ := He.ba h
  obtain ⟨h5, h⟩ := He.ba h
  obtain ⟨h6, h7⟩ := He.ba h
  exact ⟨h1, He.eqO_ok h2, hrVal_ok h3, of_decide_eq_true h4, h5, of_decide_eq_true h6, hrVal_ok h7⟩
/-- one fact more, of K -/
inductive Hx where
  | fa (f : He.Fa)
  | err (p x : Str)
  | base (p : Str)
  | tup (x : Str) (vs : List He.Dv)
  | nod (tf : List He.Defn)
def hrNod : List Addr → Bool
  | [] => true
  | a :: r => (r.all fun b => !Nat.beq a b) && hrNod r
theorem hrNod_ok : ∀ {l : List Addr}, hrNod l = true → l.Nodup
  | [], _ => List.nodup_nil
  | a :: r, h => by
    obtain ⟨h1, h2⟩ := He.ba (show ((r.all fun b => !Nat.beq a b) && hrNod r) = true from h)
    refine List.nodup_cons.mpr ⟨fun hm => ?_, hrNod_ok h2⟩
    have z := List.all_eq_true.mp h1 a hm
    rw [Nat.beq_refl] at z
    cases z
def Hx.ok (K : PySem.W.Frag) : Hx → Bool
  | .fa f => f.ok K
  | .err p x => hrErr K (He.ga K p) (He.ga K x)
  | .base p => hrBase K (He.ga K p)
  | .tup x vs => He.tupB K x vs
  | .nod tf => hrNod (tf.map fun p => (He.cT K p).2)
def hrDef (K : PySem.W.Frag) (d : He.FnD) : Bool := (He.Fa.code d.at_ d.qual).ok K && PySem.W.keepIn K (.ref (He.fAd K d.at_))
def hrTab (g : Addr → Option Obj) (K : PySem.W.Frag) (p : He.Defn) : Bool := PySem.W.codeHdIn K (He.cT K p).1 (He.cT K p).2 && ((K.lookup (He.cT K p).2).isNone && match g (He.cT K p).2 with
  | some o => He.emptyTab o
  | none => false)
abbrev HrAl : Type := Bool × List He.FnV
def hrObs (fx : List Hx) (fn : List He.FnD) (tf : List He.Defn) (g : Addr → Option Obj) (K : PySem.W.Frag) : HrAl := ((fx.all fun f => f.ok K) && ((fn.all fun d => hrDef K d) && tf.all fun p => hrTab g K p), fn.map fun d => He.fnObs K d.at_)
def hrVals (fn : List He.FnD) : HrAl := (true, fn.map He.FnD.val)
/-- what the end leans on -/
structure HrSays (fx : List Hx) (fn : List He.FnD) (tf : List He.Defn) (h : Heap) (K : PySem.W.Frag) : Prop where
  fx : ∀ f ∈ fx, f.ok K = true
  df : ∀ d ∈ fn, hrDef K d = true
  vs : fn.map (fun d => He.fnObs K d.at_) = fn.map He.FnD.val
  hd : ∀ p ∈ tf, PySem.W.codeHdIn K (He.cT K p).1 (He.cT K p).2 = true
  out : ∀ p ∈ tf, K.lookup (He.cT K p).2 = none
  emp : ∀ p ∈ tf, h.get? (He.cT K p).2 = some { cls := .none, data := .fields #[] }
theorem hrSays_of {fx : List Hx} {fn : List He.FnD} {tf : List He.Defn} {h : Heap} {K : PySem.W.Frag} (e : hrObs fx fn tf h.get? K = hrVals fn) : HrSays fx fn tf h K := by
  have e1 : ((fx.all fun f => f.ok K) && ((fn.all fun d => hrDef K d) && tf.all fun p => hrTab h.get? K p)) = true := congrArg (fun z : HrAl => z.1) e
  obtain ⟨a1, a2⟩ := He.ba e1
  obtain ⟨a2, a3⟩ := He.ba a2
  have key : ∀ p ∈ tf, PySem.W.codeHdIn K (He.cT K p).1 (He.cT K p).2 = true ∧ K.lookup (He.cT K p).2 = none ∧ h.get? (He.cT K p).2 = some { cls := .none, data := .fields #[] } := fun p hp => by
    obtain ⟨b1, b2⟩ := He.ba (List.all_eq_true.mp a3 p hp)
    obtain ⟨b2, b3⟩ := He.ba b2
    refine ⟨b1, Option.isNone_iff_eq_none.mp b2, ?_⟩
    cases q : h.get? (He.cT K p).2 with
    | none => rw [q] at b3; cases b3
    | some o => rw [q] at b3; rw [He.emptyTab_eq b3]
  exact ⟨fun f hf => List.all_eq_true.mp a1 f hf, fun d hd => List.all_eq_true.mp a2 d hd, congrArg (fun z : HrAl => z.2) e, fun p hp => (key p hp).1, fun p hp => (key p hp).2.1, fun p hp => (key p hp).2.2⟩
def hrHook (fx : List Hx) (fn : List He.FnD) (tf : List He.Defn) : PySem.W.Hook where
  α := HrAl
  obs := fun s => hrObs fx fn tf s.heap.get? (hrK s.heap.get?)
  val := fun _ => hrVals fn
  says := fun _ h => ∃ K : PySem.W.Frag, K.In h ∧ HrSays fx fn tf h K
  of := fun _ _ e => ⟨_, hrK_in, hrSays_of e⟩
  keeps := fun _ _ _ ⟨K, hK, c⟩ k => ⟨K, PySem.W.Frag.In.keeps hK k, ⟨c.fx, c.df, c.vs, c.hd, c.out, fun p hp => k _ _ (c.emp p hp)⟩⟩
def hrOb (fx : List Hx) (fn : List He.FnD) (tf : List He.Defn) (s : PySem.W.SharedT) : HrAl := hrObs fx fn tf (HandSHeadRun.getT s) (hrK (HandSHeadRun.getT s))
theorem hrOb_eq {fx : List Hx} {fn : List He.FnD} {tf : List He.Defn} (s : PySem.W.SharedT) : hrOb fx fn tf s = (hrHook fx fn tf).obs s.abs := by
  have e : HandSHeadRun.getT s = s.abs.heap.get? := funext (HandSHeadRun.getT_eq s)
  show hrObs fx fn tf (HandSHeadRun.getT s) (hrK (HandSHeadRun.getT s)) = hrObs fx fn tf s.abs.heap.get? (hrK s.abs.heap.get?)
  rw [e]
section
variable {fx : List Hx} {fn : List He.FnD} {tf : List He.Defn} {h : Heap} {K : PySem.W.Frag}
theorem HrSays.f (c : HrSays fx fn tf h K) (i : Nat) {f : Hx} (e : fx[i]? = some f) : f.ok K = true := c.fx f (List.mem_of_getElem? e)
theorem HrSays.g (c : HrSays fx fn tf h K) (i : Nat) {f : He.Fa} (e : fx[i]? = some (.fa f)) : f.ok K = true := c.fx (.fa f) (List.mem_of_getElem? e)
theorem HrSays.d (c : HrSays fx fn tf h K) (i : Nat) {d : He.FnD} (e : fn[i]? = some d) :
    (∃ oc od osl kV doc pm an cdv ct, K.lookup (He.fAd K d.at_) = some ⟨oc, od, .func (PySem.W.fnOf d.name d.qual d.params d.body d.scope .none kV doc pm an cdv ct), osl⟩ ∧ PySem.W.codeIn K cdv d.qual = true) ∧ PySem.W.keepIn K (.ref (He.fAd K d.at_)) = true := by
  obtain ⟨c1, c2⟩ := He.ba (c.df d (List.mem_of_getElem? e))
  have e2 : (fn.map fun d => He.fnObs K d.at_)[i]? = (fn.map He.FnD.val)[i]? := by rw [c.vs]
  rw [List.getElem?_map, List.getElem?_map, e] at e2
  exact ⟨He.fn_ok (Option.some.inj e2) c1, c2⟩
theorem HrSays.dt (c : HrSays fx fn tf h K) (X : K.In h) (i j : Nat) {d : He.FnD} (e : fn[i]? = some d) (et : tf[j]? = some d.at_) :
    (∃ oc od osl kV doc pm an ct, K.lookup (He.fAd K d.at_) = some ⟨oc, od, .func (PySem.W.fnOf d.name d.qual d.params d.body d.scope .none kV doc pm an (.ref (He.cT K d.at_).1) ct), osl⟩ ∧ PySem.W.codeIn K (.ref (He.cT K d.at_).1) d.qual = true) ∧ PySem.W.keepIn K (.ref (He.fAd K d.at_)) = true ∧
      (PySem.W.CodeHd h (He.cT K d.at_).1 (He.cT K d.at_).2 ∧ h.get? (He.cT K d.at_).2 = some { cls := .none, data := .fields #[] }) ∧ K.lookup (He.cT K d.at_).2 = none := by
  obtain ⟨⟨oc, od, osl, kV, doc, pm, an, cdv, ct, lk, ci⟩, kp⟩ := c.d i e
  obtain ⟨c0, hc⟩ := He.codeIn_ref ci
  subst hc
  have q : (He.cT K d.at_).1 = c0 := He.codeOf_eq lk rfl
  have m := List.mem_of_getElem? et
  refine ⟨⟨oc, od, osl, kV, doc, pm, an, ct, ?_, ?_⟩, kp, ⟨PySem.W.codeHd_of_K X (c.hd _ m), c.emp _ m⟩, c.out _ m⟩
  · rw [q]; exact lk
  · rw [q]; exact ci
end
section
variable {fx : List Hx} {fn : List He.FnD} {tf : List He.Defn} {h : Heap} {K : PySem.W.Frag}
theorem HrSays.fun_ (c : HrSays fx fn tf h K) (i : Nat) {x q : Str} {st : Stmt} {p : He.Defn} (e : fn[i]? = some ⟨p, x, q, defArgs st, defBody st, defScope st⟩) : ∃ fd, Fun K x q st (He.fAd K p) fd := by
  obtain ⟨⟨oc, od, osl, kV, doc, pm, an, cdv, ct, lk, ci⟩, kp⟩ := c.d i e
  exact ⟨_, ⟨⟨oc, od, kV, doc, pm, an, cdv, ct, osl, rfl, lk, ci⟩, kp⟩⟩
theorem HrSays.fnc (c : HrSays fx fn tf h K) (X : K.In h) (i j : Nat) {x q : Str} {st : Stmt} {p : He.Defn} (e : fn[i]? = some ⟨p, x, q, defArgs st, defBody st, defScope st⟩) (et : tf[j]? = some p) :
    (∃ fd, FunC K x q st (He.fAd K p) fd (He.cT K p).1) ∧ (PySem.W.CodeHd h (He.cT K p).1 (He.cT K p).2 ∧ h.get? (He.cT K p).2 = some { cls := .none, data := .fields #[] }) ∧ K.lookup (He.cT K p).2 = none := by
  obtain ⟨⟨oc, od, osl, kV, doc, pm, an, ct, lk, ci⟩, kp, hh, hn⟩ := c.dt X i j e et
  exact ⟨⟨_, ⟨⟨oc, od, kV, doc, pm, an, ct, osl, rfl, lk, ci⟩, kp⟩⟩, hh, hn⟩
end

def hrTf : List He.Defn := [("is_name", none), ("is_stretch", none), ("labour", none), ("law", none)]
def hrFx0 : List Hx := [.fa (.glo "Chain"), .fa (.cls "Chain"), .fa (.mkr "Chain"), .fa (.noat "Chain" "fire"), .fa (.noat "Chain" "stretches"), .fa (.noat "Chain" "now"), .fa (.noat "Chain" "row"), .fa (.noat "Chain" "loads"), .fa (.noat "Chain" "spots"), .fa (.noat "Chain" "tempos"), .fa (.noat "Chain" "leaving"), .fa (.noat "Chain" "ledgers"), .fa (.noat "Chain" "marks"), .fa (.noat "Chain" "poured"), .fa (.glo "_law_word"), .fa (.glo "is_number"), .fa (.glo "is_within"), .fa (.glo "common_divisor"), .fa (.glo "amount"), .fa (.glo "plus"), .fa (.glo "minus"), .fa (.glo "times"), .fa (.glo "over"), .fa (.glo "below"), .fa (.glo "lesser"), .fa (.glo "_law_cell"), .fa (.glo "_law_draws"), .fa (.glo "_law_many"), .fa (.glo "check_pace"), .fa (.glo "is_name")]
def hrFx1 : List Hx := [.fa (.glo "check_name"), .fa (.meth "Chain" "take_pail"), .fa (.meth "Chain" "enter"), .fa (.meth "Chain" "hands"), .fa (.meth "Chain" "emptied"), .fa (.meth "Chain" "pails"), .fa (.meth "Chain" "number_of"), .fa (.meth "Chain" "place"), .fa (.meth "Chain" "ledger"), .fa (.meth "Chain" "paces"), .fa (.meth "Chain" "hour"), .fa (.glo "speeds"), .fa (.glo "hours_at"), .fa (.glo "meeting"), .fa (.glo "walked"), .fa (.glo "ledger_on"), .fa (.meth "Chain" "till_meeting"), .fa (.meth "Chain" "walk"), .fa (.glo "is_stretch"), .fa (.glo "check_way"), .fa (.glo "labour"), .fa (.meth "Chain" "stand_as"), .fa (.meth "Chain" "twin"), .fa (.glo "check_hours"), .fa (.meth "Chain" "mark"), .fa (.meth "Chain" "called"), .fa (.meth "Chain" "pace"), .fa (.meth "Chain" "pail"), .fa (.meth "Chain" "call"), .fa (.meth "Chain" "stay")]
def hrFx2 : List Hx := [.fa (.meth "Chain" "swap"), .fa (.meth "Chain" "mark_from"), .fa (.meth "Chain" "next_leaver"), .fa (.meth "Chain" "leave"), .fa (.meth "Chain" "turn"), .fa (.meth "Chain" "turns"), .fa (.meth "Chain" "walk_for"), .fa (.meth "Chain" "go"), .fa (.glo "_law_name"), .fa (.glo "_law_same"), .fa (.glo "_law_split"), .fa (.glo "_law_way"), .fa (.glo "_law_gcd"), .fa (.glo "_law_amt"), .fa (.glo "_law_add"), .fa (.glo "_law_sub"), .fa (.glo "_law_mul"), .fa (.glo "law"), .fa (.glo "PailError"), .base "PailError", .fa (.glo "BadWay"), .err "PailError" "BadWay", .fa (.meth "BadWay" "__init__"), .fa (.glo "BadName"), .err "PailError" "BadName", .fa (.meth "BadName" "__init__"), .fa (.glo "Taken"), .err "PailError" "Taken", .fa (.meth "Taken" "__init__"), .fa (.glo "BadPace")]
def hrFx3 : List Hx := [.err "PailError" "BadPace", .fa (.meth "BadPace" "__init__"), .fa (.glo "Full"), .err "PailError" "Full", .fa (.meth "Full" "__init__"), .fa (.glo "NoHand"), .err "PailError" "NoHand", .fa (.meth "NoHand" "__init__"), .fa (.glo "Called"), .err "PailError" "Called", .fa (.meth "Called" "__init__"), .fa (.glo "NotCalled"), .err "PailError" "NotCalled", .fa (.meth "NotCalled" "__init__"), .fa (.glo "NoNext"), .err "PailError" "NoNext", .fa (.meth "NoNext" "__init__"), .fa (.glo "BadTime"), .err "PailError" "BadTime", .fa (.meth "BadTime" "__init__"), .fa (.glo "TooLong"), .err "PailError" "TooLong", .fa (.meth "TooLong" "__init__"), .fa (.free "ValueError"), .fa (.free "abs"), .fa (.free "all"), .fa (.free "bool"), .fa (.free "dict"), .fa (.free "int"), .fa (.free "isinstance")]
def hrFx4 : List Hx := [.fa (.free "len"), .fa (.free "list"), .fa (.free "max"), .fa (.free "min"), .fa (.free "range"), .fa (.free "reversed"), .fa (.free "str"), .fa (.free "sum"), .fa (.free "tuple"), .fa (.free "zip"), .fa (.int "MOST_HANDS" 8), .fa (.int "MOST_HOURS" 60), .fa (.int "MOST_LETTERS" 8), .fa (.int "MOST_OUTS" 60), .fa (.int "MOST_PACE" 12), .fa (.int "MOST_PARTS" 60), .fa (.int "MOST_STEPS_OR_TOIL" 9), .fa (.int "MOST_STRETCHES" 6), .fa (.glo "NOUGHT"), .tup "NOUGHT" [.int 0, .int 1], .nod hrTf]
def hrFx : List Hx := hrFx0 ++ (hrFx1 ++ (hrFx2 ++ (hrFx3 ++ (hrFx4))))
def hrFn0 : List He.FnD := [⟨("_law_word", none), "_law_word", "_law_word", defArgs s_l_word, defBody s_l_word, defScope s_l_word⟩, ⟨("is_number", none), "is_number", "is_number", defArgs s_p_is_number, defBody s_p_is_number, defScope s_p_is_number⟩, ⟨("is_within", none), "is_within", "is_within", defArgs s_p_is_within, defBody s_p_is_within, defScope s_p_is_within⟩, ⟨("common_divisor", none), "common_divisor", "common_divisor", defArgs s_p_common_divisor, defBody s_p_common_divisor, defScope s_p_common_divisor⟩, ⟨("amount", none), "amount", "amount", defArgs s_p_amount, defBody s_p_amount, defScope s_p_amount⟩, ⟨("plus", none), "plus", "plus", defArgs s_p_plus, defBody s_p_plus, defScope s_p_plus⟩, ⟨("minus", none), "minus", "minus", defArgs s_p_minus, defBody s_p_minus, defScope s_p_minus⟩, ⟨("times", none), "times", "times", defArgs s_p_times, defBody s_p_times, defScope s_p_times⟩, ⟨("over", none), "over", "over", defArgs s_p_over, defBody s_p_over, defScope s_p_over⟩, ⟨("below", none), "below", "below", defArgs s_p_below, defBody s_p_below, defScope s_p_below⟩, ⟨("lesser", none), "lesser", "lesser", defArgs s_p_lesser, defBody s_p_lesser, defScope s_p_lesser⟩, ⟨("_law_cell", none), "_law_cell", "_law_cell", defArgs s_l_cell, defBody s_l_cell, defScope s_l_cell⟩, ⟨("_law_draws", none), "_law_draws", "_law_draws", defArgs s_l_draws, defBody s_l_draws, defScope s_l_draws⟩, ⟨("_law_many", none), "_law_many", "_law_many", defArgs s_l_many, defBody s_l_many, defScope s_l_many⟩, ⟨("check_pace", none), "check_pace", "check_pace", defArgs s_p_check_pace, defBody s_p_check_pace, defScope s_p_check_pace⟩, ⟨("is_name", none), "is_name", "is_name", defArgs s_p_is_name, defBody s_p_is_name, defScope s_p_is_name⟩, ⟨("check_name", none), "check_name", "check_name", defArgs s_p_check_name, defBody s_p_check_name, defScope s_p_check_name⟩, ⟨("Chain", some "take_pail"), "take_pail", "Chain.take_pail", defArgs s_p_Chain_take_pail, defBody s_p_Chain_take_pail, defScope s_p_Chain_take_pail⟩, ⟨("Chain", some "enter"), "enter", "Chain.enter", defArgs s_p_Chain_enter, defBody s_p_Chain_enter, defScope s_p_Chain_enter⟩, ⟨("Chain", some "hands"), "hands", "Chain.hands", defArgs s_p_Chain_hands, defBody s_p_Chain_hands, defScope s_p_Chain_hands⟩, ⟨("Chain", some "emptied"), "emptied", "Chain.emptied", defArgs s_p_Chain_emptied, defBody s_p_Chain_emptied, defScope s_p_Chain_emptied⟩, ⟨("Chain", some "pails"), "pails", "Chain.pails", defArgs s_p_Chain_pails, defBody s_p_Chain_pails, defScope s_p_Chain_pails⟩, ⟨("Chain", some "number_of"), "number_of", "Chain.number_of", defArgs s_p_Chain_number_of, defBody s_p_Chain_number_of, defScope s_p_Chain_number_of⟩, ⟨("Chain", some "place"), "place", "Chain.place", defArgs s_p_Chain_place, defBody s_p_Chain_place, defScope s_p_Chain_place⟩, ⟨("Chain", some "ledger"), "ledger", "Chain.ledger", defArgs s_p_Chain_ledger, defBody s_p_Chain_ledger, defScope s_p_Chain_ledger⟩, ⟨("Chain", some "paces"), "paces", "Chain.paces", defArgs s_p_Chain_paces, defBody s_p_Chain_paces, defScope s_p_Chain_paces⟩, ⟨("Chain", some "hour"), "hour", "Chain.hour", defArgs s_p_Chain_hour, defBody s_p_Chain_hour, defScope s_p_Chain_hour⟩, ⟨("speeds", none), "speeds", "speeds", defArgs s_p_speeds, defBody s_p_speeds, defScope s_p_speeds⟩, ⟨("hours_at", none), "hours_at", "hours_at", defArgs s_p_hours_at, defBody s_p_hours_at, defScope s_p_hours_at⟩, ⟨("meeting", none), "meeting", "meeting", defArgs s_p_meeting, defBody s_p_meeting, defScope s_p_meeting⟩]
def hrFn1 : List He.FnD := [⟨("walked", none), "walked", "walked", defArgs s_p_walked, defBody s_p_walked, defScope s_p_walked⟩, ⟨("ledger_on", none), "ledger_on", "ledger_on", defArgs s_p_ledger_on, defBody s_p_ledger_on, defScope s_p_ledger_on⟩, ⟨("Chain", some "till_meeting"), "till_meeting", "Chain.till_meeting", defArgs s_p_Chain_till_meeting, defBody s_p_Chain_till_meeting, defScope s_p_Chain_till_meeting⟩, ⟨("Chain", some "walk"), "walk", "Chain.walk", defArgs s_p_Chain_walk, defBody s_p_Chain_walk, defScope s_p_Chain_walk⟩, ⟨("is_stretch", none), "is_stretch", "is_stretch", defArgs s_p_is_stretch, defBody s_p_is_stretch, defScope s_p_is_stretch⟩, ⟨("check_way", none), "check_way", "check_way", defArgs s_p_check_way, defBody s_p_check_way, defScope s_p_check_way⟩, ⟨("labour", none), "labour", "labour", defArgs s_p_labour, defBody s_p_labour, defScope s_p_labour⟩, ⟨("Chain", some "__init__"), "__init__", "Chain.__init__", defArgs s_p_Chain___init__, defBody s_p_Chain___init__, defScope s_p_Chain___init__⟩, ⟨("Chain", some "stand_as"), "stand_as", "Chain.stand_as", defArgs s_p_Chain_stand_as, defBody s_p_Chain_stand_as, defScope s_p_Chain_stand_as⟩, ⟨("Chain", some "twin"), "twin", "Chain.twin", defArgs s_p_Chain_twin, defBody s_p_Chain_twin, defScope s_p_Chain_twin⟩, ⟨("check_hours", none), "check_hours", "check_hours", defArgs s_p_check_hours, defBody s_p_check_hours, defScope s_p_check_hours⟩, ⟨("Chain", some "mark"), "mark", "Chain.mark", defArgs s_p_Chain_mark, defBody s_p_Chain_mark, defScope s_p_Chain_mark⟩, ⟨("Chain", some "called"), "called", "Chain.called", defArgs s_p_Chain_called, defBody s_p_Chain_called, defScope s_p_Chain_called⟩, ⟨("Chain", some "pace"), "pace", "Chain.pace", defArgs s_p_Chain_pace, defBody s_p_Chain_pace, defScope s_p_Chain_pace⟩, ⟨("Chain", some "pail"), "pail", "Chain.pail", defArgs s_p_Chain_pail, defBody s_p_Chain_pail, defScope s_p_Chain_pail⟩, ⟨("Chain", some "call"), "call", "Chain.call", defArgs s_p_Chain_call, defBody s_p_Chain_call, defScope s_p_Chain_call⟩, ⟨("Chain", some "stay"), "stay", "Chain.stay", defArgs s_p_Chain_stay, defBody s_p_Chain_stay, defScope s_p_Chain_stay⟩, ⟨("Chain", some "swap"), "swap", "Chain.swap", defArgs s_p_Chain_swap, defBody s_p_Chain_swap, defScope s_p_Chain_swap⟩, ⟨("Chain", some "mark_from"), "mark_from", "Chain.mark_from", defArgs s_p_Chain_mark_from, defBody s_p_Chain_mark_from, defScope s_p_Chain_mark_from⟩, ⟨("Chain", some "next_leaver"), "next_leaver", "Chain.next_leaver", defArgs s_p_Chain_next_leaver, defBody s_p_Chain_next_leaver, defScope s_p_Chain_next_leaver⟩, ⟨("Chain", some "leave"), "leave", "Chain.leave", defArgs s_p_Chain_leave, defBody s_p_Chain_leave, defScope s_p_Chain_leave⟩, ⟨("Chain", some "turn"), "turn", "Chain.turn", defArgs s_p_Chain_turn, defBody s_p_Chain_turn, defScope s_p_Chain_turn⟩, ⟨("Chain", some "turns"), "turns", "Chain.turns", defArgs s_p_Chain_turns, defBody s_p_Chain_turns, defScope s_p_Chain_turns⟩, ⟨("Chain", some "walk_for"), "walk_for", "Chain.walk_for", defArgs s_p_Chain_walk_for, defBody s_p_Chain_walk_for, defScope s_p_Chain_walk_for⟩, ⟨("Chain", some "go"), "go", "Chain.go", defArgs s_p_Chain_go, defBody s_p_Chain_go, defScope s_p_Chain_go⟩, ⟨("_law_name", none), "_law_name", "_law_name", defArgs s_l_name, defBody s_l_name, defScope s_l_name⟩, ⟨("_law_same", none), "_law_same", "_law_same", defArgs s_l_same, defBody s_l_same, defScope s_l_same⟩, ⟨("_law_split", none), "_law_split", "_law_split", defArgs s_l_split, defBody s_l_split, defScope s_l_split⟩, ⟨("_law_way", none), "_law_way", "_law_way", defArgs s_l_way, defBody s_l_way, defScope s_l_way⟩, ⟨("_law_gcd", none), "_law_gcd", "_law_gcd", defArgs s_l_gcd, defBody s_l_gcd, defScope s_l_gcd⟩]
def hrFn2 : List He.FnD := [⟨("_law_amt", none), "_law_amt", "_law_amt", defArgs s_l_amt, defBody s_l_amt, defScope s_l_amt⟩, ⟨("_law_add", none), "_law_add", "_law_add", defArgs s_l_add, defBody s_l_add, defScope s_l_add⟩, ⟨("_law_sub", none), "_law_sub", "_law_sub", defArgs s_l_sub, defBody s_l_sub, defScope s_l_sub⟩, ⟨("_law_mul", none), "_law_mul", "_law_mul", defArgs s_l_mul, defBody s_l_mul, defScope s_l_mul⟩, ⟨("law", none), "law", "law", defArgs s_LAW, defBody s_LAW, defScope s_LAW⟩, ⟨("PailError", some "__init__"), "__init__", "PailError.__init__", defArgs s_p_PailError___init__, defBody s_p_PailError___init__, defScope s_p_PailError___init__⟩, ⟨("BadWay", some "__init__"), "__init__", "BadWay.__init__", defArgs s_p_BadWay___init__, defBody s_p_BadWay___init__, defScope s_p_BadWay___init__⟩, ⟨("BadName", some "__init__"), "__init__", "BadName.__init__", defArgs s_p_BadName___init__, defBody s_p_BadName___init__, defScope s_p_BadName___init__⟩, ⟨("Taken", some "__init__"), "__init__", "Taken.__init__", defArgs s_p_Taken___init__, defBody s_p_Taken___init__, defScope s_p_Taken___init__⟩, ⟨("BadPace", some "__init__"), "__init__", "BadPace.__init__", defArgs s_p_BadPace___init__, defBody s_p_BadPace___init__, defScope s_p_BadPace___init__⟩, ⟨("Full", some "__init__"), "__init__", "Full.__init__", defArgs s_p_Full___init__, defBody s_p_Full___init__, defScope s_p_Full___init__⟩, ⟨("NoHand", some "__init__"), "__init__", "NoHand.__init__", defArgs s_p_NoHand___init__, defBody s_p_NoHand___init__, defScope s_p_NoHand___init__⟩, ⟨("Called", some "__init__"), "__init__", "Called.__init__", defArgs s_p_Called___init__, defBody s_p_Called___init__, defScope s_p_Called___init__⟩, ⟨("NotCalled", some "__init__"), "__init__", "NotCalled.__init__", defArgs s_p_NotCalled___init__, defBody s_p_NotCalled___init__, defScope s_p_NotCalled___init__⟩, ⟨("NoNext", some "__init__"), "__init__", "NoNext.__init__", defArgs s_p_NoNext___init__, defBody s_p_NoNext___init__, defScope s_p_NoNext___init__⟩, ⟨("BadTime", some "__init__"), "__init__", "BadTime.__init__", defArgs s_p_BadTime___init__, defBody s_p_BadTime___init__, defScope s_p_BadTime___init__⟩, ⟨("TooLong", some "__init__"), "__init__", "TooLong.__init__", defArgs s_p_TooLong___init__, defBody s_p_TooLong___init__, defScope s_p_TooLong___init__⟩]
def hrFn : List He.FnD := hrFn0 ++ (hrFn1 ++ (hrFn2))
def hrLoose0 : List Str := ["_wall", "__name__", "NOUGHT", "common_divisor", "amount", "plus", "minus", "times", "over", "below", "lesser", "PailError", "BadWay", "BadName", "Taken", "BadPace", "Full", "NoHand", "Called", "NotCalled", "NoNext", "BadTime", "TooLong", "MOST_LETTERS", "MOST_PACE", "MOST_HANDS", "MOST_HOURS", "MOST_PARTS", "is_number", "is_within"]
def hrLoose1 : List Str := ["is_name", "check_name", "check_pace", "check_hours", "speeds", "meeting", "hours_at", "walked", "MOST_STRETCHES", "MOST_STEPS_OR_TOIL", "is_stretch", "check_way", "labour", "MOST_OUTS", "ledger_on", "Chain", "_law_cell", "_law_draws", "_law_split", "_law_many", "_law_same", "_law_word", "_law_gcd", "_law_amt", "_law_add", "_law_sub", "_law_mul", "_law_way", "_law_name"]
def hrLoose : List Str := hrLoose0 ++ (hrLoose1)
theorem hrRun (w : World) : HandSHeadRun.RunEq (PySem.W.OpenLaw.row PySem.Challenge.rw_pailchain_k18_ledgers_of_steady_hands) (PySem.W.view (PySem.W.OpenLaw.row PySem.Challenge.rw_pailchain_k18_ledgers_of_steady_hands).prog [65]) (hrHook hrFx hrFn hrTf) (hrOb hrFx hrFn hrTf) 60000 hrLoose w := by
  intro os
  kernel_rfl
section
variable {P : Program} {w : World} {K : PySem.W.Frag} {T : Tb} {mg : Str → Option Value} {base : Heap}
/-! ### chains in the heap -/
structure Ad where
  dx : Addr
  st : Addr
  nw : Addr
  rw : Addr
  ld : Addr
  sp : Addr
  tm : Addr
  lv : Addr
  lg : Addr
  mr : Addr
  pr : Addr
def FLD : List Str := ["fire", "stretches", "now", "row", "loads", "spots", "tempos", "leaving", "ledgers", "marks", "poured"]
def flds (L : Int) (A : Ad) : List (Str × V) := [("fire", .int L), ("stretches", .ref A.st), ("now", .ref A.nw), ("row", .ref A.rw), ("loads", .ref A.ld), ("spots", .ref A.sp), ("tempos", .ref A.tm), ("leaving", .ref A.lv), ("ledgers", .ref A.lg), ("marks", .ref A.mr), ("poured", .ref A.pr)]
theorem lookup_no {fs : List (Str × V)} {m : Str} (h : m ∉ fs.map (·.1)) : fs.lookup m = none := by
  induction fs with
  | nil => rfl
  | cons a l ih =>
    obtain ⟨k, v⟩ := a
    rw [List.map_cons, List.mem_cons, not_or] at h
    rw [List.lookup_cons]
    have e : (m == k) = false := by
      cases q : (m == k) with
      | false => rfl
      | true => exact absurd (eq_of_beq q) h.1
    rw [e]
    exact ih h.2
theorem fl_no {L : Int} {A : Ad} {m : Str} (h : m ∉ FLD) : (flds L A).lookup m = none := lookup_no h
theorem fl_fire {L : Int} {A : Ad} : (flds L A).lookup ("fire" : Str) = some (.int L) := rfl
theorem fl_st {L : Int} {A : Ad} : (flds L A).lookup ("stretches" : Str) = some (.ref A.st) := rfl
theorem fl_nw {L : Int} {A : Ad} : (flds L A).lookup ("now" : Str) = some (.ref A.nw) := rfl
theorem fl_rw {L : Int} {A : Ad} : (flds L A).lookup ("row" : Str) = some (.ref A.rw) := rfl
theorem fl_ld {L : Int} {A : Ad} : (flds L A).lookup ("loads" : Str) = some (.ref A.ld) := rfl
theorem fl_sp {L : Int} {A : Ad} : (flds L A).lookup ("spots" : Str) = some (.ref A.sp) := rfl
theorem fl_tm {L : Int} {A : Ad} : (flds L A).lookup ("tempos" : Str) = some (.ref A.tm) := rfl
theorem fl_lv {L : Int} {A : Ad} : (flds L A).lookup ("leaving" : Str) = some (.ref A.lv) := rfl
theorem fl_lg {L : Int} {A : Ad} : (flds L A).lookup ("ledgers" : Str) = some (.ref A.lg) := rfl
theorem fl_mk {L : Int} {A : Ad} : (flds L A).lookup ("marks" : Str) = some (.ref A.mr) := rfl
theorem fl_pr {L : Int} {A : Ad} : (flds L A).lookup ("poured" : Str) = some (.ref A.pr) := rfl
theorem pf_nw {L : Int} {A : Ad} {a : Addr} : putF "now" (.ref a) (flds L A) = flds L { A with nw := a } := rfl
theorem pf_rw {L : Int} {A : Ad} {a : Addr} : putF "row" (.ref a) (flds L A) = flds L { A with rw := a } := rfl
theorem pf_ld {L : Int} {A : Ad} {a : Addr} : putF "loads" (.ref a) (flds L A) = flds L { A with ld := a } := rfl
theorem pf_sp {L : Int} {A : Ad} {a : Addr} : putF "spots" (.ref a) (flds L A) = flds L { A with sp := a } := rfl
theorem pf_tm {L : Int} {A : Ad} {a : Addr} : putF "tempos" (.ref a) (flds L A) = flds L { A with tm := a } := rfl
theorem pf_lv {L : Int} {A : Ad} {a : Addr} : putF "leaving" (.ref a) (flds L A) = flds L { A with lv := a } := rfl
theorem pf_lg {L : Int} {A : Ad} {a : Addr} : putF "ledgers" (.ref a) (flds L A) = flds L { A with lg := a } := rfl
theorem pf_mk {L : Int} {A : Ad} {a : Addr} : putF "marks" (.ref a) (flds L A) = flds L { A with mr := a } := rfl
theorem pf_pr {L : Int} {A : Ad} {a : Addr} : putF "poured" (.ref a) (flds L A) = flds L { A with pr := a } := rfl
/-! ### what a deed leaves: all but the objects S -/
def imm : HO → Bool
  | .tup _ => true
  | .frz _ _ => true
  | .own _ => true
  | _ => false
def mutO : HO → Bool
  | .lst _ => true
  | .dK _ => true
  | .ins _ _ _ => true
  | _ => false
structure Sx (T : Tb) (S : List Addr) (H H' : Hp) : Prop where
  keep : ∀ b o, H b = some o → nTbl o → (imm o = true ∨ b ∉ S) → H' b = some o
  ok : Ok T H → Ok T H'
  free : ∀ l, H' l = none → H l = none
theorem Sm.sx {T : Tb} {S : List Addr} {H H' : Hp} (s : Sm T H H') : Sx T S H H' := ⟨fun b o e n _ => s.keep b o e n, s.ok, s.free⟩
theorem Sx.sm {T : Tb} {H H' : Hp} (s : Sx T [] H H') : Sm T H H' := ⟨fun b o e n => s.keep b o e n (.inr (by simp)), s.ok, s.free⟩
theorem Sx.refl {T : Tb} {S : List Addr} {H : Hp} : Sx T S H H := Sm.refl.sx
theorem Sx.trans {T : Tb} {S S2 : List Addr} {H H1 H2 : Hp} (a : Sx T S H H1) (b : Sx T S2 H1 H2) (h : ∀ x ∈ S2, x ∈ S ∨ H x = none) : Sx T S H H2 :=
  ⟨fun c o e n i => b.keep c o (a.keep c o e n i) n (i.imp id fun hc hc2 => (h c hc2).elim hc fun z => by rw [z] at e; cases e), fun k => b.ok (a.ok k), fun l k => a.free l (b.free l k)⟩
theorem Sx.step {T : Tb} {S : List Addr} {H H1 H2 : Hp} (a : Sx T S H H1) (b : Sx T S H1 H2) : Sx T S H H2 := a.trans b fun _ h => .inl h
theorem Sx.sm' {T : Tb} {S : List Addr} {H H1 H2 : Hp} (a : Sx T S H H1) (b : Sm T H1 H2) : Sx T S H H2 := a.trans (S2 := []) b.sx fun _ h => nomatch h
theorem Sx.mono {T : Tb} {S S2 : List Addr} {H H' : Hp} (a : Sx T S H H') (h : ∀ x ∈ S, x ∈ S2 ∨ H x = none) : Sx T S2 H H' := Sx.refl.trans a h
theorem okP_mut2 {H : Hp} {p : Addr × Option Str} {a : Addr} {o u : HO} (h : OkP H p) (ha : H a = some u) (hm : mutO u = true) : OkP (upd H a o) p := by
  have k : ∀ b v, H b = some v → mutO v = false → upd H a o b = some v := fun b v e n => by
    rw [upd_ne (fun z => by rw [z, ha] at e; cases e; rw [hm] at n; cases n)]
    exact e
  obtain ⟨Q, q⟩ := p
  cases q with
  | none =>
    obtain ⟨ps, h1, h2⟩ := (show GxR.TabG H Q from h)
    exact ⟨ps, k _ _ h1 rfl, h2⟩
  | some q =>
    obtain ⟨ps, h1, h2, h3⟩ := (show LamX.TabS H Q q from h)
    refine ⟨ps, k _ _ h1 rfl, h2, fun pos cv hc => ?_⟩
    obtain ⟨c, e1, e2⟩ := h3 pos cv hc
    exact ⟨c, e1, k _ _ e2 (by unfold LamX.CodeO; rfl)⟩
theorem sx_upd {T : Tb} {S : List Addr} {H : Hp} {a : Addr} {o u : HO} (ha : H a = some u) (hm : mutO u = true) (hS : a ∈ S) : Sx T S H (upd H a o) := by
  refine ⟨fun b v e _ i => ?_, fun hk q hq => okP_mut2 (hk q hq) ha hm, fun l hl => ?_⟩
  · rw [upd_ne]
    · exact e
    · rintro rfl
      rcases i with i | i
      · rw [e] at ha
        cases ha
        cases u <;> simp_all [mutO, imm]
      · exact i hS
  · by_cases z : l = a
    · rw [z, upd_same] at hl; cases hl
    · rw [upd_ne z] at hl; exact hl
theorem Sx.tup {T : Tb} {S : List Addr} {K : PySem.W.Frag} {H H' : Hp} {a : Addr} {xs : List V} (e : Sx T S H H') (h : SqT K H a xs) : SqT K H' a xs := by
  rcases h with (h | ⟨o, h⟩) | h
  · exact .inl (.inl (e.keep _ _ h trivial (.inl rfl)))
  · exact .inl (.inr ⟨o, e.keep _ _ h trivial (.inl rfl)⟩)
  · exact .inr h
theorem Sx.lst {T : Tb} {S : List Addr} {H H' : Hp} {a : Addr} {xs : List V} (e : Sx T S H H') (h : H a = some (.lst xs)) (ha : a ∉ S) : H' a = some (.lst xs) := e.keep _ _ h trivial (.inr ha)
theorem Sx.seq {T : Tb} {S : List Addr} {K : PySem.W.Frag} {H H' : Hp} {a : Addr} {xs : List V} (e : Sx T S H H') (h : SqL K H a xs) (ha : a ∉ S) : SqL K H' a xs := by
  rcases h with (h | ⟨o, h⟩) | h
  · exact .inl (.inl (e.keep _ _ h trivial (.inr ha)))
  · exact .inl (.inr ⟨o, e.keep _ _ h trivial (.inl rfl)⟩)
  · exact .inr h
mutual
theorem Sx.dp {T : Tb} {S : List Addr} {K : PySem.W.Frag} {H H' : Hp} (e : Sx T S H H') : ∀ (n : Nat) (d : PyData) (v : V), noL n d = true → Dp K H v d → Dp K H' v d
  | _, .none, _, _, h => by cases h; exact .non
  | _, .bool b, _, _, h => by cases h; exact .bl b
  | _, .int i, _, _, h => by cases h; exact .int i
  | _, .str x, _, _, h => by cases h; exact .str x
  | 0, .tuple _, _, z, _ => by cases z
  | n + 1, .tuple ds, _, z, h => by
    cases h with
    | tup hs hall => exact .tup (e.tup hs) (Sx.dps e n ds _ z hall)
  | 0, .list _, _, z, _ => by cases z
  | _ + 1, .list _, _, z, _ => by cases z
  | 0, .dict _, _, z, _ => by cases z
  | _ + 1, .dict _, _, z, _ => by cases z
theorem Sx.dps {T : Tb} {S : List Addr} {K : PySem.W.Frag} {H H' : Hp} (e : Sx T S H H') : ∀ (n : Nat) (ds : List PyData) (vs : List V), ds.all (noL n) = true → DpAll K H vs ds → DpAll K H' vs ds
  | _, [], _, _, h => by cases h; exact .nil
  | n, d :: ds, _, z, h => by
    cases h with
    | cons h1 h2 =>
      rw [List.all_cons, Bool.and_eq_true] at z
      exact .cons (Sx.dp e n d _ z.1 h1) (Sx.dps e n ds _ z.2 h2)
end
/-! ### a chain, as it stands -/
structure Ch where
  fire : Int
  way : List Am
  now : Rat
  row : List Str
  loads : List Int
  spots : List Rat
  tempos : List (Str × Int)
  leaving : List Str
  ledgers : List (Str × (Rat × Rat × Rat))
  marks : List (List (Str × Rat))
  poured : List Int
def tmV (l : List (Str × Int)) : List (L2.Key × V) := l.map fun x => (Sum.inr x.1, V.int x.2)
def ledD (x : Rat × Rat × Rat) : PyData := .tuple [amD (am x.1), amD (am x.2.1), amD (am x.2.2)]
def mkD (l : List (Str × Rat)) : PyData := .tuple (l.map fun x => .tuple [.str x.1, amD (am x.2)])
def LedL (K : PySem.W.Frag) (H : Hp) (kvs : List (L2.Key × V)) (l : List (Str × (Rat × Rat × Rat))) : Prop := kvs.map (·.1) = l.map (fun x => (Sum.inr x.1 : L2.Key)) ∧ DpAll K H (kvs.map (·.2)) (l.map fun x => ledD x.2)
def ownC (c : Addr) (A : Ad) : List Addr := [c, A.rw, A.ld, A.sp, A.tm, A.lv, A.lg, A.mr, A.pr]
structure ChAt (K : PySem.W.Frag) (C : Addr) (H : Hp) (c : Addr) (A : Ad) (s : Ch) : Prop where
  ins : H c = some (.ins C A.dx (flds s.fire A))
  own : H A.dx = some (.own c)
  st : ∃ us, SqT K H A.st us ∧ DpAll K H us (s.way.map amD)
  nw : SqT K H A.nw (tv (am s.now))
  rw : H A.rw = some (.lst (s.row.map V.str))
  ld : H A.ld = some (.lst (s.loads.map V.int))
  sp : ∃ us, H A.sp = some (.lst us) ∧ AmL K H us s.spots
  tm : H A.tm = some (.dK (tmV s.tempos))
  lv : H A.lv = some (.lst (s.leaving.map V.str))
  lg : ∃ kvs, H A.lg = some (.dK kvs) ∧ LedL K H kvs s.ledgers
  mr : ∃ us, H A.mr = some (.lst us) ∧ DpAll K H us (s.marks.map mkD)
  pr : H A.pr = some (.lst (s.poured.map V.int))
  nd : (ownC c A).Nodup
theorem noL_ams (rs : List Rat) : ((rs.map am).map amD).all (noL 3) = true := by
  rw [List.all_map]
  exact List.all_eq_true.mpr fun _ _ => rfl
theorem noL_way (qs : List Am) : (qs.map amD).all (noL 3) = true := by
  rw [List.all_map]
  exact List.all_eq_true.mpr fun _ _ => rfl
theorem noL_led (l : List (Str × (Rat × Rat × Rat))) : (l.map fun x => ledD x.2).all (noL 3) = true := by
  rw [List.all_map]
  exact List.all_eq_true.mpr fun _ _ => rfl
theorem noL_mk (l : List (Str × Rat)) : noL 4 (mkD l) = true := by
  show (l.map fun x => PyData.tuple [.str x.1, amD (am x.2)]).all (noL 3) = true
  rw [List.all_map]
  exact List.all_eq_true.mpr fun _ _ => rfl
theorem noL_mks (l : List (List (Str × Rat))) : (l.map mkD).all (noL 4) = true := by
  rw [List.all_map]
  exact List.all_eq_true.mpr fun x _ => noL_mk x
theorem Sx.ams {T : Tb} {S : List Addr} {K : PySem.W.Frag} {H H' : Hp} {us : List V} {rs : List Rat} (e : Sx T S H H') (h : AmL K H us rs) : AmL K H' us rs := e.dps 3 _ _ (noL_ams rs) h
theorem Sx.led {T : Tb} {S : List Addr} {K : PySem.W.Frag} {H H' : Hp} {kvs : List (L2.Key × V)} {l : List (Str × (Rat × Rat × Rat))} (e : Sx T S H H') (h : LedL K H kvs l) : LedL K H' kvs l := ⟨h.1, e.dps 3 _ _ (noL_led l) h.2⟩
theorem Sx.mks {T : Tb} {S : List Addr} {K : PySem.W.Frag} {H H' : Hp} {us : List V} {l : List (List (Str × Rat))} (e : Sx T S H H') (h : DpAll K H us (l.map mkD)) : DpAll K H' us (l.map mkD) := e.dps 4 _ _ (noL_mks l) h
theorem nd_set {l : List Addr} (h : l.Nodup) {i : Nat} {x y : Addr} (hi : l[i]? = some x) (hy : y ∉ l) : (l.set i y).Nodup := by
  rw [List.nodup_iff_pairwise_ne, List.pairwise_iff_getElem] at *
  intro a b ha hb hab
  rw [List.length_set] at ha hb
  rw [List.getElem_set, List.getElem_set]
  split
  · split
    · omega
    · intro z; exact hy (by rw [z]; exact List.getElem_mem _)
  · split
    · intro z; exact hy (by rw [← z]; exact List.getElem_mem _)
    · exact h a b ha hb hab
section
variable {K : PySem.W.Frag} {T : Tb} {C : Addr} {H H' : Hp} {c : Addr} {A : Ad} {s : Ch} {S : List Addr}
/-- a chain stays where others are changed -/
theorem ChAt.sx (h : ChAt K C H c A s) (e : Sx T S H H') (hd : ∀ x ∈ ownC c A, x ∉ S) : ChAt K C H' c A s := by
  have m : ∀ x, x ∈ ownC c A → ∀ o, H x = some o → nTbl o → H' x = some o := fun x hx o ho n => e.keep x o ho n (.inr (hd x hx))
  obtain ⟨us, s1, s2⟩ := h.st
  obtain ⟨ps, p1, p2⟩ := h.sp
  obtain ⟨kv, k1, k2⟩ := h.lg
  obtain ⟨ms, m1, m2⟩ := h.mr
  exact ⟨m _ (by simp [ownC]) _ h.ins trivial, e.keep _ _ h.own trivial (.inl rfl), ⟨us, e.tup s1, e.dps 3 _ _ (noL_way _) s2⟩, e.tup h.nw, m _ (by simp [ownC]) _ h.rw trivial, m _ (by simp [ownC]) _ h.ld trivial, ⟨ps, m _ (by simp [ownC]) _ p1 trivial, e.ams p2⟩,
    m _ (by simp [ownC]) _ h.tm trivial, m _ (by simp [ownC]) _ h.lv trivial, ⟨kv, m _ (by simp [ownC]) _ k1 trivial, e.led k2⟩, ⟨ms, m _ (by simp [ownC]) _ m1 trivial, e.mks m2⟩, m _ (by simp [ownC]) _ h.pr trivial, h.nd⟩
theorem ChAt.sm (h : ChAt K C H c A s) (e : Sm T H H') : ChAt K C H' c A s := h.sx (S := []) e.sx fun _ _ => by simp
theorem ChAt.ne (h : ChAt K C H c A s) {i j : Nat} {x y : Addr} (hi : (ownC c A)[i]? = some x) (hj : (ownC c A)[j]? = some y) (hij : i ≠ j) : x ∉ [y] := fun z => by
  rw [List.mem_singleton.mp z] at hi
  exact hij (nd_ix h.nd hi hj)
theorem ChAt.set_rw (h : ChAt K C H c A s) (r : List Str) : ChAt K C (upd H A.rw (.lst (r.map V.str))) c A { s with row := r } := by
  obtain ⟨us0, s1, s2⟩ := h.st
  obtain ⟨ps, p1, p2⟩ := h.sp
  obtain ⟨kv, k1, k2⟩ := h.lg
  obtain ⟨ms, m1, m2⟩ := h.mr
  have e : Sx [] [A.rw] H (upd H A.rw (.lst (r.map V.str))) := sx_upd h.rw rfl List.mem_cons_self
  exact ⟨e.keep _ _ h.ins trivial (.inr (h.ne (i := 0) (j := 1) rfl rfl (by decide))), e.keep _ _ h.own trivial (.inl rfl), ⟨us0, e.tup s1, e.dps 3 _ _ (noL_way _) s2⟩, e.tup h.nw, upd_same, e.keep _ _ h.ld trivial (.inr (h.ne (i := 2) (j := 1) rfl rfl (by decide))), ⟨ps, e.keep _ _ p1 trivial (.inr (h.ne (i := 3) (j := 1) rfl rfl (by decide))), e.ams p2⟩, e.keep _ _ h.tm trivial (.inr (h.ne (i := 4) (j := 1) rfl rfl (by decide))), e.keep _ _ h.lv trivial (.inr (h.ne (i := 5) (j := 1) rfl rfl (by decide))), ⟨kv, e.keep _ _ k1 trivial (.inr (h.ne (i := 6) (j := 1) rfl rfl (by decide))), e.led k2⟩, ⟨ms, e.keep _ _ m1 trivial (.inr (h.ne (i := 7) (j := 1) rfl rfl (by decide))), e.mks m2⟩, e.keep _ _ h.pr trivial (.inr (h.ne (i := 8) (j := 1) rfl rfl (by decide))), h.nd⟩
theorem ChAt.set_ld (h : ChAt K C H c A s) (r : List Int) : ChAt K C (upd H A.ld (.lst (r.map V.int))) c A { s with loads := r } := by
  obtain ⟨us0, s1, s2⟩ := h.st
  obtain ⟨ps, p1, p2⟩ := h.sp
  obtain ⟨kv, k1, k2⟩ := h.lg
  obtain ⟨ms, m1, m2⟩ := h.mr
  have e : Sx [] [A.ld] H (upd H A.ld (.lst (r.map V.int))) := sx_upd h.ld rfl List.mem_cons_self
  exact ⟨e.keep _ _ h.ins trivial (.inr (h.ne (i := 0) (j := 2) rfl rfl (by decide))), e.keep _ _ h.own trivial (.inl rfl), ⟨us0, e.tup s1, e.dps 3 _ _ (noL_way _) s2⟩, e.tup h.nw, e.keep _ _ h.rw trivial (.inr (h.ne (i := 1) (j := 2) rfl rfl (by decide))), upd_same, ⟨ps, e.keep _ _ p1 trivial (.inr (h.ne (i := 3) (j := 2) rfl rfl (by decide))), e.ams p2⟩, e.keep _ _ h.tm trivial (.inr (h.ne (i := 4) (j := 2) rfl rfl (by decide))), e.keep _ _ h.lv trivial (.inr (h.ne (i := 5) (j := 2) rfl rfl (by decide))), ⟨kv, e.keep _ _ k1 trivial (.inr (h.ne (i := 6) (j := 2) rfl rfl (by decide))), e.led k2⟩, ⟨ms, e.keep _ _ m1 trivial (.inr (h.ne (i := 7) (j := 2) rfl rfl (by decide))), e.mks m2⟩, e.keep _ _ h.pr trivial (.inr (h.ne (i := 8) (j := 2) rfl rfl (by decide))), h.nd⟩
theorem ChAt.set_sp (h : ChAt K C H c A s) {us : List V} {r : List Rat} (hu : AmL K H us r) : ChAt K C (upd H A.sp (.lst us)) c A { s with spots := r } := by
  obtain ⟨us0, s1, s2⟩ := h.st
  obtain ⟨ps, p1, p2⟩ := h.sp
  obtain ⟨kv, k1, k2⟩ := h.lg
  obtain ⟨ms, m1, m2⟩ := h.mr
  have e : Sx [] [A.sp] H (upd H A.sp (.lst us)) := sx_upd p1 rfl List.mem_cons_self
  exact ⟨e.keep _ _ h.ins trivial (.inr (h.ne (i := 0) (j := 3) rfl rfl (by decide))), e.keep _ _ h.own trivial (.inl rfl), ⟨us0, e.tup s1, e.dps 3 _ _ (noL_way _) s2⟩, e.tup h.nw, e.keep _ _ h.rw trivial (.inr (h.ne (i := 1) (j := 3) rfl rfl (by decide))), e.keep _ _ h.ld trivial (.inr (h.ne (i := 2) (j := 3) rfl rfl (by decide))), ⟨us, upd_same, e.ams hu⟩, e.keep _ _ h.tm trivial (.inr (h.ne (i := 4) (j := 3) rfl rfl (by decide))), e.keep _ _ h.lv trivial (.inr (h.ne (i := 5) (j := 3) rfl rfl (by decide))), ⟨kv, e.keep _ _ k1 trivial (.inr (h.ne (i := 6) (j := 3) rfl rfl (by decide))), e.led k2⟩, ⟨ms, e.keep _ _ m1 trivial (.inr (h.ne (i := 7) (j := 3) rfl rfl (by decide))), e.mks m2⟩, e.keep _ _ h.pr trivial (.inr (h.ne (i := 8) (j := 3) rfl rfl (by decide))), h.nd⟩
theorem ChAt.set_tm (h : ChAt K C H c A s) (r : List (Str × Int)) : ChAt K C (upd H A.tm (.dK (tmV r))) c A { s with tempos := r } := by
  obtain ⟨us0, s1, s2⟩ := h.st
  obtain ⟨ps, p1, p2⟩ := h.sp
  obtain ⟨kv, k1, k2⟩ := h.lg
  obtain ⟨ms, m1, m2⟩ := h.mr
  have e : Sx [] [A.tm] H (upd H A.tm (.dK (tmV r))) := sx_upd h.tm rfl List.mem_cons_self
  exact ⟨e.keep _ _ h.ins trivial (.inr (h.ne (i := 0) (j := 4) rfl rfl (by decide))), e.keep _ _ h.own trivial (.inl rfl), ⟨us0, e.tup s1, e.dps 3 _ _ (noL_way _) s2⟩, e.tup h.nw, e.keep _ _ h.rw trivial (.inr (h.ne (i := 1) (j := 4) rfl rfl (by decide))), e.keep _ _ h.ld trivial (.inr (h.ne (i := 2) (j := 4) rfl rfl (by decide))), ⟨ps, e.keep _ _ p1 trivial (.inr (h.ne (i := 3) (j := 4) rfl rfl (by decide))), e.ams p2⟩, upd_same, e.keep _ _ h.lv trivial (.inr (h.ne (i := 5) (j := 4) rfl rfl (by decide))), ⟨kv, e.keep _ _ k1 trivial (.inr (h.ne (i := 6) (j := 4) rfl rfl (by decide))), e.led k2⟩, ⟨ms, e.keep _ _ m1 trivial (.inr (h.ne (i := 7) (j := 4) rfl rfl (by decide))), e.mks m2⟩, e.keep _ _ h.pr trivial (.inr (h.ne (i := 8) (j := 4) rfl rfl (by decide))), h.nd⟩
theorem ChAt.set_lv (h : ChAt K C H c A s) (r : List Str) : ChAt K C (upd H A.lv (.lst (r.map V.str))) c A { s with leaving := r } := by
  obtain ⟨us0, s1, s2⟩ := h.st
  obtain ⟨ps, p1, p2⟩ := h.sp
  obtain ⟨kv, k1, k2⟩ := h.lg
  obtain ⟨ms, m1, m2⟩ := h.mr
  have e : Sx [] [A.lv] H (upd H A.lv (.lst (r.map V.str))) := sx_upd h.lv rfl List.mem_cons_self
  exact ⟨e.keep _ _ h.ins trivial (.inr (h.ne (i := 0) (j := 5) rfl rfl (by decide))), e.keep _ _ h.own trivial (.inl rfl), ⟨us0, e.tup s1, e.dps 3 _ _ (noL_way _) s2⟩, e.tup h.nw, e.keep _ _ h.rw trivial (.inr (h.ne (i := 1) (j := 5) rfl rfl (by decide))), e.keep _ _ h.ld trivial (.inr (h.ne (i := 2) (j := 5) rfl rfl (by decide))), ⟨ps, e.keep _ _ p1 trivial (.inr (h.ne (i := 3) (j := 5) rfl rfl (by decide))), e.ams p2⟩, e.keep _ _ h.tm trivial (.inr (h.ne (i := 4) (j := 5) rfl rfl (by decide))), upd_same, ⟨kv, e.keep _ _ k1 trivial (.inr (h.ne (i := 6) (j := 5) rfl rfl (by decide))), e.led k2⟩, ⟨ms, e.keep _ _ m1 trivial (.inr (h.ne (i := 7) (j := 5) rfl rfl (by decide))), e.mks m2⟩, e.keep _ _ h.pr trivial (.inr (h.ne (i := 8) (j := 5) rfl rfl (by decide))), h.nd⟩
theorem ChAt.set_lg (h : ChAt K C H c A s) {kvs : List (L2.Key × V)} {r : List (Str × (Rat × Rat × Rat))} (hu : LedL K H kvs r) : ChAt K C (upd H A.lg (.dK kvs)) c A { s with ledgers := r } := by
  obtain ⟨us0, s1, s2⟩ := h.st
  obtain ⟨ps, p1, p2⟩ := h.sp
  obtain ⟨kv, k1, k2⟩ := h.lg
  obtain ⟨ms, m1, m2⟩ := h.mr
  have e : Sx [] [A.lg] H (upd H A.lg (.dK kvs)) := sx_upd k1 rfl List.mem_cons_self
  exact ⟨e.keep _ _ h.ins trivial (.inr (h.ne (i := 0) (j := 6) rfl rfl (by decide))), e.keep _ _ h.own trivial (.inl rfl), ⟨us0, e.tup s1, e.dps 3 _ _ (noL_way _) s2⟩, e.tup h.nw, e.keep _ _ h.rw trivial (.inr (h.ne (i := 1) (j := 6) rfl rfl (by decide))), e.keep _ _ h.ld trivial (.inr (h.ne (i := 2) (j := 6) rfl rfl (by decide))), ⟨ps, e.keep _ _ p1 trivial (.inr (h.ne (i := 3) (j := 6) rfl rfl (by decide))), e.ams p2⟩, e.keep _ _ h.tm trivial (.inr (h.ne (i := 4) (j := 6) rfl rfl (by decide))), e.keep _ _ h.lv trivial (.inr (h.ne (i := 5) (j := 6) rfl rfl (by decide))), ⟨kvs, upd_same, e.led hu⟩, ⟨ms, e.keep _ _ m1 trivial (.inr (h.ne (i := 7) (j := 6) rfl rfl (by decide))), e.mks m2⟩, e.keep _ _ h.pr trivial (.inr (h.ne (i := 8) (j := 6) rfl rfl (by decide))), h.nd⟩
theorem ChAt.set_mr (h : ChAt K C H c A s) {us : List V} {r : List (List (Str × Rat))} (hu : DpAll K H us (r.map mkD)) : ChAt K C (upd H A.mr (.lst us)) c A { s with marks := r } := by
  obtain ⟨us0, s1, s2⟩ := h.st
  obtain ⟨ps, p1, p2⟩ := h.sp
  obtain ⟨kv, k1, k2⟩ := h.lg
  obtain ⟨ms, m1, m2⟩ := h.mr
  have e : Sx [] [A.mr] H (upd H A.mr (.lst us)) := sx_upd m1 rfl List.mem_cons_self
  exact ⟨e.keep _ _ h.ins trivial (.inr (h.ne (i := 0) (j := 7) rfl rfl (by decide))), e.keep _ _ h.own trivial (.inl rfl), ⟨us0, e.tup s1, e.dps 3 _ _ (noL_way _) s2⟩, e.tup h.nw, e.keep _ _ h.rw trivial (.inr (h.ne (i := 1) (j := 7) rfl rfl (by decide))), e.keep _ _ h.ld trivial (.inr (h.ne (i := 2) (j := 7) rfl rfl (by decide))), ⟨ps, e.keep _ _ p1 trivial (.inr (h.ne (i := 3) (j := 7) rfl rfl (by decide))), e.ams p2⟩, e.keep _ _ h.tm trivial (.inr (h.ne (i := 4) (j := 7) rfl rfl (by decide))), e.keep _ _ h.lv trivial (.inr (h.ne (i := 5) (j := 7) rfl rfl (by decide))), ⟨kv, e.keep _ _ k1 trivial (.inr (h.ne (i := 6) (j := 7) rfl rfl (by decide))), e.led k2⟩, ⟨us, upd_same, e.mks hu⟩, e.keep _ _ h.pr trivial (.inr (h.ne (i := 8) (j := 7) rfl rfl (by decide))), h.nd⟩
theorem ChAt.set_pr (h : ChAt K C H c A s) (r : List Int) : ChAt K C (upd H A.pr (.lst (r.map V.int))) c A { s with poured := r } := by
  obtain ⟨us0, s1, s2⟩ := h.st
  obtain ⟨ps, p1, p2⟩ := h.sp
  obtain ⟨kv, k1, k2⟩ := h.lg
  obtain ⟨ms, m1, m2⟩ := h.mr
  have e : Sx [] [A.pr] H (upd H A.pr (.lst (r.map V.int))) := sx_upd h.pr rfl List.mem_cons_self
  exact ⟨e.keep _ _ h.ins trivial (.inr (h.ne (i := 0) (j := 8) rfl rfl (by decide))), e.keep _ _ h.own trivial (.inl rfl), ⟨us0, e.tup s1, e.dps 3 _ _ (noL_way _) s2⟩, e.tup h.nw, e.keep _ _ h.rw trivial (.inr (h.ne (i := 1) (j := 8) rfl rfl (by decide))), e.keep _ _ h.ld trivial (.inr (h.ne (i := 2) (j := 8) rfl rfl (by decide))), ⟨ps, e.keep _ _ p1 trivial (.inr (h.ne (i := 3) (j := 8) rfl rfl (by decide))), e.ams p2⟩, e.keep _ _ h.tm trivial (.inr (h.ne (i := 4) (j := 8) rfl rfl (by decide))), e.keep _ _ h.lv trivial (.inr (h.ne (i := 5) (j := 8) rfl rfl (by decide))), ⟨kv, e.keep _ _ k1 trivial (.inr (h.ne (i := 6) (j := 8) rfl rfl (by decide))), e.led k2⟩, ⟨ms, e.keep _ _ m1 trivial (.inr (h.ne (i := 7) (j := 8) rfl rfl (by decide))), e.mks m2⟩, upd_same, h.nd⟩
theorem ChAt.re_nw (h : ChAt K C H c A s) {n : Addr} {t : Rat} (hn : SqT K H n (tv (am t))) : ChAt K C (upd H c (.ins C A.dx (flds s.fire { A with nw := n }))) c { A with nw := n } { s with now := t } := by
  obtain ⟨us0, s1, s2⟩ := h.st
  obtain ⟨ps, p1, p2⟩ := h.sp
  obtain ⟨kv, k1, k2⟩ := h.lg
  obtain ⟨ms, m1, m2⟩ := h.mr
  have e : Sx [] [c] H (upd H c (.ins C A.dx (flds s.fire { A with nw := n }))) := sx_upd h.ins rfl List.mem_cons_self
  exact ⟨upd_same, e.keep _ _ h.own trivial (.inl rfl), ⟨us0, e.tup s1, e.dps 3 _ _ (noL_way _) s2⟩, e.tup hn, e.keep _ _ h.rw trivial (.inr (h.ne (i := 1) (j := 0) rfl rfl (by decide))), e.keep _ _ h.ld trivial (.inr (h.ne (i := 2) (j := 0) rfl rfl (by decide))), ⟨ps, e.keep _ _ p1 trivial (.inr (h.ne (i := 3) (j := 0) rfl rfl (by decide))), e.ams p2⟩, e.keep _ _ h.tm trivial (.inr (h.ne (i := 4) (j := 0) rfl rfl (by decide))), e.keep _ _ h.lv trivial (.inr (h.ne (i := 5) (j := 0) rfl rfl (by decide))), ⟨kv, e.keep _ _ k1 trivial (.inr (h.ne (i := 6) (j := 0) rfl rfl (by decide))), e.led k2⟩, ⟨ms, e.keep _ _ m1 trivial (.inr (h.ne (i := 7) (j := 0) rfl rfl (by decide))), e.mks m2⟩, e.keep _ _ h.pr trivial (.inr (h.ne (i := 8) (j := 0) rfl rfl (by decide))), h.nd⟩
theorem ChAt.re_rw (h : ChAt K C H c A s) {n : Addr} {r : List Str} (hn : H n = some (.lst (r.map V.str))) (np : n ∉ ownC c A) : ChAt K C (upd H c (.ins C A.dx (flds s.fire { A with rw := n }))) c { A with rw := n } { s with row := r } := by
  obtain ⟨us0, s1, s2⟩ := h.st
  obtain ⟨ps, p1, p2⟩ := h.sp
  obtain ⟨kv, k1, k2⟩ := h.lg
  obtain ⟨ms, m1, m2⟩ := h.mr
  have e : Sx [] [c] H (upd H c (.ins C A.dx (flds s.fire { A with rw := n }))) := sx_upd h.ins rfl List.mem_cons_self
  exact ⟨upd_same, e.keep _ _ h.own trivial (.inl rfl), ⟨us0, e.tup s1, e.dps 3 _ _ (noL_way _) s2⟩, e.tup h.nw, e.keep _ _ hn trivial (.inr (fun z => np (by have e : n = c := List.mem_singleton.mp z; rw [e]; exact List.mem_cons_self))), e.keep _ _ h.ld trivial (.inr (h.ne (i := 2) (j := 0) rfl rfl (by decide))), ⟨ps, e.keep _ _ p1 trivial (.inr (h.ne (i := 3) (j := 0) rfl rfl (by decide))), e.ams p2⟩, e.keep _ _ h.tm trivial (.inr (h.ne (i := 4) (j := 0) rfl rfl (by decide))), e.keep _ _ h.lv trivial (.inr (h.ne (i := 5) (j := 0) rfl rfl (by decide))), ⟨kv, e.keep _ _ k1 trivial (.inr (h.ne (i := 6) (j := 0) rfl rfl (by decide))), e.led k2⟩, ⟨ms, e.keep _ _ m1 trivial (.inr (h.ne (i := 7) (j := 0) rfl rfl (by decide))), e.mks m2⟩, e.keep _ _ h.pr trivial (.inr (h.ne (i := 8) (j := 0) rfl rfl (by decide))), nd_set h.nd (i := 1) rfl np⟩
theorem ChAt.re_ld (h : ChAt K C H c A s) {n : Addr} {r : List Int} (hn : H n = some (.lst (r.map V.int))) (np : n ∉ ownC c A) : ChAt K C (upd H c (.ins C A.dx (flds s.fire { A with ld := n }))) c { A with ld := n } { s with loads := r } := by
  obtain ⟨us0, s1, s2⟩ := h.st
  obtain ⟨ps, p1, p2⟩ := h.sp
  obtain ⟨kv, k1, k2⟩ := h.lg
  obtain ⟨ms, m1, m2⟩ := h.mr
  have e : Sx [] [c] H (upd H c (.ins C A.dx (flds s.fire { A with ld := n }))) := sx_upd h.ins rfl List.mem_cons_self
  exact ⟨upd_same, e.keep _ _ h.own trivial (.inl rfl), ⟨us0, e.tup s1, e.dps 3 _ _ (noL_way _) s2⟩, e.tup h.nw, e.keep _ _ h.rw trivial (.inr (h.ne (i := 1) (j := 0) rfl rfl (by decide))), e.keep _ _ hn trivial (.inr (fun z => np (by have e : n = c := List.mem_singleton.mp z; rw [e]; exact List.mem_cons_self))), ⟨ps, e.keep _ _ p1 trivial (.inr (h.ne (i := 3) (j := 0) rfl rfl (by decide))), e.ams p2⟩, e.keep _ _ h.tm trivial (.inr (h.ne (i := 4) (j := 0) rfl rfl (by decide))), e.keep _ _ h.lv trivial (.inr (h.ne (i := 5) (j := 0) rfl rfl (by decide))), ⟨kv, e.keep _ _ k1 trivial (.inr (h.ne (i := 6) (j := 0) rfl rfl (by decide))), e.led k2⟩, ⟨ms, e.keep _ _ m1 trivial (.inr (h.ne (i := 7) (j := 0) rfl rfl (by decide))), e.mks m2⟩, e.keep _ _ h.pr trivial (.inr (h.ne (i := 8) (j := 0) rfl rfl (by decide))), nd_set h.nd (i := 2) rfl np⟩
theorem ChAt.re_sp (h : ChAt K C H c A s) {n : Addr} {us : List V} {r : List Rat} (hn : H n = some (.lst us)) (hu : AmL K H us r) (np : n ∉ ownC c A) : ChAt K C (upd H c (.ins C A.dx (flds s.fire { A with sp := n }))) c { A with sp := n } { s with spots := r } := by
  obtain ⟨us0, s1, s2⟩ := h.st
  obtain ⟨ps, p1, p2⟩ := h.sp
  obtain ⟨kv, k1, k2⟩ := h.lg
  obtain ⟨ms, m1, m2⟩ := h.mr
  have e : Sx [] [c] H (upd H c (.ins C A.dx (flds s.fire { A with sp := n }))) := sx_upd h.ins rfl List.mem_cons_self
  exact ⟨upd_same, e.keep _ _ h.own trivial (.inl rfl), ⟨us0, e.tup s1, e.dps 3 _ _ (noL_way _) s2⟩, e.tup h.nw, e.keep _ _ h.rw trivial (.inr (h.ne (i := 1) (j := 0) rfl rfl (by decide))), e.keep _ _ h.ld trivial (.inr (h.ne (i := 2) (j := 0) rfl rfl (by decide))), ⟨us, e.keep _ _ hn trivial (.inr (fun z => np (by have e : n = c := List.mem_singleton.mp z; rw [e]; exact List.mem_cons_self))), e.ams hu⟩, e.keep _ _ h.tm trivial (.inr (h.ne (i := 4) (j := 0) rfl rfl (by decide))), e.keep _ _ h.lv trivial (.inr (h.ne (i := 5) (j := 0) rfl rfl (by decide))), ⟨kv, e.keep _ _ k1 trivial (.inr (h.ne (i := 6) (j := 0) rfl rfl (by decide))), e.led k2⟩, ⟨ms, e.keep _ _ m1 trivial (.inr (h.ne (i := 7) (j := 0) rfl rfl (by decide))), e.mks m2⟩, e.keep _ _ h.pr trivial (.inr (h.ne (i := 8) (j := 0) rfl rfl (by decide))), nd_set h.nd (i := 3) rfl np⟩
theorem ChAt.re_tm (h : ChAt K C H c A s) {n : Addr} {r : List (Str × Int)} (hn : H n = some (.dK (tmV r))) (np : n ∉ ownC c A) : ChAt K C (upd H c (.ins C A.dx (flds s.fire { A with tm := n }))) c { A with tm := n } { s with tempos := r } := by
  obtain ⟨us0, s1, s2⟩ := h.st
  obtain ⟨ps, p1, p2⟩ := h.sp
  obtain ⟨kv, k1, k2⟩ := h.lg
  obtain ⟨ms, m1, m2⟩ := h.mr
  have e : Sx [] [c] H (upd H c (.ins C A.dx (flds s.fire { A with tm := n }))) := sx_upd h.ins rfl List.mem_cons_self
  exact ⟨upd_same, e.keep _ _ h.own trivial (.inl rfl), ⟨us0, e.tup s1, e.dps 3 _ _ (noL_way _) s2⟩, e.tup h.nw, e.keep _ _ h.rw trivial (.inr (h.ne (i := 1) (j := 0) rfl rfl (by decide))), e.keep _ _ h.ld trivial (.inr (h.ne (i := 2) (j := 0) rfl rfl (by decide))), ⟨ps, e.keep _ _ p1 trivial (.inr (h.ne (i := 3) (j := 0) rfl rfl (by decide))), e.ams p2⟩, e.keep _ _ hn trivial (.inr (fun z => np (by have e : n = c := List.mem_singleton.mp z; rw [e]; exact List.mem_cons_self))), e.keep _ _ h.lv trivial (.inr (h.ne (i := 5) (j := 0) rfl rfl (by decide))), ⟨kv, e.keep _ _ k1 trivial (.inr (h.ne (i := 6) (j := 0) rfl rfl (by decide))), e.led k2⟩, ⟨ms, e.keep _ _ m1 trivial (.inr (h.ne (i := 7) (j := 0) rfl rfl (by decide))), e.mks m2⟩, e.keep _ _ h.pr trivial (.inr (h.ne (i := 8) (j := 0) rfl rfl (by decide))), nd_set h.nd (i := 4) rfl np⟩
theorem ChAt.re_lv (h : ChAt K C H c A s) {n : Addr} {r : List Str} (hn : H n = some (.lst (r.map V.str))) (np : n ∉ ownC c A) : ChAt K C (upd H c (.ins C A.dx (flds s.fire { A with lv := n }))) c { A with lv := n } { s with leaving := r } := by
  obtain ⟨us0, s1, s2⟩ := h.st
  obtain ⟨ps, p1, p2⟩ := h.sp
  obtain ⟨kv, k1, k2⟩ := h.lg
  obtain ⟨ms, m1, m2⟩ := h.mr
  have e : Sx [] [c] H (upd H c (.ins C A.dx (flds s.fire { A with lv := n }))) := sx_upd h.ins rfl List.mem_cons_self
  exact ⟨upd_same, e.keep _ _ h.own trivial (.inl rfl), ⟨us0, e.tup s1, e.dps 3 _ _ (noL_way _) s2⟩, e.tup h.nw, e.keep _ _ h.rw trivial (.inr (h.ne (i := 1) (j := 0) rfl rfl (by decide))), e.keep _ _ h.ld trivial (.inr (h.ne (i := 2) (j := 0) rfl rfl (by decide))), ⟨ps, e.keep _ _ p1 trivial (.inr (h.ne (i := 3) (j := 0) rfl rfl (by decide))), e.ams p2⟩, e.keep _ _ h.tm trivial (.inr (h.ne (i := 4) (j := 0) rfl rfl (by decide))), e.keep _ _ hn trivial (.inr (fun z => np (by have e : n = c := List.mem_singleton.mp z; rw [e]; exact List.mem_cons_self))), ⟨kv, e.keep _ _ k1 trivial (.inr (h.ne (i := 6) (j := 0) rfl rfl (by decide))), e.led k2⟩, ⟨ms, e.keep _ _ m1 trivial (.inr (h.ne (i := 7) (j := 0) rfl rfl (by decide))), e.mks m2⟩, e.keep _ _ h.pr trivial (.inr (h.ne (i := 8) (j := 0) rfl rfl (by decide))), nd_set h.nd (i := 5) rfl np⟩
theorem ChAt.re_lg (h : ChAt K C H c A s) {n : Addr} {kvs : List (L2.Key × V)} {r : List (Str × (Rat × Rat × Rat))} (hn : H n = some (.dK kvs)) (hu : LedL K H kvs r) (np : n ∉ ownC c A) : ChAt K C (upd H c (.ins C A.dx (flds s.fire { A with lg := n }))) c { A with lg := n } { s with ledgers := r } := by
  obtain ⟨us0, s1, s2⟩ := h.st
  obtain ⟨ps, p1, p2⟩ := h.sp
  obtain ⟨kv, k1, k2⟩ := h.lg
  obtain ⟨ms, m1, m2⟩ := h.mr
  have e : Sx [] [c] H (upd H c (.ins C A.dx (flds s.fire { A with lg := n }))) := sx_upd h.ins rfl List.mem_cons_self
  exact ⟨upd_same, e.keep _ _ h.own trivial (.inl rfl), ⟨us0, e.tup s1, e.dps 3 _ _ (noL_way _) s2⟩, e.tup h.nw, e.keep _ _ h.rw trivial (.inr (h.ne (i := 1) (j := 0) rfl rfl (by decide))), e.keep _ _ h.ld trivial (.inr (h.ne (i := 2) (j := 0) rfl rfl (by decide))), ⟨ps, e.keep _ _ p1 trivial (.inr (h.ne (i := 3) (j := 0) rfl rfl (by decide))), e.ams p2⟩, e.keep _ _ h.tm trivial (.inr (h.ne (i := 4) (j := 0) rfl rfl (by decide))), e.keep _ _ h.lv trivial (.inr (h.ne (i := 5) (j := 0) rfl rfl (by decide))), ⟨kvs, e.keep _ _ hn trivial (.inr (fun z => np (by have e : n = c := List.mem_singleton.mp z; rw [e]; exact List.mem_cons_self))), e.led hu⟩, ⟨ms, e.keep _ _ m1 trivial (.inr (h.ne (i := 7) (j := 0) rfl rfl (by decide))), e.mks m2⟩, e.keep _ _ h.pr trivial (.inr (h.ne (i := 8) (j := 0) rfl rfl (by decide))), nd_set h.nd (i := 6) rfl np⟩
theorem ChAt.re_mr (h : ChAt K C H c A s) {n : Addr} {us : List V} {r : List (List (Str × Rat))} (hn : H n = some (.lst us)) (hu : DpAll K H us (r.map mkD)) (np : n ∉ ownC c A) : ChAt K C (upd H c (.ins C A.dx (flds s.fire { A with mr := n }))) c { A with mr := n } { s with marks := r } := by
  obtain ⟨us0, s1, s2⟩ := h.st
  obtain ⟨ps, p1, p2⟩ := h.sp
  obtain ⟨kv, k1, k2⟩ := h.lg
  obtain ⟨ms, m1, m2⟩ := h.mr
  have e : Sx [] [c] H (upd H c (.ins C A.dx (flds s.fire { A with mr := n }))) := sx_upd h.ins rfl List.mem_cons_self
  exact ⟨upd_same, e.keep _ _ h.own trivial (.inl rfl), ⟨us0, e.tup s1, e.dps 3 _ _ (noL_way _) s2⟩, e.tup h.nw, e.keep _ _ h.rw trivial (.inr (h.ne (i := 1) (j := 0) rfl rfl (by decide))), e.keep _ _ h.ld trivial (.inr (h.ne (i := 2) (j := 0) rfl rfl (by decide))), ⟨ps, e.keep _ _ p1 trivial (.inr (h.ne (i := 3) (j := 0) rfl rfl (by decide))), e.ams p2⟩, e.keep _ _ h.tm trivial (.inr (h.ne (i := 4) (j := 0) rfl rfl (by decide))), e.keep _ _ h.lv trivial (.inr (h.ne (i := 5) (j := 0) rfl rfl (by decide))), ⟨kv, e.keep _ _ k1 trivial (.inr (h.ne (i := 6) (j := 0) rfl rfl (by decide))), e.led k2⟩, ⟨us, e.keep _ _ hn trivial (.inr (fun z => np (by have e : n = c := List.mem_singleton.mp z; rw [e]; exact List.mem_cons_self))), e.mks hu⟩, e.keep _ _ h.pr trivial (.inr (h.ne (i := 8) (j := 0) rfl rfl (by decide))), nd_set h.nd (i := 7) rfl np⟩
theorem ChAt.re_pr (h : ChAt K C H c A s) {n : Addr} {r : List Int} (hn : H n = some (.lst (r.map V.int))) (np : n ∉ ownC c A) : ChAt K C (upd H c (.ins C A.dx (flds s.fire { A with pr := n }))) c { A with pr := n } { s with poured := r } := by
  obtain ⟨us0, s1, s2⟩ := h.st
  obtain ⟨ps, p1, p2⟩ := h.sp
  obtain ⟨kv, k1, k2⟩ := h.lg
  obtain ⟨ms, m1, m2⟩ := h.mr
  have e : Sx [] [c] H (upd H c (.ins C A.dx (flds s.fire { A with pr := n }))) := sx_upd h.ins rfl List.mem_cons_self
  exact ⟨upd_same, e.keep _ _ h.own trivial (.inl rfl), ⟨us0, e.tup s1, e.dps 3 _ _ (noL_way _) s2⟩, e.tup h.nw, e.keep _ _ h.rw trivial (.inr (h.ne (i := 1) (j := 0) rfl rfl (by decide))), e.keep _ _ h.ld trivial (.inr (h.ne (i := 2) (j := 0) rfl rfl (by decide))), ⟨ps, e.keep _ _ p1 trivial (.inr (h.ne (i := 3) (j := 0) rfl rfl (by decide))), e.ams p2⟩, e.keep _ _ h.tm trivial (.inr (h.ne (i := 4) (j := 0) rfl rfl (by decide))), e.keep _ _ h.lv trivial (.inr (h.ne (i := 5) (j := 0) rfl rfl (by decide))), ⟨kv, e.keep _ _ k1 trivial (.inr (h.ne (i := 6) (j := 0) rfl rfl (by decide))), e.led k2⟩, ⟨ms, e.keep _ _ m1 trivial (.inr (h.ne (i := 7) (j := 0) rfl rfl (by decide))), e.mks m2⟩, e.keep _ _ hn trivial (.inr (fun z => np (by have e : n = c := List.mem_singleton.mp z; rw [e]; exact List.mem_cons_self))), nd_set h.nd (i := 8) rfl np⟩
theorem ChAt.some (h : ChAt K C H c A s) {x : Addr} (hx : x ∈ ownC c A) : ∃ o, H x = some o ∧ mutO o = true := by
  obtain ⟨ps, p1, p2⟩ := h.sp
  obtain ⟨kv, k1, k2⟩ := h.lg
  obtain ⟨ms, m1, m2⟩ := h.mr
  simp only [ownC, List.mem_cons, List.not_mem_nil, or_false] at hx
  rcases hx with rfl | rfl | rfl | rfl | rfl | rfl | rfl | rfl | rfl
  · exact ⟨_, h.ins, rfl⟩
  · exact ⟨_, h.rw, rfl⟩
  · exact ⟨_, h.ld, rfl⟩
  · exact ⟨_, p1, rfl⟩
  · exact ⟨_, h.tm, rfl⟩
  · exact ⟨_, h.lv, rfl⟩
  · exact ⟨_, k1, rfl⟩
  · exact ⟨_, m1, rfl⟩
  · exact ⟨_, h.pr, rfl⟩
theorem ChAt.new (h : ChAt K C H c A s) {n : Addr} (hn : H n = none) : n ∉ ownC c A := fun hx => by
  obtain ⟨o, ho, _⟩ := h.some hx
  rw [hn] at ho
  cases ho
end

structure Kl (K : PySem.W.Frag) (C : Addr) : Prop where
  cl : Cls K C
  no : ∀ f ∈ FLD, NoAttr K C f

/-! ### dicts by names -/
def getL {α : Type} (l : List (Str × α)) (n : Str) : Option α := (l.find? fun x => decide (x.1 = n)).map (·.2)
def putL {α : Type} (l : List (Str × α)) (n : Str) (a : α) : List (Str × α) := if (l.any fun x => decide (x.1 = n)) = true then l.map (fun x => if x.1 = n then (x.1, a) else x) else l ++ [(n, a)]
theorem inr_eq {a b : Str} : ((Sum.inr a : L2.Key) = Sum.inr b) ↔ a = b := ⟨fun h => Sum.inr.inj h, fun h => by rw [h]⟩
theorem val_tm (l : List (Str × Int)) (n : Str) : valV (tmV l) (Sum.inr n) = (getL l n).map V.int := by
  unfold valV getL tmV
  induction l with
  | nil => rfl
  | cons x l ih =>
    rw [List.map_cons, List.find?_cons, List.find?_cons]
    by_cases h : x.1 = n
    · rw [decide_eq_true h, decide_eq_true (inr_eq.mpr h)]
      rfl
    · rw [decide_eq_false h, decide_eq_false (fun z => h (inr_eq.mp z))]
      exact ih
theorem any_tm (l : List (Str × Int)) (n : Str) : ((tmV l).any fun kv => decide (kv.1 = Sum.inr n)) = l.any fun x => decide (x.1 = n) := by
  unfold tmV
  rw [List.any_map]
  congr 1
  funext x
  show decide ((Sum.inr x.1 : L2.Key) = Sum.inr n) = decide (x.1 = n)
  exact decide_eq_decide.mpr inr_eq
theorem put_tm (l : List (Str × Int)) (n : Str) (p : Int) : putK (tmV l) (Sum.inr n) (V.int p) = tmV (putL l n p) := by
  unfold putK putL
  rw [any_tm]
  split
  · unfold tmV
    rw [List.map_map, List.map_map]
    refine List.map_congr_left fun x _ => ?_
    show (if (Sum.inr x.1 : L2.Key) = Sum.inr n then _ else _) = _
    by_cases h : x.1 = n
    · rw [if_pos (inr_eq.mpr h)]
      simp only [Function.comp, if_pos h]
    · rw [if_neg (fun z => h (inr_eq.mp z))]
      simp only [Function.comp, if_neg h]
  · unfold tmV
    rw [List.map_append]
    rfl
theorem led_val {K : PySem.W.Frag} {H : Hp} : ∀ {kvs : List (L2.Key × V)} {l : List (Str × (Rat × Rat × Rat))}, LedL K H kvs l → ∀ n : Str,
    (getL l n = none ∧ valV kvs (Sum.inr n) = none) ∨ ∃ x v, getL l n = some x ∧ valV kvs (Sum.inr n) = some v ∧ Dp K H v (ledD x)
  | [], [], _, n => .inl ⟨rfl, rfl⟩
  | [], _ :: _, h, n => by cases h.1
  | _ :: _, [], h, n => by cases h.1
  | kv :: kvs, x :: l, h, n => by
    obtain ⟨h1, h2⟩ := h
    rw [List.map_cons, List.map_cons] at h1 h2
    have e1 := (List.cons.inj h1).1
    have e2 := (List.cons.inj h1).2
    cases h2 with
    | cons d1 d2 =>
      unfold getL valV
      rw [List.find?_cons, List.find?_cons]
      by_cases hn : x.1 = n
      · rw [decide_eq_true hn, decide_eq_true (by rw [e1, hn])]
        exact .inr ⟨x.2, kv.2, rfl, rfl, d1⟩
      · rw [decide_eq_false hn, decide_eq_false (fun z => by rw [e1] at z; exact hn (inr_eq.mp z))]
        exact led_val ⟨e2, d2⟩ n
theorem led_any {K : PySem.W.Frag} {H : Hp} : ∀ {kvs : List (L2.Key × V)} {l : List (Str × (Rat × Rat × Rat))}, LedL K H kvs l → ∀ n : Str, (kvs.any fun kv => decide (kv.1 = Sum.inr n)) = l.any fun x => decide (x.1 = n)
  | [], [], _, n => rfl
  | [], _ :: _, h, n => by cases h.1
  | _ :: _, [], h, n => by cases h.1
  | kv :: kvs, x :: l, h, n => by
    obtain ⟨h1, h2⟩ := h
    rw [List.map_cons, List.map_cons] at h1 h2
    cases h2 with
    | cons d1 d2 =>
      rw [List.any_cons, List.any_cons, led_any ⟨(List.cons.inj h1).2, d2⟩ n, (List.cons.inj h1).1]
      congr 1
      exact decide_eq_decide.mpr inr_eq
theorem led_map {K : PySem.W.Frag} {H : Hp} {n : Str} {v : V} {x : Rat × Rat × Rat} (hv : Dp K H v (ledD x)) : ∀ {kvs : List (L2.Key × V)} {l : List (Str × (Rat × Rat × Rat))}, LedL K H kvs l →
    LedL K H (kvs.map fun kv => if kv.1 = Sum.inr n then (kv.1, v) else kv) (l.map fun y => if y.1 = n then (y.1, x) else y)
  | [], [], _ => ⟨rfl, .nil⟩
  | [], _ :: _, h => by cases h.1
  | _ :: _, [], h => by cases h.1
  | kv :: kvs, y :: l, h => by
    obtain ⟨h1, h2⟩ := h
    rw [List.map_cons, List.map_cons] at h1 h2
    have e1 := (List.cons.inj h1).1
    cases h2 with
    | cons d1 d2 =>
      have ih := led_map hv (n := n) ⟨(List.cons.inj h1).2, d2⟩
      by_cases hn : y.1 = n
      · have hk : kv.1 = Sum.inr n := by rw [e1, hn]
        refine ⟨?_, ?_⟩
        · rw [List.map_cons, List.map_cons, List.map_cons, List.map_cons, if_pos hk, if_pos hn, ih.1]
          exact congrArg (· :: _) e1
        · simp only [List.map_cons, if_pos hk, if_pos hn]
          exact .cons hv ih.2
      · have hk : kv.1 ≠ Sum.inr n := fun z => hn (inr_eq.mp (e1.symm.trans z))
        refine ⟨?_, ?_⟩
        · rw [List.map_cons, List.map_cons, List.map_cons, List.map_cons, if_neg hk, if_neg hn, ih.1]
          exact congrArg (· :: _) e1
        · simp only [List.map_cons, if_neg hk, if_neg hn]
          exact .cons d1 ih.2
theorem led_put {K : PySem.W.Frag} {H : Hp} {kvs : List (L2.Key × V)} {l : List (Str × (Rat × Rat × Rat))} (h : LedL K H kvs l) {n : Str} {v : V} {x : Rat × Rat × Rat} (hv : Dp K H v (ledD x)) : LedL K H (putK kvs (Sum.inr n) v) (putL l n x) := by
  unfold putK putL
  rw [led_any h]
  split
  · exact led_map hv h
  · refine ⟨?_, ?_⟩
    · rw [List.map_append, List.map_append, h.1]
      rfl
    · rw [List.map_append, List.map_append]
      exact dpa_app h.2 (.cons hv .nil)
theorem led_len {K : PySem.W.Frag} {H : Hp} {kvs : List (L2.Key × V)} {l : List (Str × (Rat × Rat × Rat))} (h : LedL K H kvs l) : kvs.length = l.length := by
  have := congrArg List.length h.1
  rw [List.length_map, List.length_map] at this
  exact this
theorem getL_put {α : Type} (l : List (Str × α)) (n m : Str) (a : α) : getL (putL l n a) m = if n = m then some a else getL l m := by
  unfold putL
  split
  · rename_i h
    unfold getL
    induction l with
    | nil => cases h
    | cons x l ih =>
      rw [List.map_cons, List.find?_cons, List.find?_cons]
      by_cases hx : x.1 = n
      · rw [if_pos hx]
        by_cases hm : n = m
        · rw [if_pos hm, decide_eq_true (show x.1 = m by rw [hx, hm])]
          rfl
        · rw [if_neg hm, decide_eq_false (show ¬ x.1 = m by rw [hx]; exact hm)]
          dsimp only
          by_cases ha : (l.any fun x => decide (x.1 = n)) = true
          · have := ih ha
            rw [if_neg hm] at this
            exact this
          · have e : l.map (fun x => if x.1 = n then (x.1, a) else x) = l := by
              refine (List.map_congr_left fun y hy => ?_).trans (List.map_id l)
              refine if_neg fun z => ha (List.any_eq_true.mpr ⟨y, hy, decide_eq_true z⟩)
            rw [e]
      · rw [if_neg hx]
        rw [List.any_cons, decide_eq_false hx, Bool.false_or] at h
        by_cases hm : x.1 = m
        · rw [decide_eq_true hm]
          by_cases hnm : n = m
          · exact absurd (hm.trans hnm.symm) hx
          · rw [if_neg hnm]
        · rw [decide_eq_false hm]
          exact ih h
  · rename_i h
    unfold getL
    rw [List.find?_append]
    by_cases hm : n = m
    · rw [if_pos hm]
      have e : l.find? (fun x => decide (x.1 = m)) = none := by
        rw [List.find?_eq_none]
        intro y hy z
        exact h (List.any_eq_true.mpr ⟨y, hy, by rw [hm]; exact z⟩)
      rw [e, Option.none_or, List.find?_cons, decide_eq_true (show (n, a).1 = m from hm)]
      rfl
    · rw [if_neg hm]
      cases e : l.find? (fun x => decide (x.1 = m)) with
      | some y => rfl
      | none =>
        rw [Option.none_or, List.find?_cons, decide_eq_false (show ¬ (n, a).1 = m from hm)]
        rfl
theorem putL_len {α : Type} (l : List (Str × α)) (n : Str) (a : α) : (putL l n a).length ≤ l.length + 1 := by
  unfold putL
  split
  · rw [List.length_map]; omega
  · rw [List.length_append]; exact Nat.le_refl _
theorem putL_has {α : Type} {l : List (Str × α)} {n : Str} {a b : α} (h : getL l n = some b) : (putL l n a).length = l.length := by
  unfold putL
  rw [if_pos, List.length_map]
  unfold getL at h
  cases e : l.find? (fun x => decide (x.1 = n)) with
  | none => rw [e] at h; cases h
  | some y => exact List.any_eq_true.mpr ⟨y, List.mem_of_find?_eq_some e, by have := List.find?_some e; simpa using this⟩
theorem flat_strs (l : List Str) : (l.map V.str).all flatV = true := by
  rw [List.all_map]
  exact List.all_eq_true.mpr fun _ _ => rfl
theorem inV_strs (n : Str) (l : List Str) : inV (.str n) (l.map V.str) = decide (n ∈ l) := by
  unfold inV
  induction l with
  | nil => simp
  | cons x l ih =>
    rw [List.map_cons, List.any_cons, ih]
    show ((x == n) || _) = _
    by_cases h : x = n
    · subst h
      simp
    · have e : (x == n) = false := by simpa using h
      rw [e, Bool.false_or]
      refine decide_eq_decide.mpr ?_
      rw [List.mem_cons]
      exact ⟨.inr, fun z => z.resolve_left fun y => h y.symm⟩

theorem dpa_dropLast {K : PySem.W.Frag} {H : Hp} {vs : List V} {ds : List PyData} (h : DpAll K H vs ds) : DpAll K H vs.dropLast ds.dropLast := by
  rw [List.dropLast_eq_take, List.dropLast_eq_take, dpa_len h]
  exact dpa_take _ h
theorem AmL.dropLast {K : PySem.W.Frag} {H : Hp} {us : List V} {xs : List Rat} (h : AmL K H us xs) : AmL K H us.dropLast xs.dropLast := by
  have := dpa_dropLast h
  unfold AmL
  rw [List.map_dropLast, List.map_dropLast]
  exact this

def sp_p_is_number (K : PySem.W.Frag) (T : Tb) : Sp := fun vs H Q _ => ∃ i : Int, vs = [.int i] ∧ Q (.bl true) H
theorem ok_p_is_number {f : Addr} {fd : FuncData} (F : Fun K "is_number" "is_number" s_p_is_number f fd) (B : Bn mg) : FnOk P w K mg base CX0 1 f fd ["thing"] (sp_p_is_number K T) := by
  refine F.ok sc_p_is_number (fun vs H Q E h => ?_) (fun cdv A outer s H vs Q E hr h => ?_)
  · obtain ⟨i, rfl, _⟩ := h
    rfl
  · obtain ⟨i, rfl, q⟩ := h
    refine ⟨_, (pss_one (ps_ret (pe_and (pe_callB call_isi (by rfl) B.isinstance_ (by decide +kernel) (pa_cons (pv 0) (pa_cons (pe_bltn (v := .ty "int") (by rfl) B.int_ (by decide +kernel) rfl) pa_nil))) (pe_one (pe_not (pe_callB call_isi (by rfl) B.isinstance_ (by decide +kernel) (pa_cons (pv 0) (pa_cons (pe_bltn (v := .ty "bool") (by rfl) B.bool_ (by decide +kernel) rfl) pa_nil)))))))), ?_⟩
    refine ⟨_, rfl, _, _, _, _, true, rfl, .ty "int", .base (.int i), kit_ty kb_int_int, _, rfl, iteT ?_⟩
    exact ⟨_, rfl, _, _, _, _, false, rfl, .ty "bool", .base (.int i), kit_ty kb_int_bool, _, rfl, q⟩
def sp_p_is_within (K : PySem.W.Frag) (T : Tb) : Sp := fun vs H Q _ => ∃ i l m : Int, vs = [.int i, .int l, .int m] ∧ Q (.bl (decide (l ≤ i) && decide (i ≤ m))) H
theorem ok_p_is_within {f : Addr} {fd : FuncData} (F : Fun K "is_within" "is_within" s_p_is_within f fd) (F_p_is_number : Fn P w K mg base 1 "is_number" ["thing"] (sp_p_is_number K T)) : FnOk P w K mg base CX0 2 f fd ["thing", "least", "most"] (sp_p_is_within K T) := by
  refine F.ok sc_p_is_within (fun vs H Q E h => ?_) (fun cdv A outer s H vs Q E hr h => ?_)
  · obtain ⟨i, l, m, rfl, _⟩ := h
    rfl
  · obtain ⟨i, l, m, rfl, q⟩ := h
    refine ⟨_, (pss_one (ps_ret (pe_and (pe_fn F_p_is_number (hr.mono (by decide)) (pa_cons (pv 0) pa_nil)) (pe_one (pe_chain op_le op_le (pv 1) (pv 0) (pv 2)))))), ?_⟩
    refine ⟨_, rfl, i, rfl, _, rfl, iteT ?_⟩
    refine ⟨_, rfl, _, rfl, _, _, rfl, rfl, _, rfl, ?_⟩
    by_cases h : l ≤ i
    · rw [decide_eq_true h, Bool.true_and] at q
      rw [decide_eq_true h]
      exact iteT ⟨_, rfl, _, _, rfl, rfl, q⟩
    · rw [decide_eq_false h, Bool.false_and] at q
      rw [decide_eq_false h]
      exact iteF q
def paceB (z : Int) : Bool := decide (1 ≤ z) && decide (z ≤ 12)
def sp_p_check_pace (K : PySem.W.Frag) (T : Tb) (CP : Addr) : Sp := fun vs H Q E => ∃ z : Int, vs = [.int z] ∧ (paceB z = true → Q .non H) ∧ (paceB z = false → ∀ cls d H', Sm T H H' → Rf K CP "bad pace" cls d H' → E cls d H')
theorem ok_p_check_pace {f : Addr} {fd : FuncData} {u_MOST_PACE : Value} (F : Fun K "check_pace" "check_pace" s_p_check_pace f fd) (C_MOST_PACE : RelV (.int 12) u_MOST_PACE ∧ mg "MOST_PACE" = some u_MOST_PACE) {CP : Addr} (R_BadPace : Err P w K mg base CP "BadPace" "bad pace") (F_p_is_within : Fn P w K mg base 2 "is_within" ["thing", "least", "most"] (sp_p_is_within K T)) : FnOk P w K mg base (L2.CX P w) 4 f fd ["pace"] (sp_p_check_pace K T CP) := by
  obtain ⟨⟨tM, rfl⟩, gM⟩ := id C_MOST_PACE
  refine F.okX sc_p_check_pace (fun vs H Q E h => ?_) (fun cdv A outer s H vs Q E hr h => ?_)
  · obtain ⟨z, rfl, _⟩ := h
    rfl
  · obtain ⟨z, rfl, k1, k2⟩ := h
    refine ⟨_, (pss_one (ps_if (pt_not (pt_val (pe_fn F_p_is_within (hr.mono (by decide)) (pa_cons (pv 0) (pa_cons pe_int (pa_cons (pe_glob (by rfl) C_MOST_PACE.2 C_MOST_PACE.1) pa_nil)))))) (pss_one (ps_raise rfl (takes_of rfl rfl rfl rfl) (pmk_err R_BadPace (hr.mono (by decide)) (by rfl)))) pss_nil)), ?_⟩
    refine ⟨_, rfl, z, 1, 12, rfl, _, rfl, ?_⟩
    show if (!(paceB z)) = true then _ else _
    cases hz : paceB z with
    | true => exact iteF (k1 hz)
    | false => exact iteT fun cls dd hn rf => k2 hz cls (some dd) _ (same_upd hn) rf

theorem elt_rng {prog : Program} {w : World} {scope : Scope} {x lo hi : Str} {j1 j2 : Nat} {p1 p2 p3 p4 : Pos} (hk : scope.kind = .function) (hl : scope.names.lookup x = some .local) (hd : (x == ("__debug__" : Str)) = false := by decide) :
    GxR.EltP prog w scope x (.Compare (.Constant (.str lo) j1 p1) [.LtE, .LtE] [.Name x p2, .Constant (.str hi) j2 p3] p4) (fun c => !decide ([c] < lo.cps.toList) && !decide (hi.cps.toList < [c])) := by
  intro cenv A' E' c t s₂ m₂ hs hn hm
  refine Compare_chain ?_ (by with_unfolding_all rfl)
  refine Calls.Constant_str (chain_link ?_)
  refine wpAny_Name (wpAny_loadName_local (by rw [hs]; exact hk) (show cenv.scope.names.lookup x = some .local by rw [hs]; exact hl) (hn.keeps fun _ _ e => e) hm ?_) hd
  refine PySem.P.le_str (wpAny_truthy_bool ?_)
  show (if (!decide ([c] < lo.cps.toList)) = true then _ else _)
  cases h1 : (!decide ([c] < lo.cps.toList)) with
  | false =>
    refine ite_ff ⟨?_, GxR.keeps_tok _ _⟩
    show Value.bool false = Value.bool (!decide ([c] < lo.cps.toList) && !decide (hi.cps.toList < [c]))
    rw [h1, Bool.false_and]
  | true =>
    refine ite_tt (chain_last (Calls.Constant_str (PySem.P.le_str ⟨?_, GxR.keeps_tok _ _⟩)))
    show Value.bool (!decide (hi.cps.toList < [c])) = Value.bool (!decide ([c] < lo.cps.toList) && !decide (hi.cps.toList < [c]))
    rw [h1, Bool.true_and]
def letB (c : Nat) : Bool := !decide ([c] < (("a" : Str)).cps.toList) && !decide ((("z" : Str)).cps.toList < [c])
def nameB (n : Str) : Bool := (decide (1 ≤ n.length) && decide (n.length ≤ 8)) && n.cps.toList.all letB
def sp_p_is_name (K : PySem.W.Frag) (T : Tb) : Sp := fun vs H Q _ => ∃ n : Str, vs = [.str n] ∧ n.length ≤ sizeLine ∧ Ok T H ∧ ∀ H', Sm T H H' → Q (.bl (nameB n)) H'
theorem ok_p_is_name {f : Addr} {fd : FuncData} {u_MOST_LETTERS : Value} {c PT : Addr} (F : FunC K "is_name" "is_name" s_p_is_name f fd c) (hnT : (T.map (·.1)).Nodup) (hPT : (PT, (none : Option Str)) ∈ T) (TB : GxR.TabB base mg c PT) (B : Bn mg) (C_MOST_LETTERS : RelV (.int 8) u_MOST_LETTERS ∧ mg "MOST_LETTERS" = some u_MOST_LETTERS) : FnOk P w K mg base CX0 1 f fd ["text"] (sp_p_is_name K T) := by
  obtain ⟨⟨tM, rfl⟩, gM⟩ := id C_MOST_LETTERS
  refine F.ok sc_p_is_name (fun vs H Q E h => ?_) (fun A outer s H vs Q E hr h => ?_)
  · obtain ⟨n, rfl, _⟩ := h
    rfl
  · obtain ⟨n, rfl, hsz, hok, q⟩ := h
    refine ⟨_, (pss_one (ps_ret (pe_and (pe_chain op_le op_le pe_int (pe_callB call_len_str (by rfl) B.len_ (by decide +kernel) (pa_cons (pv 0) pa_nil)) (pe_glob (by rfl) C_MOST_LETTERS.2 C_MOST_LETTERS.1)) (pe_one (GxR.pe_allS hr (by rfl) B.all_ (by decide +kernel) TB rfl (gens_by (by decide +kernel)) (pv 0) (elt_rng rfl rfl) (fun _ => rfl)))))), ?_⟩
    refine ⟨_, rfl, n, rfl, hsz, _, _, rfl, rfl, _, rfl, ?_⟩
    have q0 := fun H' (s : Sm T H H') => q H' s
    unfold nameB at q0
    by_cases h1 : 1 ≤ n.length
    · rw [decide_eq_true (show (1 : Int) ≤ (n.length : Int) by omega)]
      refine iteT ⟨_, _, rfl, rfl, _, rfl, ?_⟩
      by_cases h2 : n.length ≤ 8
      · rw [decide_eq_true (show (n.length : Int) ≤ 8 by omega)]
        refine iteT ⟨_, rfl, n, rfl, hok _ hPT, fun H2 ht => ?_⟩
        have r := q0 H2 (sm_tabbed hnT hPT (hok _ hPT) ht)
        rw [decide_eq_true h1, decide_eq_true h2, Bool.true_and, Bool.true_and] at r
        exact r
      · rw [decide_eq_false (show ¬ (n.length : Int) ≤ 8 by omega)]
        have r := q0 H Sm.refl
        rw [decide_eq_false h2, Bool.and_false, Bool.false_and] at r
        exact iteF r
    · rw [decide_eq_false (show ¬ (1 : Int) ≤ (n.length : Int) by omega)]
      have r := q0 H Sm.refl
      rw [decide_eq_false h1, Bool.false_and, Bool.false_and] at r
      exact iteF ⟨_, rfl, iteF r⟩
def sp_p_check_name (K : PySem.W.Frag) (T : Tb) (CP : Addr) : Sp := fun vs H Q E => ∃ n : Str, vs = [.str n] ∧ n.length ≤ sizeLine ∧ Ok T H ∧ (nameB n = true → ∀ H', Sm T H H' → Q .non H') ∧ (nameB n = false → ∀ cls d H', Sm T H H' → Rf K CP "bad name" cls d H' → E cls d H')
theorem ok_p_check_name {f : Addr} {fd : FuncData} (F : Fun K "check_name" "check_name" s_p_check_name f fd) {CP : Addr} (R_BadName : Err P w K mg base CP "BadName" "bad name") (F_p_is_name : Fn P w K mg base 1 "is_name" ["text"] (sp_p_is_name K T)) : FnOk P w K mg base (L2.CX P w) 4 f fd ["name"] (sp_p_check_name K T CP) := by
  refine F.okX sc_p_check_name (fun vs H Q E h => ?_) (fun cdv A outer s H vs Q E hr h => ?_)
  · obtain ⟨n, rfl, _⟩ := h
    rfl
  · obtain ⟨n, rfl, hsz, hok, k1, k2⟩ := h
    refine ⟨_, (pss_one (ps_if (pt_not (pt_val (pe_fn F_p_is_name (hr.mono (by decide)) (pa_cons (pv 0) pa_nil)))) (pss_one (ps_raise rfl (takes_of rfl rfl rfl rfl) (pmk_err R_BadName (hr.mono (by decide)) (by rfl)))) pss_nil)), ?_⟩
    refine ⟨_, rfl, n, rfl, hsz, hok, fun H1 s1 => ⟨_, rfl, ?_⟩⟩
    cases hz : nameB n with
    | true => exact iteF (k1 hz H1 s1)
    | false => exact iteT fun cls dd hn rf => k2 hz cls (some dd) _ (s1.trans (same_upd hn)) rf

def takeS (s : Ch) : Ch := { s with marks := s.marks ++ [[]], loads := (s.marks.length : Int) :: s.loads, spots := 0 :: s.spots }
def sp_p_Chain_take_pail (K : PySem.W.Frag) (T : Tb) (CC : Addr) : Sp := fun vs H Q _ => ∃ (c : Addr) (A : Ad) (s : Ch), vs = [.ref c] ∧ ChAt K CC H c A s ∧ (s.marks.length < 5000 ∧ s.loads.length < 100 ∧ s.spots.length < 100) ∧
  ∀ H', Sx T (ownC c A) H H' → ChAt K CC H' c A (takeS s) → Q (.int s.marks.length) H'
theorem ok_p_Chain_take_pail {f : Addr} {fd : FuncData} {a_NOUGHT : Addr} (F : Fun K "take_pail" "Chain.take_pail" s_p_Chain_take_pail f fd) (B : Bn mg) (g_NOUGHT : mg "NOUGHT" = some (.ref a_NOUGHT)) (s_NOUGHT : ∀ H, SqT K H a_NOUGHT [.int 0, .int 1]) {CC : Addr} (TC : Kl K CC) : FnOk P w K mg base CX0 1 f fd ["self"] (sp_p_Chain_take_pail K T CC) := by
  refine F.ok sc_p_Chain_take_pail (fun vs H Q E h => ?_) (fun cdv A outer s H vs Q E hr h => ?_)
  · obtain ⟨c, A, s, rfl, _⟩ := h
    rfl
  · obtain ⟨c, A, s, rfl, h, ⟨l1, l2, l3⟩, q⟩ := h
    refine ⟨_, (pss_cons (ps_set (i := 1) sc_p_Chain_take_pail.nd rfl (.inl rfl) (pe_callB call_len_seq (by rfl) B.len_ (by decide +kernel) (pa_cons (pe_fc TC.cl (TC.no "marks" (by decide +kernel)) (pv 0)) pa_nil)))
      (pss_cons (ps_expr (pe_bm PySem.F.plainAttrs_list PySem.F.slot_list_append PySem.F.type_list_append mt_append (pe_fc TC.cl (TC.no "marks" (by decide +kernel)) (pv 0)) (pa_cons (pe_tup pa_nil) pa_nil)))
      (pss_cons (ps_expr (pe_bm PySem.F.plainAttrs_list PySem.F.slot_list_insert PySem.F.type_list_insert mt_insert (pe_fc TC.cl (TC.no "loads" (by decide +kernel)) (pv 0)) (pa_cons pe_int (pa_cons (pv 1) pa_nil))))
      (pss_cons (ps_expr (pe_bm PySem.F.plainAttrs_list PySem.F.slot_list_insert PySem.F.type_list_insert mt_insert (pe_fc TC.cl (TC.no "spots" (by decide +kernel)) (pv 0)) (pa_cons pe_int (pa_cons (pe_glob (v := .ref a_NOUGHT) (by rfl) g_NOUGHT rfl) pa_nil))))
      (pss_one (ps_ret (pv 1))))))), ?_⟩
    obtain ⟨ms, m1, m2⟩ := h.mr
    have lm : ms.length = s.marks.length := by rw [dpa_len m2, List.length_map]
    refine ⟨_, rfl, c, _, _, _, rfl, h.ins, fl_mk, A.mr, ms, rfl, .inl (SqL.of m1), ?_⟩
    refine ⟨_, rfl, c, _, _, _, rfl, h.ins, fl_mk, .inl ⟨rfl, _, SqL.of m1⟩, by show 0 ≤ sizeLine; decide, fun t nt => ?_⟩
    have u1 := same_upd (T := T) (o := .tup []) nt
    have h1 := h.sm u1
    refine ⟨A.mr, ms, _, rfl, rfl, u1.k m1, szl (by omega), ?_⟩
    have d2 : DpAll K (upd H t (.tup [])) (ms ++ [.ref t]) ((s.marks ++ [[]]).map mkD) := by
      rw [List.map_append]
      exact dpa_app (dpa_same u1 _ _ m2) (.cons (.tup (SqT.of upd_same) .nil) .nil)
    have h2 := h1.set_mr d2
    have x2 : Sx T (ownC c A) H _ := u1.sx.step (sx_upd (o := .lst (ms ++ [.ref t])) (u1.k m1) rfl (by simp [ownC]))
    refine ⟨_, rfl, c, _, _, _, rfl, h2.ins, fl_ld, .inl ⟨rfl, _, SqL.of h2.ld⟩, _, rfl, A.ld, _, 0, _, rfl, rfl, h2.ld, by rw [List.length_map]; exact szl (by show s.loads.length < _; omega), by decide, by decide, ?_⟩
    have h3 := h2.set_ld ((s.marks.length : Int) :: s.loads)
    have x3 := x2.step (sx_upd (o := .lst (((s.marks.length : Int) :: s.loads).map V.int)) h2.ld rfl (by simp [ownC]))
    obtain ⟨ps, p1, p2⟩ := h3.sp
    have lp := p2.len
    rw [lm]
    refine ⟨_, rfl, c, _, _, _, rfl, h3.ins, fl_sp, .inl ⟨rfl, _, SqL.of p1⟩, A.sp, _, 0, _, rfl, rfl, p1, szl (by have : s.spots.length < 100 := l3; have e : ps.length = s.spots.length := lp; omega), by decide, by decide, ?_⟩
    have d4 : AmL K (upd (upd (upd H t (.tup [])) A.mr (.lst (ms ++ [.ref t]))) A.ld (.lst (((s.marks.length : Int) :: s.loads).map V.int))) (.ref a_NOUGHT :: ps) (0 :: s.spots) := .cons (amD_dp (by rw [am_zero]; exact s_NOUGHT _)) p2
    have h4 := h3.set_sp d4
    have x4 := x3.step (sx_upd (o := .lst (.ref a_NOUGHT :: ps)) p1 rfl (by simp [ownC]))
    exact ⟨_, rfl, q _ x4 h4⟩

def enterW (s : Ch) (n : Str) (p : Int) : Option Str := if nameB n = true then (if n ∈ s.row then some "taken" else if paceB p = true then (if s.row.length < 8 then none else some "full") else some "bad pace") else some "bad name"
def enterS (s : Ch) (n : Str) (p : Int) : Ch := takeS { s with row := n :: s.row, tempos := putL s.tempos n p, ledgers := if (getL s.ledgers n).isSome = true then s.ledgers else putL s.ledgers n (0, 0, 0) }
theorem led0 {K : PySem.W.Frag} {H : Hp} {t a : Addr} (h : SqT K H t [.ref a, .ref a, .ref a]) (ha : SqT K H a (tv ((0, 1) : Am))) : Dp K H (.ref t) (ledD (0, 0, 0)) := by
  have d : Dp K H (.ref a) (amD (am 0)) := amD_dp (by rw [am_zero]; exact ha)
  exact .tup h (.cons d (.cons d (.cons d .nil)))
def sp_p_Chain_enter (K : PySem.W.Frag) (T : Tb) (CP CC : Addr) : Sp := fun vs H Q E => ∃ (c : Addr) (A : Ad) (s : Ch) (n : Str) (p : Int), vs = [.ref c, .str n, .int p] ∧ ChAt K CC H c A s ∧ n.length ≤ sizeLine ∧ Ok T H ∧ (s.marks.length < 5000 ∧ s.loads.length < 100 ∧ s.spots.length < 100 ∧ s.row.length < 100 ∧ s.tempos.length < 1000 ∧ s.ledgers.length < 1000) ∧
  (enterW s n p = none → ∀ H', Sx T (ownC c A) H H' → ChAt K CC H' c A (enterS s n p) → Q (.int s.marks.length) H') ∧ (∀ wd, enterW s n p = some wd → ∀ cls d H', Sm T H H' → Rf K CP wd cls d H' → E cls d H')
theorem ok_p_Chain_enter {f : Addr} {fd : FuncData} {u_MOST_HANDS : Value} {a_NOUGHT : Addr} (F : Fun K "enter" "Chain.enter" s_p_Chain_enter f fd) (B : Bn mg) (C_MOST_HANDS : RelV (.int 8) u_MOST_HANDS ∧ mg "MOST_HANDS" = some u_MOST_HANDS) (g_NOUGHT : mg "NOUGHT" = some (.ref a_NOUGHT)) (s_NOUGHT : ∀ H, SqT K H a_NOUGHT [.int 0, .int 1]) {CP : Addr} (R_Taken : Err P w K mg base CP "Taken" "taken") (R_Full : Err P w K mg base CP "Full" "full") {CC : Addr} (TC : Kl K CC) (F_p_check_pace : Fx P w K mg base 4 "check_pace" ["pace"] (sp_p_check_pace K T CP)) (F_p_check_name : Fx P w K mg base 4 "check_name" ["name"] (sp_p_check_name K T CP)) (M_take_pail : Mt P w K mg base CC 1 "take_pail" ["self"] (sp_p_Chain_take_pail K T CC)) : FnOk P w K mg base (L2.CX P w) 5 f fd ["self", "name", "pace"] (sp_p_Chain_enter K T CP CC) := by
  obtain ⟨⟨tM, rfl⟩, gM⟩ := id C_MOST_HANDS
  refine F.okX sc_p_Chain_enter (fun vs H Q E h => ?_) (fun cdv A outer s H vs Q E hr h => ?_)
  · obtain ⟨c, A, s, n, p, rfl, _⟩ := h
    rfl
  · obtain ⟨c, A, s, n, p, rfl, h, hsz, hok, ⟨l1, l2, l3, l4, l5, l6⟩, k1, k2⟩ := h
    refine ⟨_, (pss_cons (ps_expr (pe_fx F_p_check_name (hr.mono (by decide)) (takes_of rfl rfl rfl rfl) (pa_cons (pv 1) pa_nil)))
      (pss_cons (ps_if (pt_cmpR op_in_seq (pv 1) (pe_fc TC.cl (TC.no "row" (by decide +kernel)) (pv 0)) (by rfl)) (pss_one (ps_raise rfl (takes_of rfl rfl rfl rfl) (pmk_err R_Taken (hr.mono (by decide)) (by rfl)))) pss_nil)
      (pss_cons (ps_expr (pe_fx F_p_check_pace (hr.mono (by decide)) (takes_of rfl rfl rfl rfl) (pa_cons (pv 2) pa_nil)))
      (pss_cons (ps_if (pt_cmpR op_ge (pe_callB call_len_seq (by rfl) B.len_ (by decide +kernel) (pa_cons (pe_fc TC.cl (TC.no "row" (by decide +kernel)) (pv 0)) pa_nil)) (pe_glob (by rfl) C_MOST_HANDS.2 C_MOST_HANDS.1) (nomark _)) (pss_one (ps_raise rfl (takes_of rfl rfl rfl rfl) (pmk_err R_Full (hr.mono (by decide)) (by rfl)))) pss_nil)
      (pss_cons (ps_expr (pe_bm PySem.F.plainAttrs_list PySem.F.slot_list_insert PySem.F.type_list_insert mt_insert (pe_fc TC.cl (TC.no "row" (by decide +kernel)) (pv 0)) (pa_cons pe_int (pa_cons (pv 1) pa_nil))))
      (pss_cons (ps_dput (hu_of hr) (pe_fc TC.cl (TC.no "tempos" (by decide +kernel)) (pv 0)) (pv 1) (pv 2) rfl)
      (pss_cons (ps_if (pt_cmp (pc_dnotin (hu_of hr) (pv 1) (pe_fc TC.cl (TC.no "ledgers" (by decide +kernel)) (pv 0)))) (pss_one (ps_dput (hu_of hr) (pe_fc TC.cl (TC.no "ledgers" (by decide +kernel)) (pv 0)) (pv 1) (pe_tup (pa_cons (pe_glob (v := .ref a_NOUGHT) (by rfl) g_NOUGHT rfl) (pa_cons (pe_glob (v := .ref a_NOUGHT) (by rfl) g_NOUGHT rfl) (pa_cons (pe_glob (v := .ref a_NOUGHT) (by rfl) g_NOUGHT rfl) pa_nil)))) rfl)) pss_nil)
      (pss_one (ps_ret (pe_mt0 M_take_pail TC.cl (hr.mono (by decide)) (pv 0) )))))))))), ?_⟩
    refine ⟨_, rfl, n, rfl, hsz, hok, fun hn H1 s1 => ?_, fun hn cls d H' s' rf => k2 "bad name" (by unfold enterW; rw [hn]; rfl) cls d H' s' rf⟩
    have h1 := h.sm s1
    refine ⟨_, rfl, _, rfl, c, _, _, _, rfl, h1.ins, fl_rw, A.rw, _, rfl, .inl (SqL.of h1.rw), rfl, flat_strs _, _, rfl, ?_⟩
    show if (inV (.str n) (s.row.map V.str)) = true then _ else _
    rw [inV_strs]
    refine ite2 (fun e => ?_) (fun e => ?_)
    · have hm : n ∈ s.row := of_decide_eq_true e
      exact fun cls dd hn' rf => k2 "taken" (by unfold enterW; rw [if_pos hn, if_pos hm]) cls (some dd) _ (s1.trans (same_upd hn')) rf
    · have hm : n ∉ s.row := fun z => e (decide_eq_true z)
      refine ⟨_, rfl, p, rfl, fun hp => ?_, fun hp cls d H' s' rf => k2 "bad pace" (by unfold enterW; rw [if_pos hn, if_neg hm, hp]; rfl) cls d H' (s1.trans s') rf⟩
      refine ⟨_, rfl, c, _, _, _, rfl, h1.ins, fl_rw, A.rw, _, rfl, .inl (SqL.of h1.rw), _, _, rfl, rfl, _, rfl, ?_⟩
      rw [List.length_map]
      refine ite2 (fun e => ?_) (fun e => ?_)
      · have hl : ¬ s.row.length < 8 := by have := of_decide_eq_true e; omega
        exact fun cls dd hn' rf => k2 "full" (by unfold enterW; rw [if_pos hn, if_neg hm, if_pos hp, if_neg hl]) cls (some dd) _ (s1.trans (same_upd hn')) rf
      · have hl : s.row.length < 8 := by
          have e' : ¬ ((s.row.length : Int) ≥ 8) := fun z => e (decide_eq_true z)
          omega
        have k1 := k1 (by unfold enterW; rw [if_pos hn, if_neg hm, if_pos hp, if_pos hl])
        refine ⟨_, rfl, c, _, _, _, rfl, h1.ins, fl_rw, .inl ⟨rfl, _, SqL.of h1.rw⟩, _, rfl, A.rw, _, 0, _, rfl, rfl, h1.rw, by rw [List.length_map]; exact szl (by omega), by decide, by decide, ?_⟩
        have h2 := h1.set_rw (n :: s.row)
        have x2 : Sx T (ownC c A) H _ := s1.sx.step (sx_upd (o := .lst ((n :: s.row).map V.str)) h1.rw rfl (by simp [ownC]))
        refine ⟨_, rfl, _, rfl, c, _, _, _, rfl, h2.ins, fl_tm, _, rfl, A.tm, _, rfl, DPut.k (k := Sum.inr n) h2.tm (by unfold tmV; rw [List.length_map]; exact szl (by show s.tempos.length < _; omega)), ?_⟩
        rw [put_tm]
        have h3 := h2.set_tm (putL s.tempos n p)
        have x3 := x2.step (sx_upd (o := .dK (tmV (putL s.tempos n p))) h2.tm rfl (by simp [ownC]))
        dsimp only
        refine seq_if (fun σ' H4 => Sx T (ownC c A) H H4 ∧ ∃ x1 x2, σ' = [some (.ref c), x1, x2] ∧ ChAt K CC H4 c A { s with row := n :: s.row, tempos := putL s.tempos n p, ledgers := if (getL s.ledgers n).isSome = true then s.ledgers else putL s.ledgers n (0, 0, 0) }) (fun σ' H4 pp => ?_) (fun k => ?_)
        · obtain ⟨x4, y1, y2, rfl, h4⟩ := pp
          refine ⟨_, rfl, c, _, _, rfl, h4.ins, fl_no (by decide +kernel), c, A, _, rfl, h4, ⟨l1, l2, l3⟩, fun H5 x5 h5 => k1 H5 (x4.step x5) h5⟩
        · obtain ⟨kv, g1, g2⟩ := h3.lg
          refine ⟨_, rfl, _, rfl, c, _, _, _, rfl, h3.ins, fl_lg, A.lg, _, rfl, DGet.k (k := Sum.inr n) g1, _, rfl, ?_⟩
          rcases led_val g2 n with ⟨e1, e2⟩ | ⟨x, v, e1, e2, e3⟩
          · have e1 : getL s.ledgers n = none := e1
            rw [e2]
            refine iteT ⟨by show 3 ≤ sizeLine; decide, fun t nt => ?_⟩
            have u := same_upd (T := T) (o := .tup [.ref a_NOUGHT, .ref a_NOUGHT, .ref a_NOUGHT]) nt
            have h4 := h3.sm u
            have g3 := u.k g1
            refine ⟨_, rfl, c, _, _, _, rfl, h4.ins, fl_lg, _, rfl, A.lg, _, rfl, DPut.k (k := Sum.inr n) g3 (by rw [led_len g2]; exact szl (by show s.ledgers.length < _; omega)), ?_⟩
            have g4 : LedL K (upd (upd (upd H1 A.rw (.lst ((n :: s.row).map V.str))) A.tm (.dK (tmV (putL s.tempos n p)))) t (.tup [.ref a_NOUGHT, .ref a_NOUGHT, .ref a_NOUGHT])) (putK kv (Sum.inr n) (.ref t)) (putL s.ledgers n (0, 0, 0)) := led_put (u.sx (S := []) |>.led g2) (led0 (SqT.of upd_same) (s_NOUGHT _))
            have h5 := h4.set_lg g4
            have x5 := (x3.sm' u).step (sx_upd (o := .dK (putK kv (Sum.inr n) (.ref t))) g3 rfl (by simp [ownC]))
            refine k _ _ ⟨x5, _, _, rfl, ?_⟩
            rw [e1]
            exact h5
          · have e1 : getL s.ledgers n = some x := e1
            rw [e2]
            refine iteF (k _ _ ⟨x3, _, _, rfl, ?_⟩)
            rw [e1]
            exact h3

def sp_p_Chain_hands (K : PySem.W.Frag) (T : Tb) (CC : Addr) : Sp := fun vs H Q _ => ∃ (c : Addr) (A : Ad) (s : Ch), vs = [.ref c] ∧ ChAt K CC H c A s ∧ ∀ p H', Sm T H H' → H p = none → H' p = some (.lst (s.row.map V.str)) → Q (.ref p) H'
theorem ok_p_Chain_hands {f : Addr} {fd : FuncData} (F : Fun K "hands" "Chain.hands" s_p_Chain_hands f fd) (B : Bn mg) {CC : Addr} (TC : Kl K CC) : FnOk P w K mg base CX0 1 f fd ["self"] (sp_p_Chain_hands K T CC) := by
  refine F.ok sc_p_Chain_hands (fun vs H Q E h => ?_) (fun cdv A outer s H vs Q E hr h => ?_)
  · obtain ⟨c, A, s, rfl, _⟩ := h
    rfl
  · obtain ⟨c, A, s, rfl, h, q⟩ := h
    refine ⟨_, (pss_one (ps_ret (pe_callTy call_list_of (by rfl) B.list_ (by decide +kernel) (pa_cons (pe_fc TC.cl (TC.no "row" (by decide +kernel)) (pv 0)) pa_nil)))), ?_⟩
    exact ⟨_, rfl, c, _, _, _, rfl, h.ins, fl_rw, A.rw, _, rfl, .inl (SqL.of h.rw), fun p np => q p _ (same_upd np) np upd_same⟩
def sp_p_Chain_emptied (K : PySem.W.Frag) (T : Tb) (CC : Addr) : Sp := fun vs H Q _ => ∃ (c : Addr) (A : Ad) (s : Ch), vs = [.ref c] ∧ ChAt K CC H c A s ∧ ∀ p H', Sm T H H' → H p = none → H' p = some (.lst (s.poured.map V.int)) → Q (.ref p) H'
theorem ok_p_Chain_emptied {f : Addr} {fd : FuncData} (F : Fun K "emptied" "Chain.emptied" s_p_Chain_emptied f fd) (B : Bn mg) {CC : Addr} (TC : Kl K CC) : FnOk P w K mg base CX0 1 f fd ["self"] (sp_p_Chain_emptied K T CC) := by
  refine F.ok sc_p_Chain_emptied (fun vs H Q E h => ?_) (fun cdv A outer s H vs Q E hr h => ?_)
  · obtain ⟨c, A, s, rfl, _⟩ := h
    rfl
  · obtain ⟨c, A, s, rfl, h, q⟩ := h
    refine ⟨_, (pss_one (ps_ret (pe_callTy call_list_of (by rfl) B.list_ (by decide +kernel) (pa_cons (pe_fc TC.cl (TC.no "poured" (by decide +kernel)) (pv 0)) pa_nil)))), ?_⟩
    exact ⟨_, rfl, c, _, _, _, rfl, h.ins, fl_pr, A.pr, _, rfl, .inl (SqL.of h.pr), fun p np => q p _ (same_upd np) np upd_same⟩
def sp_p_Chain_pails (K : PySem.W.Frag) (T : Tb) (CC : Addr) : Sp := fun vs H Q _ => ∃ (c : Addr) (A : Ad) (s : Ch), vs = [.ref c] ∧ ChAt K CC H c A s ∧ Q (.int s.marks.length) H
theorem ok_p_Chain_pails {f : Addr} {fd : FuncData} (F : Fun K "pails" "Chain.pails" s_p_Chain_pails f fd) (B : Bn mg) {CC : Addr} (TC : Kl K CC) : FnOk P w K mg base CX0 1 f fd ["self"] (sp_p_Chain_pails K T CC) := by
  refine F.ok sc_p_Chain_pails (fun vs H Q E h => ?_) (fun cdv A outer s H vs Q E hr h => ?_)
  · obtain ⟨c, A, s, rfl, _⟩ := h
    rfl
  · obtain ⟨c, A, s, rfl, h, q⟩ := h
    refine ⟨_, (pss_one (ps_ret (pe_callB call_len_seq (by rfl) B.len_ (by decide +kernel) (pa_cons (pe_fc TC.cl (TC.no "marks" (by decide +kernel)) (pv 0)) pa_nil)))), ?_⟩
    obtain ⟨ms, m1, m2⟩ := h.mr
    have e : ms.length = s.marks.length := by rw [dpa_len m2, List.length_map]
    refine ⟨_, rfl, c, _, _, _, rfl, h.ins, fl_mk, A.mr, ms, rfl, .inl (SqL.of m1), ?_⟩
    rw [e]
    exact q
theorem strs_ix {l : List Str} {n : Str} (h : n ∈ l) : (l.map V.str)[l.idxOf n]? = some (.str n) ∧ ∀ (m : Nat) (z : V), m < l.idxOf n → (l.map V.str)[m]? = some z → eqV z (.str n) = false := by
  have hl := List.idxOf_lt_length_of_mem h
  refine ⟨?_, fun m z hm hz => ?_⟩
  · rw [List.getElem?_map, List.getElem?_eq_getElem hl, List.getElem_idxOf]
    rfl
  · rw [List.getElem?_map, List.getElem?_eq_getElem (by omega)] at hz
    cases hz
    have := List.not_of_lt_findIdx (p := (· == n)) (xs := l) (i := m) hm
    show (l[m] == n) = false
    simpa using this
def sp_p_Chain_number_of (K : PySem.W.Frag) (T : Tb) (CP CC : Addr) : Sp := fun vs H Q E => ∃ (c : Addr) (A : Ad) (s : Ch) (n : Str), vs = [.ref c, .str n] ∧ ChAt K CC H c A s ∧ (n ∈ s.row → Q (.int (s.row.idxOf n : Nat)) H) ∧ (n ∉ s.row → ∀ cls d H', Sm T H H' → Rf K CP "no hand" cls d H' → E cls d H')
theorem ok_p_Chain_number_of {f : Addr} {fd : FuncData} (F : Fun K "number_of" "Chain.number_of" s_p_Chain_number_of f fd) {CP : Addr} (R_NoHand : Err P w K mg base CP "NoHand" "no hand") {CC : Addr} (TC : Kl K CC) : FnOk P w K mg base (L2.CX P w) 4 f fd ["self", "name"] (sp_p_Chain_number_of K T CP CC) := by
  refine F.okX sc_p_Chain_number_of (fun vs H Q E h => ?_) (fun cdv A outer s H vs Q E hr h => ?_)
  · obtain ⟨c, A, s, n, rfl, _⟩ := h
    rfl
  · obtain ⟨c, A, s, n, rfl, h, k1, k2⟩ := h
    refine ⟨_, (pss_cons (ps_if (pt_cmpR op_notIn_seq (pv 1) (pe_fc TC.cl (TC.no "row" (by decide +kernel)) (pv 0)) (by rfl)) (pss_one (ps_raise rfl (takes_of rfl rfl rfl rfl) (pmk_err R_NoHand (hr.mono (by decide)) (by rfl)))) pss_nil)
      (pss_one (ps_ret (pe_bm PySem.F.plainAttrs_list PySem.F.slot_list_index PySem.F.type_list_index mt_index (pe_fc TC.cl (TC.no "row" (by decide +kernel)) (pv 0)) (pa_cons (pv 1) pa_nil))))), ?_⟩
    refine ⟨_, rfl, _, rfl, c, _, _, _, rfl, h.ins, fl_rw, A.rw, _, rfl, .inl (SqL.of h.rw), rfl, flat_strs _, _, rfl, ?_⟩
    show if (!inV (.str n) (s.row.map V.str)) = true then _ else _
    rw [inV_strs]
    by_cases hm : n ∈ s.row
    · rw [decide_eq_true hm]
      have e := strs_ix hm
      refine iteF ⟨_, rfl, c, _, _, _, rfl, h.ins, fl_rw, .inl ⟨rfl, _, SqL.of h.rw⟩, _, rfl, A.rw, _, _, s.row.idxOf n, .str n, rfl, rfl, SqL.of h.rw, rfl, flat_strs _, e.1, ?_, e.2, k1 hm⟩
      show (n == n) = true
      simp
    · rw [decide_eq_false hm]
      exact iteT fun cls dd hn' rf => k2 hm cls (some dd) _ (same_upd hn') rf
def sp_p_Chain_place (K : PySem.W.Frag) (T : Tb) (CP CC : Addr) : Sp := fun vs H Q E => ∃ (c : Addr) (A : Ad) (s : Ch) (n : Str), vs = [.ref c, .str n] ∧ ChAt K CC H c A s ∧ s.spots.length = s.row.length ∧ (n ∈ s.row → ∀ q, SqT K H q (tv (am (s.spots.getD (s.row.idxOf n) 0))) → Q (.ref q) H) ∧ (n ∉ s.row → ∀ cls d H', Sm T H H' → Rf K CP "no hand" cls d H' → E cls d H')
theorem ok_p_Chain_place {f : Addr} {fd : FuncData} (F : Fun K "place" "Chain.place" s_p_Chain_place f fd) {CP : Addr} {CC : Addr} (TC : Kl K CC) (M_number_of : Mx P w K mg base CC 4 "number_of" ["self", "name"] (sp_p_Chain_number_of K T CP CC)) : FnOk P w K mg base (L2.CX P w) 5 f fd ["self", "name"] (sp_p_Chain_place K T CP CC) := by
  refine F.okX sc_p_Chain_place (fun vs H Q E h => ?_) (fun cdv A outer s H vs Q E hr h => ?_)
  · obtain ⟨c, A, s, n, rfl, _⟩ := h
    rfl
  · obtain ⟨c, A, s, n, rfl, h, hl, k1, k2⟩ := h
    refine ⟨_, (pss_one (ps_ret (pe_ix ix_list (pe_fc TC.cl (TC.no "spots" (by decide +kernel)) (pv 0)) (pe_mx M_number_of TC.cl (hr.mono (by decide)) (takes_of rfl rfl rfl rfl) (pv 0) (pa_cons (pv 1) pa_nil)) (fun _ _ => rfl)))), ?_⟩
    obtain ⟨ps, p1, p2⟩ := h.sp
    refine ⟨_, rfl, c, _, _, _, rfl, h.ins, fl_sp, _, rfl, c, _, _, rfl, h.ins, fl_no (by decide +kernel), _, rfl, c, A, s, n, rfl, h, fun hm => ?_, k2⟩
    have hi : s.row.idxOf n < s.spots.length := by rw [hl]; exact List.idxOf_lt_length_of_mem hm
    obtain ⟨b, g, q⟩ := p2.at hi
    exact ⟨A.sp, ps, _, .ref b, rfl, rfl, SqL.of p1, at_of (j := s.row.idxOf n) rfl g, k1 hm b q⟩
def sp_p_Chain_ledger (K : PySem.W.Frag) (T : Tb) (CP CC : Addr) : Sp := fun vs H Q E => ∃ (c : Addr) (A : Ad) (s : Ch) (n : Str), vs = [.ref c, .str n] ∧ ChAt K CC H c A s ∧ (∀ x, getL s.ledgers n = some x → ∀ v, Dp K H v (ledD x) → Q v H) ∧ (getL s.ledgers n = none → ∀ cls d H', Sm T H H' → Rf K CP "no hand" cls d H' → E cls d H')
theorem ok_p_Chain_ledger {f : Addr} {fd : FuncData} (F : Fun K "ledger" "Chain.ledger" s_p_Chain_ledger f fd) {CP : Addr} (R_NoHand : Err P w K mg base CP "NoHand" "no hand") {CC : Addr} (TC : Kl K CC) : FnOk P w K mg base (L2.CX P w) 4 f fd ["self", "name"] (sp_p_Chain_ledger K T CP CC) := by
  refine F.okX sc_p_Chain_ledger (fun vs H Q E h => ?_) (fun cdv A outer s H vs Q E hr h => ?_)
  · obtain ⟨c, A, s, n, rfl, _⟩ := h
    rfl
  · obtain ⟨c, A, s, n, rfl, h, k1, k2⟩ := h
    refine ⟨_, (pss_cons (ps_if (pt_cmp (pc_dnotin (hu_of hr) (pv 1) (pe_fc TC.cl (TC.no "ledgers" (by decide +kernel)) (pv 0)))) (pss_one (ps_raise rfl (takes_of rfl rfl rfl rfl) (pmk_err R_NoHand (hr.mono (by decide)) (by rfl)))) pss_nil)
      (pss_one (ps_ret (pe_dget (hu_of hr) (pe_fc TC.cl (TC.no "ledgers" (by decide +kernel)) (pv 0)) (pv 1) (fun _ _ => rfl))))), ?_⟩
    obtain ⟨kv, g1, g2⟩ := h.lg
    refine ⟨_, rfl, _, rfl, c, _, _, _, rfl, h.ins, fl_lg, A.lg, _, rfl, DGet.k (k := Sum.inr n) g1, _, rfl, ?_⟩
    rcases led_val g2 n with ⟨e1, e2⟩ | ⟨x, v, e1, e2, e3⟩
    · rw [e2]
      exact iteT fun cls dd hn' rf => k2 e1 cls (some dd) _ (same_upd hn') rf
    · rw [e2]
      refine iteF ⟨_, rfl, c, _, _, _, rfl, h.ins, fl_lg, _, rfl, A.lg, _, rfl, ?_, k1 x e1 v e3⟩
      rw [← e2]
      exact DGet.k (k := Sum.inr n) g1
/-- the paces of the row -/
def pcs (s : Ch) : List Int := s.row.map fun n => (getL s.tempos n).getD 1
def sp_p_Chain_paces (K : PySem.W.Frag) (T : Tb) (CC : Addr) : Sp := fun vs H Q _ => ∃ (c : Addr) (A : Ad) (s : Ch), vs = [.ref c] ∧ ChAt K CC H c A s ∧ s.row.length ≤ 1000 ∧ (∀ n ∈ s.row, (getL s.tempos n).isSome = true) ∧ ∀ p H', Sm T H H' → H p = none → H' p = some (.lst ((pcs s).map V.int)) → Q (.ref p) H'
theorem ok_p_Chain_paces {f : Addr} {fd : FuncData} (F : Fun K "paces" "Chain.paces" s_p_Chain_paces f fd) {CC : Addr} (TC : Kl K CC) : FnOk P w K mg base CX0 1 f fd ["self"] (sp_p_Chain_paces K T CC) := by
  refine F.ok sc_p_Chain_paces (fun vs H Q E h => ?_) (fun cdv A outer s H vs Q E hr h => ?_)
  · obtain ⟨c, A, s, rfl, _⟩ := h
    rfl
  · obtain ⟨c, A, s, rfl, h, hl, hs, q⟩ := h
    refine ⟨_, (pss_one (ps_ret (pe_lc (own := [("name", 1)]) (g := (gName 1)) (tt := tYes) (by rfl) sc_p_Chain_paces.nd (pi_list (pe_fc TC.cl (TC.no "row" (by decide +kernel)) (pv 0))) (blkOk_by (own := [("name", 1)]) (N := ["self", "name"]) (sc := (defScope s_p_Chain_paces)) (by decide +kernel)) (fun _ _ _ _ _ => (pg_name (i := 1) sc_p_Chain_paces.nd rfl (.inl rfl))) (fun _ _ _ _ _ => pts_nil) (fun _ _ _ _ _ => (pe_dget (hu_of hr) (pe_fc TC.cl (TC.no "tempos" (by decide +kernel)) (pv 0)) (pv 1) (fun _ _ => rfl)))))), ?_⟩
    refine ⟨_, rfl, c, _, _, _, rfl, h.ins, fl_rw, A.rw, rfl, ⟨_, SqL.of h.rw⟩, fun D hD => lc_list (K := K) (a := A.rw) (xs := s.row.map V.str) (Qd := _) (fun i H' => Sm T H H' ∧ H' D = some (.lst (((pcs s).take i).map V.int))) ⟨same_upd hD, upd_same⟩ (fun i H' _ ⟨sm, _⟩ => SqL.of (sm.k h.rw)) ?_ ?_⟩
    · rintro i v H' hi ⟨sm, eD⟩
      rw [List.getElem?_map] at hi
      obtain ⟨n, hq, rfl⟩ : ∃ n, s.row[i]? = some n ∧ V.str n = v := Option.map_eq_some_iff.mp hi
      have hil := (List.getElem?_eq_some_iff.mp hq).1
      have h' := h.sm sm
      obtain ⟨p, hp⟩ := Option.isSome_iff_exists.mp (hs n (List.mem_of_getElem? hq))
      have ev : valV (tmV s.tempos) (Sum.inr n) = some (.int p) := by rw [val_tm, hp]; rfl
      refine ⟨rfl, tyes_i ?_⟩
      refine ⟨_, rfl, c, _, _, _, rfl, h'.ins, fl_tm, _, rfl, A.tm, .int p, rfl, by rw [← ev]; exact DGet.k (k := Sum.inr n) h'.tm, ?_⟩
      refine ⟨_, eD, by rw [List.length_map, List.length_take]; exact szl (by omega), same_mut sm hD eD, ?_⟩
      have e2 : (pcs s)[i]? = some p := by
        unfold pcs
        rw [List.getElem?_map, hq, Option.map_some, hp]
        rfl
      rw [upd_same, List.take_add_one, e2, List.map_append]
      rfl
    · rintro H' ⟨sm, eD⟩
      rw [List.length_map, List.take_of_length_le (by unfold pcs; rw [List.length_map]; exact Nat.le_refl _)] at eD
      exact q D H' sm hD eD

def sp_p_Chain_hour (K : PySem.W.Frag) (T : Tb) (CC : Addr) : Sp := fun vs H Q _ => ∃ (c : Addr) (A : Ad) (s : Ch), vs = [.ref c] ∧ ChAt K CC H c A s ∧ ∀ q, SqT K H q (tv (am s.now)) → Q (.ref q) H
theorem ok_p_Chain_hour {f : Addr} {fd : FuncData} (F : Fun K "hour" "Chain.hour" s_p_Chain_hour f fd) {CC : Addr} (TC : Kl K CC) : FnOk P w K mg base CX0 1 f fd ["self"] (sp_p_Chain_hour K T CC) := by
  refine F.ok sc_p_Chain_hour (fun vs H Q E h => ?_) (fun cdv A outer s H vs Q E hr h => ?_)
  · obtain ⟨c, A, s, rfl, _⟩ := h
    rfl
  · obtain ⟨c, A, s, rfl, h, q⟩ := h
    refine ⟨_, (pss_one (ps_ret (pe_fc TC.cl (TC.no "now" (by decide +kernel)) (pv 0)))), ?_⟩
    exact ⟨_, rfl, c, _, _, _, rfl, h.ins, fl_nw, q _ h.nw⟩

def sp_p_speeds (K : PySem.W.Frag) (T : Tb) : Sp := fun vs H Q _ => ∃ a b us ns ps, vs = [.ref a, .ref b] ∧ SqL K H a (ns.map V.int) ∧ SqL K H b us ∧ DpAll K H us ((ps.map am).map amD) ∧ ns.length = ps.length ∧ ns.length ≤ 1000 ∧
  ∀ p H', Sm T H H' → H p = none → H' p = some (.lst ((spd ns ps).map V.int)) → Q (.ref p) H'
theorem atI_head {xs : List Int} {s : Int} {r : List Int} (h : xs = s :: r) : atI (xs.reverse.map V.int) (-1) = some (.int s) := by
  rw [h, List.reverse_cons, List.map_append]
  exact atI_last _ _
theorem ok_p_speeds {f : Addr} {fd : FuncData} (F : Fun K "speeds" "speeds" s_p_speeds f fd) (B : Bn mg) : FnOk P w K mg base CX0 1 f fd ["paces", "places"] (sp_p_speeds K T) := by
  refine F.ok sc_p_speeds (fun vs H Q E h => ?_) (fun cdv A outer s H vs Q E hr h => ?_)
  · obtain ⟨a, b, us, ns, ps, rfl, _⟩ := h
    rfl
  · obtain ⟨a, b, us, ns, ps, rfl, ha, hb, hd, hl, hl2, q⟩ := h
    refine ⟨_, (pss_cons (ps_set (i := 2) sc_p_speeds.nd rfl (.inl rfl) (pe_lst pa_nil))
      (pss_cons (ps_for PassesOwn.never rfl (pi_revR (by rfl) B.reversed_ (prg_1 (by rfl) B.range_ (pe_callB call_len_seq (by rfl) B.len_ (by decide +kernel) (pa_cons (pv 0) pa_nil)))) (pg_name (i := 3) sc_p_speeds.nd rfl (.inl rfl))
      (pss_cons (ps_set (i := 4) sc_p_speeds.nd rfl (.inl rfl) (pe_ix ix_list (pv 0) (pv 3) (fun _ _ => rfl)))
      (pss_cons (ps_if (PW.pt (pw_and (pt_truth (pv 2) (by intro _; rfl)) (pw_and1 (pt_cmpR (op_eqD hr.units) (pe_ix ix_list (pv 1) (pv 3) (fun _ _ => rfl)) (pe_ix ix_list (pv 1) (pe_op op_add (pv 3) pe_int) (fun _ _ => rfl)) (nomark _))))) (pss_one (ps_set (i := 4) sc_p_speeds.nd rfl (.inl rfl) (pe_callB (call_min2 rfl) (by rfl) B.min_ (by decide +kernel) (pa_cons (pv 4) (pa_cons (pe_ix ix_list (pv 2) (pe_un un_neg pe_int) (fun _ _ => rfl)) pa_nil))))) pss_nil)
      (pss_one (ps_expr (pe_bm PySem.F.plainAttrs_list PySem.F.slot_list_append PySem.F.type_list_append mt_append (pv 2) (pa_cons (pv 4) pa_nil)))))))
      (pss_cons (ps_expr (pe_bm0 PySem.F.plainAttrs_list PySem.F.slot_list_reverse PySem.F.type_list_reverse mt_reverse (pv 2)))
      (pss_one (ps_ret (pv 2)))))), ?_⟩
    have lu : us.length = ps.length := by rw [dpa_len hd, List.length_map, List.length_map]
    refine ⟨Nat.zero_le _, fun o no => ?_⟩
    have u0 := same_upd (T := T) (o := .lst []) no
    refine ⟨_, rfl, a, _, rfl, .inl (u0.seq ha), _, rfl, by decide, by decide, by rw [List.length_map]; omega, by rw [List.length_map]; omega, for_rangeC (fun i σ H3 => Sm T H H3 ∧ ∃ x3 x4, σ = [some (.ref a), some (.ref b), some (.ref o), x3, x4] ∧ H3 o = some (.lst (((spd (ns.drop (ns.length - i)) (ps.drop (ns.length - i))).reverse).map V.int))) ?_ ?_ ?_⟩
    · refine ⟨u0, _, _, rfl, ?_⟩
      rw [upd_same, Nat.sub_zero, List.drop_length]
      rfl
    · rintro i σ H3 hi ⟨s3, x3, x4, rfl, eo⟩
      rw [List.length_map] at hi
      have hin : i < ns.length := by omega
      obtain ⟨j, hj⟩ : ∃ j, j = ns.length - 1 - i := ⟨_, rfl⟩
      have hjn : j < ns.length := by omega
      have e1 : ns.length - i = j + 1 := by omega
      have e2 : ns.length - (i + 1) = j := by omega
      rw [e1] at eo
      have st := spd_step hl hjn
      have ez : (0 + ((((ns.map V.int).length : Int) - 0).toNat : Int) - 1 + (i : Int) * -1) = (j : Int) := by rw [List.length_map]; omega
      rw [ez]
      generalize hG : spd (ns.drop (j + 1)) (ps.drop (j + 1)) = G at *
      have lG : G.length = ns.length - (j + 1) := by rw [← hG, spd_len _ _ (by rw [List.length_drop, List.length_drop, hl]), List.length_drop]
      refine ⟨_, rfl, _, rfl, a, _, _, .int ns[j], rfl, rfl, s3.seq ha, at_map (i := j) rfl (List.getElem?_eq_getElem hjn), ?_⟩
      dsimp only [gName]
      refine seq_if (fun σ' H' => Sm T H3 H' ∧ ∃ x3 sp, σ' = [some (.ref a), some (.ref b), some (.ref o), x3, some (.int sp)] ∧ spd (ns.drop j) (ps.drop j) = sp :: G) (fun σ' H' p => ?_) (fun k => ?_)
      · obtain ⟨s4, x3, sp, rfl, es⟩ := p
        have eo4 := s4.k eo
        refine ⟨_, rfl, .inl ⟨rfl, _, SqL.of eo4⟩, _, rfl, o, _, _, rfl, rfl, eo4, ?_, ?_⟩
        · rw [List.length_map, List.length_reverse, lG]
          exact szl (by omega)
        · refine ⟨same_mut (s3.trans s4) no eo4, _, _, rfl, ?_⟩
          rw [upd_same, e2, es, List.reverse_cons, List.map_append]
          rfl
      · refine ⟨_, rfl, _, .inl ⟨_, SqL.of eo, rfl⟩, ?_⟩
        by_cases hlast : j + 1 < ns.length
        · have hne : ((G.reverse.map V.int).isEmpty) = false := by
            cases hg : G with
            | nil => rw [hg] at lG; simp at lG; omega
            | cons s r => simp
          rw [hne]
          refine iteT ?_
          obtain ⟨b1, g1, q1⟩ := am_at hd (i := j) (by omega)
          obtain ⟨b2, g2, q2⟩ := am_at hd (i := j + 1) (by omega)
          refine ⟨_, rfl, _, rfl, b, _, _, .ref b1, rfl, rfl, s3.seq hb, at_of (j := j) rfl g1, ?_⟩
          refine ⟨_, rfl, _, rfl, _, _, rfl, rfl, b, _, _, .ref b2, rfl, rfl, s3.seq hb, at_of (j := j + 1) (by omega) g2, ?_⟩
          refine ⟨amD (am ps[j]), amD (am ps[j + 1]), amD_dp (same_tup s3 q1), amD_dp (same_tup s3 q2), shaped_am _, shaped_am _, _, rfl, ?_⟩
          rw [eqv_am]
          rw [dif_pos hlast] at st
          by_cases he : ps[j] = ps[j + 1]
          · rw [decide_eq_true (by rw [he])]
            refine iteT ?_
            rw [if_pos he] at st
            obtain ⟨s, r, hg⟩ : ∃ s r, G = s :: r := by
              cases hg : G with
              | nil => rw [hg] at lG; simp at lG; omega
              | cons s r => exact ⟨s, r, rfl⟩
            refine ⟨_, rfl, _, rfl, 1, rfl, o, _, _, _, rfl, rfl, SqL.of eo, atI_head hg, _, _, rfl, ?_⟩
            refine k _ _ ⟨Sm.refl, _, _, rfl, ?_⟩
            rw [st, hg, List.headD_cons]
            rfl
          · rw [decide_eq_false (fun z => he (am_inj z))]
            refine iteF ?_
            rw [if_neg he] at st
            exact k _ _ ⟨Sm.refl, _, _, rfl, st⟩
        · have hg : G = [] := by
            cases hg : G with
            | nil => rfl
            | cons s r => rw [hg] at lG; simp at lG; omega
          rw [hg]
          refine iteF (iteF ?_)
          rw [dif_neg hlast, hg] at st
          exact k _ _ ⟨Sm.refl, _, _, rfl, by rw [st, hg]⟩
    · rintro σ H3 ⟨s3, x3, x4, rfl, eo⟩
      rw [List.length_map] at eo
      rw [show ns.length - (((ns.length : Nat) : Int) - 0).toNat = 0 by omega, List.drop_zero, List.drop_zero] at eo
      refine ⟨_, rfl, .inl ⟨rfl, _, SqL.of eo⟩, o, _, rfl, rfl, eo, ?_⟩
      refine ⟨_, rfl, q o _ (same_mut s3 no eo) no ?_⟩
      rw [upd_same, ← List.map_reverse, List.reverse_reverse]

def sp_p_hours_at (K : PySem.W.Frag) (T : Tb) : Sp := fun vs H Q _ => ∃ (a : Addr) (x : Rat) (k : Int), vs = [.ref a, .int k] ∧ SqT K H a (tv (am x)) ∧ Bd 6650 (am x) ∧ (0 < k ∧ k < 2 ^ 60) ∧
  ∀ p H', Sm T H H' → H p = none → H' p = some (.tup (tv (am (x / (k : Rat))))) → Q (.ref p) H'
theorem ok_p_hours_at {f : Addr} {fd : FuncData} (F : Fun K "hours_at" "hours_at" s_p_hours_at f fd) (F_p_over : Fn P w K mg base 3 "over" ["one", "other"] (sp_p_over K T)) : FnOk P w K mg base CX0 4 f fd ["gap", "speed"] (sp_p_hours_at K T) := by
  refine F.ok sc_p_hours_at (fun vs H Q E h => ?_) (fun cdv A outer s H vs Q E hr h => ?_)
  · obtain ⟨a, x, k, rfl, _⟩ := h
    rfl
  · obtain ⟨a, x, k, rfl, ha, bx, hk, q⟩ := h
    refine ⟨_, (pss_one (ps_ret (pe_fn F_p_over (hr.mono (by decide)) (pa_cons (pv 0) (pa_cons (pe_tup (pa_cons (pv 1) (pa_cons pe_int pa_nil))) pa_nil))))), ?_⟩
    refine ⟨_, rfl, _, rfl, by show 2 ≤ sizeLine; decide, fun t nt => ?_⟩
    have u := same_upd (T := T) (o := HO.tup [V.int k, V.int 1]) nt
    refine ⟨a, t, am x, (k, 1), rfl, same_tup u ha, SqT.of upd_same, ⟨bx, bd_int (small (by omega))⟩, ⟨am_pos _, by show (0 : Int) < 1; decide, by show k ≠ 0; omega⟩, fun p H' s np e => ?_⟩
    rw [← am_int k, over_am _ _ (cn (by omega))] at e
    exact q p H' (u.trans s) (u.free _ np) e

def sp_p_meeting (K : PySem.W.Frag) (T : Tb) : Sp := fun vs H Q _ => ∃ (L D : Int) (a b : Addr) (us : List V) (ns : List Int) (ps : List Rat), vs = [.int L, .ref a, .ref b] ∧ SqL K H a (ns.map V.int) ∧ SqL K H b us ∧ DpAll K H us ((ps.map am).map amD) ∧ Wk D L ns ps ∧ (0 < D ∧ D.natAbs < 2 ^ 6550) ∧ (1 ≤ L ∧ L ≤ 1000) ∧
  (ns = [] → Q .non H) ∧ (ns ≠ [] → ∀ p H', Sm T H H' → SqT K H' p (tv (am (meetM L ns ps))) → Q (.ref p) H')
theorem ok_p_meeting {f : Addr} {fd : FuncData} (F : Fun K "meeting" "meeting" s_p_meeting f fd) (B : Bn mg) (F_p_minus : Fn P w K mg base 3 "minus" ["one", "other"] (sp_p_minus K T)) (F_p_lesser : Fn P w K mg base 2 "lesser" ["one", "other"] (sp_p_lesser K T)) (F_p_speeds : Fn P w K mg base 1 "speeds" ["paces", "places"] (sp_p_speeds K T)) (F_p_hours_at : Fn P w K mg base 4 "hours_at" ["gap", "speed"] (sp_p_hours_at K T)) : FnOk P w K mg base CX0 5 f fd ["labour", "paces", "places"] (sp_p_meeting K T) := by
  refine F.ok sc_p_meeting (fun vs H Q E h => ?_) (fun cdv A outer s H vs Q E hr h => ?_)
  · obtain ⟨L, D, a, b, us, ns, ps, rfl, _⟩ := h
    rfl
  · obtain ⟨L, D, a, b, us, ns, ps, rfl, ha, hb, hd, wk, hD, hL, q0, q1⟩ := h
    refine ⟨_, (pss_cons (ps_if (pt_not (pt_truth (pv 1) (by intro _; rfl))) (pss_one (ps_ret pe_non)) pss_nil)
      (pss_cons (ps_set (i := 3) sc_p_meeting.nd rfl (.inl rfl) (pe_fn F_p_hours_at (hr.mono (by decide)) (pa_cons (pe_fn F_p_minus (hr.mono (by decide)) (pa_cons (pe_tup (pa_cons (pv 0) (pa_cons pe_int pa_nil))) (pa_cons (pe_ix ix_list (pv 2) (pe_un un_neg pe_int) (fun _ _ => rfl)) pa_nil))) (pa_cons (pe_ix ix_list (pv 1) (pe_un un_neg pe_int) (fun _ _ => rfl)) pa_nil))))
      (pss_cons (ps_set (i := 4) sc_p_meeting.nd rfl (.inl rfl) (pe_fn F_p_speeds (hr.mono (by decide)) (pa_cons (pv 1) (pa_cons (pv 2) pa_nil))))
      (pss_cons (ps_for PassesOwn.never rfl (pi_range1 (by rfl) B.range_ (pa_cons (pe_op op_sub (pe_callB call_len_seq (by rfl) B.len_ (by decide +kernel) (pa_cons (pv 1) pa_nil)) pe_int) pa_nil)) (pg_name (i := 5) sc_p_meeting.nd rfl (.inl rfl))
      (pss_cons (ps_set (i := 6) sc_p_meeting.nd rfl (.inl rfl) (pe_op op_sub (pe_ix ix_list (pv 4) (pv 5) (fun _ _ => rfl)) (pe_ix ix_list (pv 4) (pe_op op_add (pv 5) pe_int) (fun _ _ => rfl))))
      (pss_one (ps_if (pt_cmpR op_gt (pv 6) pe_int (nomark _)) (pss_one (ps_set (i := 3) sc_p_meeting.nd rfl (.inl rfl) (pe_fn F_p_lesser (hr.mono (by decide)) (pa_cons (pv 3) (pa_cons (pe_fn F_p_hours_at (hr.mono (by decide)) (pa_cons (pe_fn F_p_minus (hr.mono (by decide)) (pa_cons (pe_ix ix_list (pv 2) (pe_op op_add (pv 5) pe_int) (fun _ _ => rfl)) (pa_cons (pe_ix ix_list (pv 2) (pv 5) (fun _ _ => rfl)) pa_nil))) (pa_cons (pv 6) pa_nil))) pa_nil))))) pss_nil))))
      (pss_one (ps_ret (pv 3))))))), ?_⟩
    have hle := wk.eq
    have h8 := wk.n8
    have lu : us.length = ps.length := by rw [dpa_len hd, List.length_map, List.length_map]
    refine ⟨_, rfl, _, .inl ⟨_, ha, rfl⟩, ?_⟩
    by_cases hn : ns = []
    · subst hn
      exact iteT (q0 rfl)
    · have hn0 : 0 < ns.length := List.length_pos_iff.mpr hn
      have q1 := q1 hn
      rw [show ((ns.map V.int).isEmpty) = false by cases ns with | nil => exact absurd rfl hn | cons => rfl]
      refine iteF ?_
      obtain ⟨pb, gb, qb⟩ := am_at hd (i := ns.length - 1) (by omega)
      have hL1 : (1 : Rat) ≤ (L : Rat) := Rat.intCast_le_intCast.mpr hL.1
      have hL2 : (L : Rat) ≤ 1000 := Rat.intCast_le_intCast.mpr hL.2
      have c0 := wk.nn _ (List.getElem_mem (show ns.length - 1 < ps.length by omega))
      have c1 := wk.fire _ (List.getElem_mem (show ns.length - 1 < ps.length by omega))
      have c2 := wk.fr _ (List.getElem_mem (show ns.length - 1 < ps.length by omega))
      have p0 := wk.pace _ (List.getElem_mem (show ns.length - 1 < ns.length by omega))
      have fL : Fr D (L : Rat) := Fr.int (by omega) L
      refine ⟨_, rfl, by show 2 ≤ sizeLine; decide, fun t nt => ?_⟩
      have u := same_upd (T := T) (o := HO.tup [V.int L, V.int 1]) nt
      refine ⟨_, rfl, 1, rfl, b, _, _, .ref pb, rfl, rfl, u.seq hb, at_neg1 (by omega) (by rw [lu, ← hle]; exact gb), ?_⟩
      refine ⟨t, pb, (L, 1), am ps[ns.length - 1], rfl, SqT.of upd_same, same_tup u qb, ⟨bd_int (small (by omega)), bd_fr1 hD.1 hD.2 c2 (by grind) (by grind)⟩, ⟨by show (0 : Int) < 1; decide, am_pos _⟩, fun p1 H1 s1 n1 e1 => ?_⟩
      rw [← am_int L, minus_am] at e1
      have s01 := u.trans s1
      refine ⟨_, rfl, 1, rfl, a, _, _, .int ns[ns.length - 1], rfl, rfl, s01.seq ha, at_neg1 (by rw [List.length_map]; exact hn0) (by rw [List.length_map, List.getElem?_map, List.getElem?_eq_getElem (by omega)]; rfl), ?_⟩
      refine ⟨p1, (L : Rat) - ps[ns.length - 1], ns[ns.length - 1], rfl, SqT.of e1, bd_fr1 hD.1 hD.2 (fL.sub c2) (by grind) (by grind), ⟨by omega, by omega⟩, fun p2 H2 s2 n2 e2 => ?_⟩
      have s02 := s01.trans s2
      have eL : ((L : Rat) - ps[ns.length - 1]) / ((ns[ns.length - 1] : Int) : Rat) = lastH L ns ps := by
        unfold lastH
        rw [getD_lt (show ns.length - 1 < ps.length by omega), getD_lt (show ns.length - 1 < ns.length by omega)]
      rw [eL] at e2
      refine ⟨_, rfl, _, rfl, a, b, us, ns, ps, rfl, s02.seq ha, s02.seq hb, dpa_same s02 _ _ hd, hle, by omega, fun go H3 s3 n3 e3 => ?_⟩
      have s03 := s02.trans s3
      refine ⟨_, rfl, a, _, rfl, .inl (s03.seq ha), _, _, rfl, rfl, ((ns.length - 1 : Nat) : Int), ?_, by omega, by omega, for_range (lo := 0) (n := ns.length - 1) (fun i σ H4 => Sm T H3 H4 ∧ ∃ ph x5 x6, σ = [some (.int L), some (.ref a), some (.ref b), some (.ref ph), some (.ref go), x5, x6] ∧ SqT K H4 ph (tv (am (meetF (spd ns ps) ps (lastH L ns ps) i)))) ⟨Sm.refl, p2, _, _, rfl, SqT.of (s3.k e2)⟩ ?_ ?_⟩
      · show [V.int (((ns.map V.int).length : Int) - 1)] = _
        rw [List.length_map, show ((ns.length : Int) - 1) = ((ns.length - 1 : Nat) : Int) by omega]
      · rintro i σ H4 hi ⟨s4, ph, x5, x6, rfl, hph⟩
        have hi' : i + 1 < ns.length := by omega
        have s04 := s03.trans s4
        have e4 := s4.k e3
        have lsp := spd_len ns ps hle
        have g0 : (spd ns ps)[i]? = some ((spd ns ps).getD i 0) := by rw [List.getD_eq_getElem?_getD, List.getElem?_eq_getElem (show i < (spd ns ps).length by omega)]; rfl
        have g1 : (spd ns ps)[i + 1]? = some ((spd ns ps).getD (i + 1) 0) := by rw [List.getD_eq_getElem?_getD, List.getElem?_eq_getElem (show i + 1 < (spd ns ps).length by omega)]; rfl
        obtain ⟨b1, gb1, qb1⟩ := am_at hd (i := i) (by omega)
        obtain ⟨b2, gb2, qb2⟩ := am_at hd (i := i + 1) (by omega)
        have d0 := spd_bd wk (show i < ns.length by omega)
        have d1 := spd_bd wk hi'
        refine ⟨_, rfl, _, rfl, go, _, _, _, rfl, rfl, SqL.of e4, at_map (i := i) (by omega) g0, _, rfl, _, rfl, _, _, rfl, rfl, go, _, _, _, rfl, rfl, SqL.of e4, at_map (i := i + 1) (by omega) g1, _, _, rfl, rfl, ?_⟩
        refine ⟨_, rfl, _, _, rfl, rfl, _, rfl, ite2 (fun e => ?_) (fun e => ?_)⟩
        · have hg : (spd ns ps).getD (i + 1) 0 < (spd ns ps).getD i 0 := by
            have := of_decide_eq_true e
            omega
          have ap := apart wk hi' hg
          have m1 := meetF_ok wk (by omega) hn0 (i := i) (by omega)
          obtain ⟨k1, k11, k12, kf, kn, kL⟩ := m1
          have r1 := wk.fr _ (List.getElem_mem (show i < ps.length by omega))
          have r2 := wk.fr _ (List.getElem_mem (show i + 1 < ps.length by omega))
          have t1 := wk.nn _ (List.getElem_mem (show i < ps.length by omega))
          have t2 := wk.nn _ (List.getElem_mem (show i + 1 < ps.length by omega))
          have v1 := wk.fire _ (List.getElem_mem (show i < ps.length by omega))
          have v2 := wk.fire _ (List.getElem_mem (show i + 1 < ps.length by omega))
          rw [getD_lt (show i < ps.length by omega), getD_lt (show i + 1 < ps.length by omega)] at ap
          refine ⟨_, rfl, _, rfl, _, rfl, _, _, rfl, rfl, b, _, _, .ref b2, rfl, rfl, s04.seq hb, at_of (j := i + 1) (by omega) gb2, _, rfl, _, rfl, b, _, _, .ref b1, rfl, rfl, s04.seq hb, at_of (j := i) (by omega) gb1, ?_⟩
          refine ⟨b2, b1, am ps[i + 1], am ps[i], rfl, same_tup s04 qb2, same_tup s04 qb1, ⟨bd_fr1 hD.1 hD.2 r2 (by grind) (by grind), bd_fr1 hD.1 hD.2 r1 (by grind) (by grind)⟩, ⟨am_pos _, am_pos _⟩, fun p5 H5 s5 n5 e5 => ?_⟩
          rw [minus_am] at e5
          refine ⟨_, rfl, p5, ps[i + 1] - ps[i], (spd ns ps).getD i 0 - (spd ns ps).getD (i + 1) 0, rfl, SqT.of e5, bd_fr1 hD.1 hD.2 (r2.sub r1) (by grind) (by grind), ⟨by omega, by omega⟩, fun p6 H6 s6 n6 e6 => ?_⟩
          have s46 := s5.trans s6
          have m2 := meetF_ok wk (by omega) hn0 (i := i + 1) (by omega)
          have fc := (r2.sub r1).divI (k := (spd ns ps).getD i 0 - (spd ns ps).getD (i + 1) 0) (by omega) (by omega)
          have cpos := lt_div (k := (spd ns ps).getD i 0 - (spd ns ps).getD (i + 1) 0) (by omega) ap
          have cle := div_le1 (a := ps[i + 1] - ps[i]) (k := (spd ns ps).getD i 0 - (spd ns ps).getD (i + 1) 0) (by omega) (sub_nn ap)
          refine ⟨ph, p6, _, _, rfl, same_tup s46 hph, SqT.of e6, ⟨bd_fr hD.1 hD.2 k11 k12 kf (neg_le kn (by decide)) (Rat.le_trans kL hL2), bd_fr hD.1 hD.2 (by omega) (by omega) fc (neg_le (Rat.le_of_lt cpos) (by decide)) (Rat.le_trans cle (sub_le' (Rat.le_trans v2 hL2) t1))⟩, ?_⟩
          refine ⟨s4.trans s46, _, _, _, rfl, ?_⟩
          simp only [meetF]
          rw [if_pos hg, getD_lt (show i < ps.length by omega), getD_lt (show i + 1 < ps.length by omega)]
          exact lesser_sq (same_tup s46 hph) (SqT.of e6)
        · have hg : ¬ (spd ns ps).getD (i + 1) 0 < (spd ns ps).getD i 0 := fun z => e (decide_eq_true (by omega))
          refine ⟨s4, ph, _, _, rfl, ?_⟩
          simp only [meetF]
          rw [if_neg hg]
          exact hph
      · rintro σ H4 ⟨s4, ph, x5, x6, rfl, hph⟩
        exact ⟨_, rfl, q1 ph H4 (s03.trans s4) hph⟩

/-! ### walked on -/
def walkM (ns : List Int) (ps : List Rat) (t : Rat) : List Rat := (List.range ns.length).map fun j => ps.getD j 0 + t * (((spd ns ps).getD j 0 : Int) : Rat)
theorem walkM_len (ns : List Int) (ps : List Rat) (t : Rat) : (walkM ns ps t).length = ns.length := by
  unfold walkM
  rw [List.length_map, List.length_range]
theorem walkM_get {ns : List Int} {ps : List Rat} {t : Rat} {j : Nat} (h : j < ns.length) : (walkM ns ps t).getD j 0 = ps.getD j 0 + t * (((spd ns ps).getD j 0 : Int) : Rat) := by
  unfold walkM
  rw [List.getD_eq_getElem?_getD, List.getElem?_map, List.getElem?_range h]
  rfl
theorem ext_getD {α : Type} {d : α} {xs ys : List α} (hl : xs.length = ys.length) (h : ∀ j, j < xs.length → xs.getD j d = ys.getD j d) : xs = ys := by
  refine List.ext_getElem? fun j => ?_
  by_cases hj : j < xs.length
  · have := h j hj
    rw [getD_lt hj, getD_lt (show j < ys.length by omega)] at this
    rw [List.getElem?_eq_getElem hj, List.getElem?_eq_getElem (show j < ys.length by omega), this]
  · rw [List.getElem?_eq_none (by omega), List.getElem?_eq_none (by omega)]
theorem lt_le {a b c : Rat} (h : a < b) (g : b ≤ c) : a < c := by grind
theorem sep {pj pk t gj gk : Rat} (e : pj + t * gj = pk + t * gk) : t * (gj - gk) = pk - pj := by grind
theorem spd_walk {D L : Int} {ns : List Int} {ps : List Rat} (w : Wk D L ns ps) {t : Rat} (h0 : 0 ≤ t) (ht : t < meetM L ns ps) : spd ns (walkM ns ps t) = spd ns ps := by
  have lw := walkM_len ns ps t
  have l1 := spd_len ns ps w.eq
  have l2 := spd_len ns (walkM ns ps t) lw.symm
  have key : ∀ k j, j < ns.length → ns.length - j ≤ k → (spd ns (walkM ns ps t)).getD j 0 = (spd ns ps).getD j 0 := by
    intro k
    induction k with
    | zero => intro j h1 h2; omega
    | succ k ih =>
      intro j h1 h2
      rw [spd_rec lw.symm h1]
      by_cases h : j + 1 < ns.length
      · have g1 := ih (j + 1) h (by omega)
        rw [g1, walkM_get h1, walkM_get h]
        have hr := spd_rec w.eq h1
        by_cases e : ps.getD j 0 = ps.getD (j + 1) 0
        · rw [if_pos ⟨h, e⟩] at hr
          by_cases e2 : ps.getD j 0 + t * (((spd ns ps).getD j 0 : Int) : Rat) = ps.getD (j + 1) 0 + t * (((spd ns ps).getD (j + 1) 0 : Int) : Rat)
          · rw [if_pos ⟨h, e2⟩]
            exact hr.symm
          · rw [if_neg (fun z => e2 z.2)]
            have hne : (spd ns ps).getD j 0 ≠ (spd ns ps).getD (j + 1) 0 := fun z => e2 (by rw [e, z])
            rw [hr] at hne ⊢
            unfold mnI at hne ⊢
            split
            · rename_i c; rw [if_pos c] at hne; exact absurd rfl hne
            · rfl
        · rw [if_neg (fun z => e z.2)] at hr
          refine (if_neg (fun z => ?_)).trans hr.symm
          have e2 := z.2
          have le := ps_le w h
          have lt : ps.getD j 0 < ps.getD (j + 1) 0 := by grind
          by_cases hg : (spd ns ps).getD (j + 1) 0 < (spd ns ps).getD j 0
          · have c := (meetF_le (spd ns ps) ps (lastH L ns ps) (ns.length - 1)).2 j (by omega) hg
            have em : cand (spd ns ps) ps j * (((spd ns ps).getD j 0 - (spd ns ps).getD (j + 1) 0 : Int) : Rat) = ps.getD (j + 1) 0 - ps.getD j 0 := div_mul (by omega)
            have s := sep e2
            rw [← Rat.intCast_sub] at s
            have tc : t < cand (spd ns ps) ps j := lt_le ht c
            have := Rat.mul_lt_mul_of_pos_right tc (cp (show 0 < (spd ns ps).getD j 0 - (spd ns ps).getD (j + 1) 0 by omega))
            grind
          · have s := sep e2
            rw [← Rat.intCast_sub] at s
            have k0 : (((spd ns ps).getD j 0 - (spd ns ps).getD (j + 1) 0 : Int) : Rat) ≤ 0 := Rat.intCast_le_intCast.mpr (by omega)
            have := Rat.mul_le_mul_of_nonneg_left k0 h0
            grind
      · rw [if_neg (fun z => h z.1), spd_rec w.eq h1, if_neg (fun z => h z.1)]
  exact ext_getD (d := 0) (by omega) fun j hj => key _ j (by omega) (Nat.le_refl _)
theorem walk_walk {D L : Int} {ns : List Int} {ps : List Rat} (w : Wk D L ns ps) {t h : Rat} (h0 : 0 ≤ t) (h1 : t ≤ h) (hm : h ≤ meetM L ns ps) : walkM ns (walkM ns ps t) (h - t) = walkM ns ps h := by
  have lw := walkM_len ns ps t
  refine ext_getD (d := 0) (by rw [walkM_len, walkM_len]) fun j hj => ?_
  rw [walkM_len] at hj
  rw [walkM_get hj, walkM_get hj, walkM_get hj]
  by_cases c : t < meetM L ns ps
  · rw [spd_walk w h0 c]
    grind
  · have : h = t := by grind
    subst this
    grind

def sp_p_walked (K : PySem.W.Frag) (T : Tb) : Sp := fun vs H Q _ => ∃ (D : Int) (a b hp : Addr) (us : List V) (ns : List Int) (ps : List Rat) (t : Rat), vs = [.ref a, .ref b, .ref hp] ∧ SqL K H a (ns.map V.int) ∧ SqL K H b us ∧ AmL K H us ps ∧ SqT K H hp (tv (am t)) ∧ ns.length = ps.length ∧ ns.length ≤ 1000 ∧
  (0 < D ∧ D.natAbs < 2 ^ 6550) ∧ (∀ j, j < ns.length → 1 ≤ (spd ns ps).getD j 0 ∧ (spd ns ps).getD j 0 ≤ 12) ∧ (∀ p ∈ ps, Fr D p ∧ 0 ≤ p ∧ p ≤ 50000) ∧ (Fr D t ∧ 0 ≤ t ∧ t ≤ 50000) ∧
  ∀ p H' us', Sm T H H' → H p = none → H' p = some (.lst us') → AmL K H' us' (walkM ns ps t) → Q (.ref p) H'
theorem ok_p_walked {f : Addr} {fd : FuncData} (F : Fun K "walked" "walked" s_p_walked f fd) (B : Bn mg) (F_p_plus : Fn P w K mg base 3 "plus" ["one", "other"] (sp_p_plus K T)) (F_p_times : Fn P w K mg base 3 "times" ["one", "other"] (sp_p_times K T)) (F_p_speeds : Fn P w K mg base 1 "speeds" ["paces", "places"] (sp_p_speeds K T)) : FnOk P w K mg base CX0 4 f fd ["paces", "places", "hours"] (sp_p_walked K T) := by
  refine F.ok sc_p_walked (fun vs H Q E h => ?_) (fun cdv A outer s H vs Q E hr h => ?_)
  · obtain ⟨D, a, b, hp, us, ns, ps, t, rfl, _⟩ := h
    rfl
  · obtain ⟨D, a, b, hp, us, ns, ps, t, rfl, ha, hb, hu, ht, hl, hl2, hD, hg, hps, ⟨tf, t0, t1⟩, q⟩ := h
    refine ⟨_, (pss_cons (ps_set (i := 3) sc_p_walked.nd rfl (.inl rfl) (pe_fn F_p_speeds (hr.mono (by decide)) (pa_cons (pv 0) (pa_cons (pv 1) pa_nil))))
      (pss_one (ps_ret (pe_lc (own := [("place", 4), ("speed", 5)]) (g := (gTup K 2 (gCons (gName 4) (gCons (gName 5) gNil)))) (tt := tYes) (by rfl) sc_p_walked.nd (pi_zip (by rfl) B.zip_ (pa_cons (pv 1) (pa_cons (pv 3) pa_nil))) (blkOk_by (own := [("place", 4), ("speed", 5)]) (N := ["paces", "places", "hours", "going", "place", "speed"]) (sc := (defScope s_p_walked)) (by decide +kernel)) (fun _ _ _ _ _ => (pg_tup rfl (pgs_cons (pg_name (i := 4) sc_p_walked.nd rfl (.inl rfl)) (pgs_cons (pg_name (i := 5) sc_p_walked.nd rfl (.inl rfl)) pgs_nil)))) (fun _ _ _ _ _ => pts_nil) (fun _ _ _ _ _ => (pe_fn F_p_plus (hr.mono (by decide)) (pa_cons (pv 4) (pa_cons (pe_fn F_p_times (hr.mono (by decide)) (pa_cons (pe_tup (pa_cons (pv 5) (pa_cons pe_int pa_nil))) (pa_cons (pv 2) pa_nil))) pa_nil)))))))), ?_⟩
    have lu := hu.len
    have lsp := spd_len ns ps hl
    refine ⟨_, rfl, _, rfl, a, b, us, ns, ps, rfl, ha, hb, hu, hl, hl2, fun go H1 s1 n1 e1 => ?_⟩
    refine ⟨_, rfl, _, rfl, b, go, us, (spd ns ps).map V.int, rfl, s1.seq hb, SqL.of e1, fun D0 hD0 => lc_it (walk_zip (n := ns.length) (by rw [lu, List.length_map, lsp]; omega)) (Qd := _) (fun i H' => Sm T H1 H' ∧ ∃ vs, H' D0 = some (.lst vs) ∧ AmL K H' vs ((List.range i).map fun j => ps.getD j 0 + t * (((spd ns ps).getD j 0 : Int) : Rat))) ⟨same_upd hD0, [], upd_same, .nil⟩ (fun i H' _ ⟨sm, _⟩ => ⟨(s1.trans sm).seq hb, SqL.of (sm.k e1)⟩) ?_ ?_⟩
    · rintro i x H2 H3 hi ⟨sm, vs, eD, hv⟩ ⟨tp, x1, y1, rfl, ntp, rfl, f1, f2⟩
      obtain ⟨b1, g1, q1⟩ := hu.at (i := i) (by omega)
      have gj : (spd ns ps)[i]? = some ((spd ns ps).getD i 0) := by rw [List.getD_eq_getElem?_getD, List.getElem?_eq_getElem (show i < (spd ns ps).length by omega)]; rfl
      simp only [g1] at f1
      simp only [List.getElem?_map, gj, Option.map_some] at f2
      cases f1
      cases f2
      have ut := same_upd (T := T) (o := .tup [V.ref b1, V.int ((spd ns ps).getD i 0)]) ntp
      have gi := hg i hi
      have hp1 := hps _ (getD_mem (d := (0 : Rat)) (show i < ps.length by omega))
      have c0 : (1 : Rat) ≤ (((spd ns ps).getD i 0 : Int) : Rat) := Rat.intCast_le_intCast.mpr gi.1
      have c1 : (((spd ns ps).getD i 0 : Int) : Rat) ≤ 12 := Rat.intCast_le_intCast.mpr gi.2
      refine ⟨tp, _, rfl, SqT.of upd_same, rfl, _, _, rfl, _, _, rfl, rfl, rfl, tyes_i ?_⟩
      refine ⟨_, rfl, _, rfl, by show 2 ≤ sizeLine; decide, fun t2 nt2 => ?_⟩
      have u2 := same_upd (T := T) (o := .tup [V.int ((spd ns ps).getD i 0), V.int 1]) nt2
      have s13 := s1.trans (sm.trans (ut.trans u2))
      refine ⟨_, rfl, t2, hp, ((spd ns ps).getD i 0, 1), am t, rfl, SqT.of upd_same, same_tup s13 ht, ⟨bd_int (small (by omega)), bdL hD.1 hD.2 tf t0 (Rat.le_trans t1 (by decide))⟩, ⟨by show (0 : Int) < 1; decide, am_pos _⟩, fun p4 H4 s4 n4 e4 => ?_⟩
      rw [← am_int, times_am, Rat.mul_comm] at e4
      have mr := mul_rng t0 t1 c0 c1
      have fm : Fr D (t * (((spd ns ps).getD i 0 : Int) : Rat)) := by rw [Rat.mul_comm]; exact tf.mulI _
      refine ⟨b1, p4, am (ps.getD i 0), am (t * (((spd ns ps).getD i 0 : Int) : Rat)), rfl, same_tup (s13.trans s4) q1, SqT.of e4, ⟨bdL hD.1 hD.2 hp1.1 hp1.2.1 (Rat.le_trans hp1.2.2 (by decide)), bdL hD.1 hD.2 fm mr.1 (Rat.le_trans mr.2 (by decide +kernel))⟩, ⟨am_pos _, am_pos _⟩, fun p5 H5 s5 n5 e5 => ?_⟩
      rw [plus_am] at e5
      have sA := ut.trans (u2.trans (s4.trans s5))
      have eD5 := sA.k eD
      have lv : vs.length = i := by rw [hv.len, List.length_map, List.length_range]
      refine ⟨_, eD5, szl (by omega), same_mut (sm.trans sA) hD0 eD5, _, upd_same, ?_⟩
      rw [take_range]
      exact (hv.keep sA).push eD5 (SqT.of e5)
    · rintro H2 ⟨sm, vs, eD, hv⟩
      exact q D0 H2 vs (s1.trans sm) (s1.free _ hD0) eD hv

theorem getI {l : List Int} {j : Nat} (h : j < l.length) : l[j]? = some (l.getD j 0) := by
  rw [getD_lt h, List.getElem?_eq_getElem h]
theorem spd_le {ns : List Int} {xs : List Rat} (hl : ns.length = xs.length) {j : Nat} (hj : j < ns.length) : (spd ns xs).getD j 0 ≤ ns.getD j 0 := by
  rw [spd_rec hl hj]
  split
  · exact mnI_le_l _ _
  · exact Int.le_refl _

def ledAdd (x : Rat × Rat × Rat) (p v : Int) (h : Rat) : Rat × Rat × Rat := (x.1 + h, x.2.1 + ((v : Int) : Rat) * h, x.2.2 + ((p - v : Int) : Rat) * h)
/-- an amount over D that is not great -/
def Ok6 (D : Int) (r : Rat) : Prop := Fr D r ∧ 0 ≤ r ∧ r ≤ 90000000
theorem ok6_bd {D : Int} {r : Rat} (hD : 0 < D ∧ D.natAbs < 2 ^ 6550) (h : Ok6 D r) : Bd 6650 (am r) := bdL hD.1 hD.2 h.1 h.2.1 (Rat.le_trans h.2.2 (by decide))
theorem led_parts {K : PySem.W.Frag} {H : Hp} {v : V} {x : Rat × Rat × Rat} (h : Dp K H v (ledD x)) : ∃ t a b c, v = .ref t ∧ SqT K H t [.ref a, .ref b, .ref c] ∧ SqT K H a (tv (am x.1)) ∧ SqT K H b (tv (am x.2.1)) ∧ SqT K H c (tv (am x.2.2)) := by
  unfold ledD at h
  cases h with
  | tup hs ha =>
    cases ha with
    | cons h1 h2 =>
      cases h2 with
      | cons h3 h4 =>
        cases h4 with
        | cons h5 h6 =>
          cases h6
          obtain ⟨a, rfl, ha⟩ := pd_at h1
          obtain ⟨b, rfl, hb⟩ := pd_at h3
          obtain ⟨c, rfl, hc⟩ := pd_at h5
          exact ⟨_, a, b, c, rfl, hs, ha, hb, hc⟩
def sp_p_ledger_on (K : PySem.W.Frag) (T : Tb) : Sp := fun vs H Q _ => ∃ (D : Int) (u : V) (x : Rat × Rat × Rat) (p v : Int) (hp : Addr) (h : Rat), vs = [u, .int p, .int v, .ref hp] ∧ Dp K H u (ledD x) ∧ SqT K H hp (tv (am h)) ∧ (0 < D ∧ D.natAbs < 2 ^ 6550) ∧ (Ok6 D x.1 ∧ Ok6 D x.2.1 ∧ Ok6 D x.2.2) ∧ (Fr D h ∧ 0 ≤ h ∧ h ≤ 50000) ∧ (1 ≤ v ∧ v ≤ p ∧ p ≤ 12) ∧
  ∀ t H', Sm T H H' → Dp K H' (.ref t) (ledD (ledAdd x p v h)) → Q (.ref t) H'
theorem ok_p_ledger_on {f : Addr} {fd : FuncData} (F : Fun K "ledger_on" "ledger_on" s_p_ledger_on f fd) (F_p_plus : Fn P w K mg base 3 "plus" ["one", "other"] (sp_p_plus K T)) (F_p_times : Fn P w K mg base 3 "times" ["one", "other"] (sp_p_times K T)) : FnOk P w K mg base CX0 4 f fd ["ledger", "pace", "speed", "hours"] (sp_p_ledger_on K T) := by
  refine F.ok sc_p_ledger_on (fun vs H Q E h => ?_) (fun cdv A outer s H vs Q E hr h => ?_)
  · obtain ⟨D, u, x, p, v, hp, h, rfl, _⟩ := h
    rfl
  · obtain ⟨D, u, x, p, v, hp, h, rfl, hu, hh, hD, ⟨o1, o2, o3⟩, ⟨hf, h0, h1⟩, ⟨v1, vp, p12⟩, q⟩ := h
    refine ⟨_, (pss_cons (ps_asg (pv 0) (pg_tup rfl (pgs_cons (pg_name (i := 4) sc_p_ledger_on.nd rfl (.inl rfl)) (pgs_cons (pg_name (i := 5) sc_p_ledger_on.nd rfl (.inl rfl)) (pgs_cons (pg_name (i := 6) sc_p_ledger_on.nd rfl (.inl rfl)) pgs_nil)))))
      (pss_cons (ps_set (i := 7) sc_p_ledger_on.nd rfl (.inl rfl) (pe_fn F_p_times (hr.mono (by decide)) (pa_cons (pe_tup (pa_cons (pv 2) (pa_cons pe_int pa_nil))) (pa_cons (pv 3) pa_nil))))
      (pss_cons (ps_set (i := 8) sc_p_ledger_on.nd rfl (.inl rfl) (pe_fn F_p_times (hr.mono (by decide)) (pa_cons (pe_tup (pa_cons (pe_op op_sub (pv 1) (pv 2)) (pa_cons pe_int pa_nil))) (pa_cons (pv 3) pa_nil))))
      (pss_one (ps_ret (pe_tup (pa_cons (pe_fn F_p_plus (hr.mono (by decide)) (pa_cons (pv 4) (pa_cons (pv 3) pa_nil))) (pa_cons (pe_fn F_p_plus (hr.mono (by decide)) (pa_cons (pv 5) (pa_cons (pv 7) pa_nil))) (pa_cons (pe_fn F_p_plus (hr.mono (by decide)) (pa_cons (pv 6) (pa_cons (pv 8) pa_nil))) pa_nil))))))))), ?_⟩
    obtain ⟨t, a, b, c, rfl, ht, ha, hb, hc⟩ := led_parts hu
    have bh : Bd 6650 (am h) := bdL hD.1 hD.2 hf h0 (Rat.le_trans h1 (by decide))
    have cv : (1 : Rat) ≤ ((v : Int) : Rat) ∧ ((v : Int) : Rat) ≤ 12 := ⟨Rat.intCast_le_intCast.mpr v1, (Rat.intCast_le_intCast.mpr (show v ≤ 12 by omega) : ((v : Int) : Rat) ≤ ((12 : Int) : Rat))⟩
    have cq : (0 : Rat) ≤ ((p - v : Int) : Rat) ∧ ((p - v : Int) : Rat) ≤ 12 := ⟨Rat.intCast_nonneg.mpr (by omega), (Rat.intCast_le_intCast.mpr (show p - v ≤ 12 by omega) : ((p - v : Int) : Rat) ≤ ((12 : Int) : Rat))⟩
    have m1 := mul_rng h0 h1 cv.1 cv.2
    have m2 := mul_rng0 h0 h1 cq.1 cq.2
    have f1 : Fr D (((v : Int) : Rat) * h) := hf.mulI _
    have f2 : Fr D (((p - v : Int) : Rat) * h) := hf.mulI _
    rw [Rat.mul_comm] at m1 m2
    refine ⟨_, rfl, t, _, rfl, ht, rfl, _, _, rfl, _, _, rfl, _, _, rfl, rfl, ?_⟩
    refine ⟨_, rfl, by show 2 ≤ sizeLine; decide, fun t1 nt1 => ?_⟩
    have u1 := same_upd (T := T) (o := .tup [.int v, .int 1]) nt1
    refine ⟨_, rfl, t1, hp, (v, 1), am h, rfl, SqT.of upd_same, same_tup u1 hh, ⟨bd_int (small (by omega)), bh⟩, ⟨by show (0 : Int) < 1; decide, am_pos _⟩, fun p2 H2 s2 n2 e2 => ?_⟩
    rw [← am_int, times_am] at e2
    refine ⟨_, rfl, _, rfl, _, _, rfl, rfl, by show 2 ≤ sizeLine; decide, fun t3 nt3 => ?_⟩
    have u3 := same_upd (T := T) (o := .tup [.int (p - v), .int 1]) nt3
    have s3 := u1.trans (s2.trans u3)
    refine ⟨_, rfl, t3, hp, (p - v, 1), am h, rfl, SqT.of upd_same, same_tup s3 hh, ⟨bd_int (small (by omega)), bh⟩, ⟨by show (0 : Int) < 1; decide, am_pos _⟩, fun p4 H4 s4 n4 e4 => ?_⟩
    rw [← am_int, times_am] at e4
    have s04 := s3.trans s4
    have e2' := (u3.trans s4).k e2
    refine ⟨_, rfl, _, rfl, a, hp, _, _, rfl, same_tup s04 ha, same_tup s04 hh, ⟨ok6_bd hD o1, bh⟩, ⟨am_pos _, am_pos _⟩, fun p5 H5 s5 n5 e5 => ?_⟩
    rw [plus_am] at e5
    refine ⟨_, rfl, _, rfl, b, p2, _, _, rfl, same_tup (s04.trans s5) hb, SqT.of (s5.k e2'), ⟨ok6_bd hD o2, bdL hD.1 hD.2 f1 m1.1 (Rat.le_trans m1.2 (by decide +kernel))⟩, ⟨am_pos _, am_pos _⟩, fun p6 H6 s6 n6 e6 => ?_⟩
    rw [plus_am] at e6
    refine ⟨_, rfl, _, rfl, c, p4, _, _, rfl, same_tup (s04.trans (s5.trans s6)) hc, SqT.of ((s5.trans s6).k e4), ⟨ok6_bd hD o3, bdL hD.1 hD.2 f2 m2.1 (Rat.le_trans m2.2 (by decide +kernel))⟩, ⟨am_pos _, am_pos _⟩, fun p7 H7 s7 n7 e7 => ?_⟩
    rw [plus_am] at e7
    refine ⟨by show 3 ≤ sizeLine; decide, fun t8 nt8 => ?_⟩
    have u8 := same_upd (T := T) (o := .tup [.ref p5, .ref p6, .ref p7]) nt8
    refine q t8 _ (s04.trans (s5.trans (s6.trans (s7.trans u8)))) (.tup (SqT.of upd_same) (.cons (amD_dp (SqT.of ((s6.trans (s7.trans u8)).k e5))) (.cons (amD_dp (SqT.of ((s7.trans u8).k e6))) (.cons (amD_dp (SqT.of (u8.k e7))) .nil))))
/-- a chain fit to be walked -/
structure WOk (D : Int) (s : Ch) : Prop where
  wk : Wk D s.fire (pcs s) s.spots
  hD : 0 < D ∧ D.natAbs < 2 ^ 6550
  f1 : 1 ≤ s.fire ∧ s.fire ≤ 1000
  nd : s.row.Nodup
  tp : ∀ n ∈ s.row, (getL s.tempos n).isSome = true
  lg : ∀ n ∈ s.row, ∃ x, getL s.ledgers n = some x ∧ Ok6 D x.1 ∧ Ok6 D x.2.1 ∧ Ok6 D x.2.2
  ll : s.ledgers.length ≤ 1000
  now : Ok6 D s.now
theorem pcs_len (s : Ch) : (pcs s).length = s.row.length := by unfold pcs; rw [List.length_map]
def sp_p_Chain_till_meeting (K : PySem.W.Frag) (T : Tb) (CC : Addr) : Sp := fun vs H Q _ => ∃ (D : Int) (c : Addr) (A : Ad) (s : Ch), vs = [.ref c] ∧ ChAt K CC H c A s ∧ WOk D s ∧ s.row ≠ [] ∧ ∀ p H', Sm T H H' → SqT K H' p (tv (am (meetM s.fire (pcs s) s.spots))) → Q (.ref p) H'
theorem ok_p_Chain_till_meeting {f : Addr} {fd : FuncData} (F : Fun K "till_meeting" "Chain.till_meeting" s_p_Chain_till_meeting f fd) {CC : Addr} (TC : Kl K CC) (M_paces : Mt P w K mg base CC 1 "paces" ["self"] (sp_p_Chain_paces K T CC)) (F_p_meeting : Fn P w K mg base 5 "meeting" ["labour", "paces", "places"] (sp_p_meeting K T)) : FnOk P w K mg base CX0 6 f fd ["self"] (sp_p_Chain_till_meeting K T CC) := by
  refine F.ok sc_p_Chain_till_meeting (fun vs H Q E h => ?_) (fun cdv A outer s H vs Q E hr h => ?_)
  · obtain ⟨D, c, A, s, rfl, _⟩ := h
    rfl
  · obtain ⟨D, c, A, s, rfl, h, w, hne, q⟩ := h
    refine ⟨_, (pss_one (ps_ret (pe_fn F_p_meeting (hr.mono (by decide)) (pa_cons (pe_fc TC.cl (TC.no "fire" (by decide +kernel)) (pv 0)) (pa_cons (pe_mt0 M_paces TC.cl (hr.mono (by decide)) (pv 0) ) (pa_cons (pe_fc TC.cl (TC.no "spots" (by decide +kernel)) (pv 0)) pa_nil)))))), ?_⟩
    have n8 := w.wk.n8
    rw [pcs_len] at n8
    refine ⟨_, rfl, c, _, _, _, rfl, h.ins, fl_fire, _, rfl, c, _, _, rfl, h.ins, fl_no (by decide +kernel), c, A, s, rfl, h, by omega, w.tp, fun p H1 s1 np ep => ?_⟩
    have h1 := h.sm s1
    obtain ⟨ps, p1, p2⟩ := h1.sp
    refine ⟨_, rfl, c, _, _, _, rfl, h1.ins, fl_sp, s.fire, D, p, A.sp, ps, pcs s, s.spots, rfl, SqL.of ep, SqL.of p1, p2, w.wk, w.hD, w.f1, fun e => ?_, fun _ p2 H2 s2 hp2 => q p2 H2 (s1.trans s2) hp2⟩
    have := congrArg List.length e
    rw [pcs_len] at this
    exact absurd (List.length_eq_zero_iff.mp this) hne
theorem nd_inj {l : List Str} (h : l.Nodup) {i j : Nat} (hi : i < l.length) (hj : j < l.length) (e : l[i] = l[j]) : i = j := nd_ix h (List.getElem?_eq_getElem hi) (by rw [List.getElem?_eq_getElem hj, e])
def ledN (s : Ch) (h : Rat) : Nat → List (Str × (Rat × Rat × Rat))
  | 0 => s.ledgers
  | i + 1 => putL (ledN s h i) (s.row.getD i "") (ledAdd ((getL s.ledgers (s.row.getD i "")).getD (0, 0, 0)) ((pcs s).getD i 0) ((spd (pcs s) s.spots).getD i 0) h)
theorem ledN_get {s : Ch} {h : Rat} (nd : s.row.Nodup) : ∀ i, i ≤ s.row.length → ∀ n, (∀ j, j < i → s.row.getD j "" ≠ n) → getL (ledN s h i) n = getL s.ledgers n
  | 0, _, n, _ => rfl
  | i + 1, hi, n, hn => by
    show getL (putL _ _ _) n = _
    rw [getL_put, if_neg (hn i (by omega))]
    exact ledN_get nd i (by omega) n fun j hj => hn j (by omega)
theorem ledN_at {s : Ch} {h : Rat} (nd : s.row.Nodup) {i : Nat} (hi : i ≤ s.row.length) : ∀ {j : Nat}, j < i → getL (ledN s h i) (s.row.getD j "") = some (ledAdd ((getL s.ledgers (s.row.getD j "")).getD (0, 0, 0)) ((pcs s).getD j 0) ((spd (pcs s) s.spots).getD j 0) h) := by
  induction i with
  | zero => intro j hj; omega
  | succ i ih =>
    intro j hj
    show getL (putL _ _ _) _ = _
    rw [getL_put]
    by_cases c : j = i
    · subst c
      rw [if_pos rfl]
    · rw [if_neg, ih (by omega) (by omega)]
      rw [getD_lt (show i < s.row.length by omega), getD_lt (show j < s.row.length by omega)]
      exact fun z => c (nd_inj nd (by omega) (by omega) z).symm
theorem ledN_len {s : Ch} {h : Rat} (hs : ∀ n ∈ s.row, ∃ x, getL s.ledgers n = some x) (nd : s.row.Nodup) : ∀ i, i ≤ s.row.length → (ledN s h i).length = s.ledgers.length
  | 0, _ => rfl
  | i + 1, hi => by
    have hm := getD_mem (d := ("" : Str)) (show i < s.row.length by omega)
    obtain ⟨x, hx⟩ := hs _ hm
    have e := ledN_get (h := h) nd i (by omega) (s.row.getD i "") (fun j hj => by
      rw [getD_lt (show i < s.row.length by omega), getD_lt (show j < s.row.length by omega)]
      exact fun z => absurd (nd_inj nd (by omega) (by omega) z) (by omega))
    show (putL _ _ _).length = _
    rw [putL_has (b := x) (by rw [e]; exact hx)]
    exact ledN_len hs nd i (by omega)
def walkS (s : Ch) (h : Rat) : Ch := { s with ledgers := ledN s h s.row.length, spots := walkM (pcs s) s.spots h, now := s.now + h }
def sp_p_Chain_walk (K : PySem.W.Frag) (T : Tb) (CC : Addr) : Sp := fun vs H Q _ => ∃ (D : Int) (c : Addr) (A : Ad) (s : Ch) (hp : Addr) (h : Rat), vs = [.ref c, .ref hp] ∧ ChAt K CC H c A s ∧ WOk D s ∧ SqT K H hp (tv (am h)) ∧ (Fr D h ∧ 0 ≤ h ∧ h ≤ 50000) ∧
  ∀ H' A', Sx T (ownC c A) H H' → (∀ x ∈ ownC c A', x ∈ ownC c A ∨ H x = none) → ChAt K CC H' c A' (walkS s h) → Q .non H'
theorem ok_p_Chain_walk {f : Addr} {fd : FuncData} (F : Fun K "walk" "Chain.walk" s_p_Chain_walk f fd) (B : Bn mg) {CC : Addr} (TC : Kl K CC) (F_p_plus : Fn P w K mg base 3 "plus" ["one", "other"] (sp_p_plus K T)) (M_paces : Mt P w K mg base CC 1 "paces" ["self"] (sp_p_Chain_paces K T CC)) (F_p_speeds : Fn P w K mg base 1 "speeds" ["paces", "places"] (sp_p_speeds K T)) (F_p_walked : Fn P w K mg base 4 "walked" ["paces", "places", "hours"] (sp_p_walked K T)) (F_p_ledger_on : Fn P w K mg base 4 "ledger_on" ["ledger", "pace", "speed", "hours"] (sp_p_ledger_on K T)) : FnOk P w K mg base CX0 5 f fd ["self", "hours"] (sp_p_Chain_walk K T CC) := by
  refine F.ok sc_p_Chain_walk (fun vs H Q E h => ?_) (fun cdv A outer s H vs Q E hr h => ?_)
  · obtain ⟨D, c, A, s, hp, h, rfl, _⟩ := h
    rfl
  · obtain ⟨D, c, A, s, hp, h, rfl, ch, w, hh, ⟨hf, h0, h1⟩, q⟩ := h
    refine ⟨_, (pss_cons (ps_set (i := 2) sc_p_Chain_walk.nd rfl (.inl rfl) (pe_mt0 M_paces TC.cl (hr.mono (by decide)) (pv 0) ))
      (pss_cons (ps_set (i := 3) sc_p_Chain_walk.nd rfl (.inl rfl) (pe_fn F_p_speeds (hr.mono (by decide)) (pa_cons (pv 2) (pa_cons (pe_fc TC.cl (TC.no "spots" (by decide +kernel)) (pv 0)) pa_nil))))
      (pss_cons (ps_for PassesOwn.never rfl (pi_zip3 (by rfl) B.zip_ (pa_cons (pe_fc TC.cl (TC.no "row" (by decide +kernel)) (pv 0)) (pa_cons (pv 2) (pa_cons (pv 3) pa_nil)))) (pg_tup rfl (pgs_cons (pg_name (i := 4) sc_p_Chain_walk.nd rfl (.inl rfl)) (pgs_cons (pg_name (i := 5) sc_p_Chain_walk.nd rfl (.inl rfl)) (pgs_cons (pg_name (i := 6) sc_p_Chain_walk.nd rfl (.inl rfl)) pgs_nil))))
      (pss_one (ps_dput (hu_of hr) (pe_fc TC.cl (TC.no "ledgers" (by decide +kernel)) (pv 0)) (pv 4) (pe_fn F_p_ledger_on (hr.mono (by decide)) (pa_cons (pe_dget (hu_of hr) (pe_fc TC.cl (TC.no "ledgers" (by decide +kernel)) (pv 0)) (pv 4) (fun _ _ => rfl)) (pa_cons (pv 5) (pa_cons (pv 6) (pa_cons (pv 1) pa_nil))))) rfl)))
      (pss_cons (ps_fc TC.cl (TC.no "spots" (by decide +kernel)) (pv 0) (pe_fn F_p_walked (hr.mono (by decide)) (pa_cons (pv 2) (pa_cons (pe_fc TC.cl (TC.no "spots" (by decide +kernel)) (pv 0)) (pa_cons (pv 1) pa_nil)))))
      (pss_one (ps_fc TC.cl (TC.no "now" (by decide +kernel)) (pv 0) (pe_fn F_p_plus (hr.mono (by decide)) (pa_cons (pe_fc TC.cl (TC.no "now" (by decide +kernel)) (pv 0)) (pa_cons (pv 1) pa_nil))))))))), ?_⟩
    have n8 := w.wk.n8
    have eq0 := w.wk.eq
    rw [pcs_len] at n8
    have lp := pcs_len s
    have bh : Bd 6650 (am h) := bdL w.hD.1 w.hD.2 hf h0 (Rat.le_trans h1 (by decide))
    refine ⟨_, rfl, c, _, _, rfl, ch.ins, fl_no (by decide +kernel), c, A, s, rfl, ch, by omega, w.tp, fun pp H1 s1 npp epp => ?_⟩
    have c1 := ch.sm s1
    obtain ⟨ps, p1, p2⟩ := c1.sp
    refine ⟨_, rfl, _, rfl, c, _, _, _, rfl, c1.ins, fl_sp, pp, A.sp, ps, pcs s, s.spots, rfl, SqL.of epp, SqL.of p1, p2, eq0, by omega, fun pg H2 s2 npg epg => ?_⟩
    have c2 := c1.sm s2
    have s12 := s1.trans s2
    have epp2 := s2.k epp
    have lsp : (spd (pcs s) s.spots).length = s.row.length := by rw [spd_len _ _ eq0, lp]
    have npp0 := ch.new npp
    have npg0 := c1.new npg
    refine ⟨_, rfl, c, _, _, _, rfl, c2.ins, fl_rw, _, rfl, _, rfl, A.rw, pp, pg, _, _, _, rfl, SqL.of c2.rw, SqL.of epp2, SqL.of epg, for_it (walk_zip3 (us := s.row.map V.str) (vs := (pcs s).map V.int) (ws := (spd (pcs s) s.spots).map V.int) (n := s.row.length) (by rw [List.length_map, List.length_map, List.length_map, lp, lsp]; omega)) (fun i σ H3 => Sx T (ownC c A) H2 H3 ∧ ChAt K CC H3 c A { s with ledgers := ledN s h i } ∧ ∃ x4 x5 x6, σ = [some (.ref c), some (.ref hp), some (.ref pp), some (.ref pg), x4, x5, x6]) ⟨Sx.refl, c2, _, _, _, rfl⟩ (fun i σ H3 _ ⟨x3, c3, _⟩ => ⟨SqL.of c3.rw, SqL.of (x3.lst epp2 npp0), SqL.of (x3.lst epg npg0)⟩) ?_ ?_⟩
    · rintro i x σ H3 H4 hi ⟨x3, c3, x4, x5, x6, rfl⟩ ⟨tp, y1, y2, y3, rfl, ntp, rfl, f1, f2, f3⟩
      have g2 := getI (l := pcs s) (j := i) (by omega)
      have g3 := getI (l := spd (pcs s) s.spots) (j := i) (by omega)
      have g1 : s.row[i]? = some (s.row.getD i "") := by rw [getD_lt hi, List.getElem?_eq_getElem hi]
      simp only [List.getElem?_map, g1, Option.map_some] at f1
      simp only [List.getElem?_map, g2, Option.map_some] at f2
      simp only [List.getElem?_map, g3, Option.map_some] at f3
      cases f1
      cases f2
      cases f3
      have hm := getD_mem (d := ("" : Str)) hi
      generalize hn : s.row.getD i "" = n at *
      have ut := same_upd (T := T) (o := .tup [.str n, .int ((pcs s).getD i 0), .int ((spd (pcs s) s.spots).getD i 0)]) ntp
      have c4 := c3.sm ut
      obtain ⟨kv, g4, g5⟩ := c4.lg
      obtain ⟨x, hx, o1, o2, o3⟩ := w.lg n hm
      have ex : getL (ledN s h i) n = some x := by
        rw [ledN_get w.nd i (by omega) n (fun j hj => by
          rw [← hn, getD_lt (show i < s.row.length by omega), getD_lt (show j < s.row.length by omega)]
          exact fun z => absurd (nd_inj w.nd (by omega) (by omega) z) (by omega))]
        exact hx
      have hgn : getL ({ s with ledgers := ledN s h i } : Ch).ledgers n = some x := ex
      rcases led_val g5 n with ⟨e1, _⟩ | ⟨x', v, e1, e2, e3⟩
      · rw [hgn] at e1; cases e1
      · rw [hgn] at e1
        cases e1
        have hpc := w.wk.pace _ (getD_mem (d := (0 : Int)) (show i < (pcs s).length by omega))
        have hsp := spd_bd w.wk (j := i) (by omega)
        have hle : (spd (pcs s) s.spots).getD i 0 ≤ (pcs s).getD i 0 := spd_le eq0 (by omega)
        refine ⟨tp, _, rfl, SqT.of upd_same, rfl, _, _, rfl, _, _, rfl, _, _, rfl, rfl, ?_⟩
        refine ⟨_, rfl, c, _, _, _, rfl, c4.ins, fl_lg, _, rfl, A.lg, v, rfl, by rw [← e2]; exact DGet.k (k := Sum.inr n) g4, _, rfl, _, rfl, _, rfl, ?_⟩
        refine ⟨D, v, x, _, _, hp, h, rfl, e3, (s12.sx (S := [])).tup hh |> fun z => (x3.sm' ut).tup z, w.hD, ⟨o1, o2, o3⟩, ⟨hf, h0, h1⟩, ⟨hsp.1, hle, hpc.2⟩, fun t H5 s5 d5 => ?_⟩
        have c5 := c4.sm s5
        have g6 := s5.k g4
        refine ⟨_, rfl, c, _, _, _, rfl, c5.ins, fl_lg, _, rfl, A.lg, _, rfl, DPut.k (k := Sum.inr n) g6 (by rw [led_len g5]; exact szl (by show (ledN s h i).length < _; rw [ledN_len (fun n hn => by obtain ⟨x, hx, _⟩ := w.lg n hn; exact ⟨x, hx⟩) w.nd i (by omega)]; have := w.ll; omega)), ?_⟩
        have g7 := led_put (n := n) ((s5.sx (S := [])).led g5) d5
        have c6 := c5.set_lg g7
        refine ⟨(x3.sm' (ut.trans s5)).step (sx_upd (o := .dK (putK kv (Sum.inr n) (.ref t))) g6 rfl (by simp [ownC])), ?_, _, _, _, rfl⟩
        have e6 : ledN s h (i + 1) = putL (ledN s h i) n (ledAdd x ((pcs s).getD i 0) ((spd (pcs s) s.spots).getD i 0) h) := by
          show putL _ (s.row.getD i "") _ = _
          rw [hn, hx]
          rfl
        rw [e6]
        exact c6
    · rintro σ H3 ⟨x3, c3, x4, x5, x6, rfl⟩
      obtain ⟨ps3, p3, p4⟩ := c3.sp
      have hg8 : ∀ j, j < (pcs s).length → 1 ≤ (spd (pcs s) s.spots).getD j 0 ∧ (spd (pcs s) s.spots).getD j 0 ≤ 12 := fun j hj => spd_bd w.wk hj
      have hps : ∀ p ∈ s.spots, Fr D p ∧ 0 ≤ p ∧ p ≤ 50000 := fun p hp => ⟨w.wk.fr p hp, w.wk.nn p hp, Rat.le_trans (w.wk.fire p hp) (Rat.le_trans (Rat.intCast_le_intCast.mpr w.f1.2) (by decide +kernel))⟩
      have hh3 := x3.tup ((s12.sx (S := [])).tup hh)
      refine ⟨_, rfl, _, rfl, c, _, _, _, rfl, c3.ins, fl_sp, _, rfl, D, pp, A.sp, hp, ps3, pcs s, s.spots, h, rfl, SqL.of (x3.lst epp2 npp0), SqL.of p3, p4, hh3, eq0, by omega, w.hD, hg8, hps, ⟨hf, h0, h1⟩, fun p5 H5 us' s5 n5 e5 hu5 => ?_⟩
      have c5 := c3.sm s5
      refine ⟨_, rfl, c, _, _, rfl, c5.ins, by show 11 < 1000; decide, ?_⟩
      rw [pf_sp]
      have np5 := c3.new n5
      have c6 := c5.re_sp e5 hu5 np5
      have x6 : Sx T (ownC c A) H _ := (s12.sx.step x3).sm' s5 |>.step (sx_upd (o := .ins CC A.dx (flds s.fire { A with sp := p5 })) c5.ins rfl (by simp [ownC]))
      have hh6 := x6.tup hh
      refine ⟨_, rfl, c, _, _, _, rfl, c6.ins, fl_nw, _, rfl, _, hp, _, _, rfl, c6.nw, hh6, ⟨ok6_bd w.hD w.now, bh⟩, ⟨am_pos _, am_pos _⟩, fun p7 H7 s7 n7 e7 => ?_⟩
      rw [plus_am] at e7
      have c7 := c6.sm s7
      refine ⟨_, rfl, c, _, _, rfl, c7.ins, by show 11 < 1000; decide, ?_⟩
      rw [pf_nw]
      have c8 := c7.re_nw (SqT.of e7)
      refine q _ _ (x6.sm' s7 |>.step (sx_upd c7.ins rfl (by simp [ownC]))) ?_ c8
      intro y hy
      have hy2 : y = p5 ∨ y ∈ ownC c A := by
        simp only [ownC, List.mem_cons, List.not_mem_nil, or_false] at hy ⊢
        rcases hy with h | h | h | h | h | h | h | h | h <;> simp [h]
      rcases hy2 with rfl | h
      · exact .inr (s12.free _ (x3.free _ n5))
      · exact .inl h

def wOk (q : Am) : Bool := (decide (1 ≤ q.1) && decide (q.1 ≤ 9)) && (decide (1 ≤ q.2) && decide (q.2 ≤ 9))
def wayB (qs : List Am) : Bool := (decide (1 ≤ qs.length) && decide (qs.length ≤ 6)) && qs.all wOk
def labourM (qs : List Am) : Int := (qs.map fun (q : Int × Int) => q.1 * q.2).sum
def stepsM (qs : List Am) : Int := (qs.map fun (q : Int × Int) => q.1).sum
theorem wOk_b {q : Am} (h : wOk q = true) : 1 ≤ q.1 ∧ q.1 ≤ 9 ∧ 1 ≤ q.2 ∧ q.2 ≤ 9 := by
  unfold wOk at h
  simp only [Bool.and_eq_true, decide_eq_true_eq] at h
  exact ⟨h.1.1, h.1.2, h.2.1, h.2.2⟩
theorem wayB_b {qs : List Am} (h : wayB qs = true) : 1 ≤ qs.length ∧ qs.length ≤ 6 ∧ ∀ q ∈ qs, 1 ≤ q.1 ∧ q.1 ≤ 9 ∧ 1 ≤ q.2 ∧ q.2 ≤ 9 := by
  unfold wayB at h
  simp only [Bool.and_eq_true, decide_eq_true_eq, List.all_eq_true] at h
  exact ⟨h.1.1, h.1.2, fun q hq => wOk_b (h.2 q hq)⟩
theorem sum_bd {c : Int} (hc : 0 ≤ c) : ∀ (l : List Int), (∀ z ∈ l, 0 ≤ z ∧ z ≤ c) → 0 ≤ l.sum ∧ l.sum ≤ c * (l.length : Int)
  | [], _ => by simp
  | z :: l, h => by
    have i := sum_bd hc l fun y hy => h y (List.mem_cons_of_mem _ hy)
    have j := h z List.mem_cons_self
    rw [List.sum_cons, List.length_cons]
    have e : c * ((l.length + 1 : Nat) : Int) = c * (l.length : Int) + c := by rw [Int.natCast_add, Int.mul_add]; simp
    rw [e]
    omega
theorem long_of {l : List Int} (h : ∀ z ∈ l, 0 ≤ z ∧ z ≤ 81) (hl : l.length ≤ 6) : ∀ j, j < l.length → InLong (l.getD j 0) ∧ InLong ((l.take (j + 1)).sum) := fun j hj => by
  constructor
  · rw [List.getD_eq_getElem?_getD, List.getElem?_eq_getElem hj]
    have := h _ (List.getElem_mem hj)
    show -(2 ^ 63) ≤ l[j] ∧ l[j] < 2 ^ 63
    omega
  · have s := sum_bd (c := 81) (by decide) (l.take (j + 1)) fun z hz => h z (List.mem_of_mem_take hz)
    have : ((l.take (j + 1)).length : Int) ≤ 6 := by rw [List.length_take]; omega
    show -(2 ^ 63) ≤ (l.take (j + 1)).sum ∧ (l.take (j + 1)).sum < 2 ^ 63
    omega
theorem pairs_of {K : PySem.W.Frag} {H : Hp} {a : Addr} {vs : List V} {qs : List Am} (hS : SqL K H a vs) (hd : DpAll K H vs (qs.map amD)) : Pairs K H a qs := by
  refine ⟨vs, hS, ?_, fun i p e => ?_⟩
  · rw [dpa_len hd, List.length_map]
  · obtain ⟨v, e1, e2⟩ := dpa_get hd (i := i) (d := amD p) (by rw [List.getElem?_map, e]; rfl)
    obtain ⟨b, rfl, hb⟩ := pd_at e2
    exact ⟨b, e1, hb⟩
def sp_p_is_stretch (K : PySem.W.Frag) (T : Tb) : Sp := fun vs H Q _ => ∃ b q, vs = [.ref b] ∧ SqT K H b (tv q) ∧ Ok T H ∧ ∀ H', Sm T H H' → Q (.bl (wOk q)) H'
theorem ok_p_is_stretch {f : Addr} {fd : FuncData} {u_MOST_STEPS_OR_TOIL : Value} {c PT : Addr} (F : FunC K "is_stretch" "is_stretch" s_p_is_stretch f fd c) (hnT : (T.map (·.1)).Nodup) (hPT : (PT, (none : Option Str)) ∈ T) (TB : GxR.TabB base mg c PT) (B : Bn mg) (C_MOST_STEPS_OR_TOIL : RelV (.int 9) u_MOST_STEPS_OR_TOIL ∧ mg "MOST_STEPS_OR_TOIL" = some u_MOST_STEPS_OR_TOIL) {fW fN : Addr} (Wt : WithAt K fW) (kW : PySem.W.keepIn K (.ref fW) = true) (gW : mg "is_within" = some (.ref fW)) (N : NumAt K fN) (kN : PySem.W.keepIn K (.ref fN) = true) (gN : mg "is_number" = some (.ref fN)) : FnOk P w K mg base CX0 1 f fd ["thing"] (sp_p_is_stretch K T) := by
  obtain ⟨⟨tM, rfl⟩, gM⟩ := C_MOST_STEPS_OR_TOIL
  refine F.ok sc_p_is_stretch (fun vs H Q E h => ?_) (fun A outer s H vs Q E hr h => ?_)
  · obtain ⟨b, q, rfl, _⟩ := h
    rfl
  · obtain ⟨b, q, rfl, hS, hok, k⟩ := h
    refine ⟨_, (pss_cons (ps_if (PW.pt (pw_or (pt_not (pt_val (pe_callB call_isi (by rfl) B.isinstance_ (by decide +kernel) (pa_cons (pv 0) (pa_cons (pe_bltn (v := .ty "tuple") (by rfl) B.tuple_ (by decide +kernel) rfl) pa_nil))))) (pw_or1 (pt_cmpR op_ne (pe_callB call_len_seq (by rfl) B.len_ (by decide +kernel) (pa_cons (pv 0) pa_nil)) pe_int (nomark _))))) (pss_one (ps_ret pe_bl)) pss_nil)
      (pss_one (ps_ret (pe_allI hnT hPT hr (by rfl) B.all_ (by decide +kernel) TB rfl (gens_by (by decide +kernel)) (pv 0) (elt_num hr Wt kW gW N kN gN gM rfl B.isinstance_ B.int_ B.bool_ rfl rfl rfl rfl) (fun _ => rfl))))), ?_⟩
    refine ⟨_, rfl, _, _, _, _, true, rfl, .ty "tuple", tyx_of (amD_dp hS), kit_ty kb_tuple_tuple, _, rfl, iteF ?_⟩
    refine ⟨_, rfl, b, _, rfl, .inr hS, rfl, _, rfl, iteF ?_⟩
    refine ⟨_, rfl, b, [q.1, q.2], rfl, hS, hok _ hPT, hok, fun H2 s2 => ?_⟩
    have e : ([q.1, q.2].all fun i => decide (1 ≤ i) && decide (i ≤ 9)) = wOk q := by
      unfold wOk
      rw [List.all_cons, List.all_cons, List.all_nil, Bool.and_true]
    rw [e]
    exact k H2 s2
def sp_p_check_way (K : PySem.W.Frag) (T : Tb) (CP : Addr) : Sp := fun vs H Q E => ∃ a us qs, vs = [.ref a] ∧ SqL K H a us ∧ DpAll K H us (qs.map amD) ∧ qs.length ≤ 1000 ∧ Ok T H ∧ (wayB qs = true → ∀ H', Sm T H H' → Q .non H') ∧
  (wayB qs = false → ∀ cls d H', Sm T H H' → Rf K CP "bad way" cls d H' → E cls d H')
theorem ok_p_check_way {f : Addr} {fd : FuncData} {u_MOST_STRETCHES : Value} (F : Fun K "check_way" "check_way" s_p_check_way f fd) (B : Bn mg) (C_MOST_STRETCHES : RelV (.int 6) u_MOST_STRETCHES ∧ mg "MOST_STRETCHES" = some u_MOST_STRETCHES) {CP : Addr} (R_BadWay : Err P w K mg base CP "BadWay" "bad way") (F_p_is_stretch : Fn P w K mg base 1 "is_stretch" ["thing"] (sp_p_is_stretch K T)) : FnOk P w K mg base (L2.CX P w) 4 f fd ["way"] (sp_p_check_way K T CP) := by
  refine F.okX sc_p_check_way (fun vs H Q E h => ?_) (fun cdv A outer s H vs Q E hr h => ?_)
  · obtain ⟨a, us, qs, rfl, _⟩ := h
    rfl
  · obtain ⟨a, us, qs, rfl, hS, hd, hl, hok, k1, k2⟩ := h
    obtain ⟨⟨tM, rfl⟩, gM⟩ := id C_MOST_STRETCHES
    refine ⟨_, (pss_cons (ps_if (pt_not (pt_chain op_le op_le pe_int (pe_callB call_len_seq (by rfl) B.len_ (by decide +kernel) (pa_cons (pv 0) pa_nil)) (pe_glob (by rfl) C_MOST_STRETCHES.2 C_MOST_STRETCHES.1))) (pss_one (ps_raise rfl (takes_of rfl rfl rfl rfl) (pmk_err R_BadWay (hr.mono (by decide)) (by rfl)))) pss_nil)
      (pss_one (ps_for (passes_of rfl) rfl (pi_list (pv 0)) (pg_name (i := 1) sc_p_check_way.nd rfl (.inl rfl))
      (pss_one (ps_if (pt_not (pt_val (pe_fn F_p_is_stretch (hr.mono (by decide)) (pa_cons (pv 1) pa_nil)))) (pss_one (ps_raise rfl (takes_of rfl rfl rfl rfl) (pmk_err R_BadWay (hr.mono (by decide)) (by rfl)))) pss_nil))))), ?_⟩
    have el : us.length = qs.length := by rw [dpa_len hd, List.length_map]
    have bad : wayB qs = false → ∀ (H1 : Hp), Sm T H H1 → tErr K CP "bad way" [] H1 (fun cls d H' => E cls d H') := fun hb H1 s1 cls dd hn rf => k2 hb cls (some dd) _ (s1.trans (same_upd hn)) rf
    refine ⟨_, rfl, a, us, rfl, .inl hS, _, _, rfl, rfl, _, rfl, ?_⟩
    by_cases h1 : (1 : Int) ≤ (us.length : Int)
    · rw [decide_eq_true h1]
      refine iteT ?_
      refine ⟨_, _, rfl, rfl, _, rfl, ?_⟩
      by_cases h2 : (us.length : Int) ≤ 6
      · rw [decide_eq_true h2]
        refine iteF ?_
        refine ⟨_, rfl, a, rfl, ⟨_, hS⟩, for_list (K := K) (a := a) (xs := us) (fun i σ H3 => Sm T H H3 ∧ (qs.take i).all wOk = true ∧ ∃ x, σ = [some (.ref a), x]) ⟨Sm.refl, by rw [List.take_zero]; rfl, _, rfl⟩ (fun i σ H3 _ ⟨s3, _⟩ => s3.seq hS) ?_ ?_⟩
        · rintro i v σ H3 hi ⟨s3, ha, x, rfl⟩
          have hil : i < qs.length := by rw [← el]; exact (List.getElem?_eq_some_iff.mp hi).1
          obtain ⟨v', e1, e2⟩ := dpa_get hd (i := i) (d := amD qs[i]) (by rw [List.getElem?_map, List.getElem?_eq_getElem hil]; rfl)
          rw [hi] at e1
          cases e1
          obtain ⟨b, rfl, hb⟩ := pd_at e2
          refine ⟨_, rfl, b, qs[i], rfl, same_tup s3 hb, s3.ok hok, fun H4 s4 => ⟨_, rfl, ?_⟩⟩
          cases hw : wOk qs[i] with
          | true =>
            refine iteF ?_
            refine ⟨s3.trans s4, ?_, _, rfl⟩
            rw [List.take_add_one, List.all_append, ha, List.getElem?_eq_getElem hil]
            show (true && ([qs[i]].all wOk)) = true
            rw [List.all_cons, hw]
            rfl
          | false =>
            refine iteT ?_
            refine bad ?_ H4 (s3.trans s4)
            unfold wayB
            rw [Bool.and_eq_false_iff]
            refine .inr ?_
            rw [List.all_eq_false]
            exact ⟨_, List.getElem_mem hil, by rw [hw]; decide⟩
        · rintro σ H3 ⟨s3, ha, x, rfl⟩
          refine k1 ?_ H3 s3
          rw [el, List.take_length] at ha
          unfold wayB
          rw [ha, Bool.and_true, Bool.and_eq_true]
          exact ⟨decide_eq_true (by omega), decide_eq_true (by omega)⟩
      · rw [decide_eq_false h2]
        refine iteT ?_
        refine bad ?_ H Sm.refl
        unfold wayB
        rw [Bool.and_eq_false_iff, Bool.and_eq_false_iff]
        exact .inl (.inr (decide_eq_false (by omega)))
    · rw [decide_eq_false h1]
      refine iteF ?_
      refine ⟨_, rfl, iteT ?_⟩
      refine bad ?_ H Sm.refl
      unfold wayB
      rw [Bool.and_eq_false_iff, Bool.and_eq_false_iff]
      exact .inl (.inl (decide_eq_false (by omega)))
def sp_p_labour (K : PySem.W.Frag) (T : Tb) (CP : Addr) : Sp := fun vs H Q E => ∃ a us qs, vs = [.ref a] ∧ SqL K H a us ∧ DpAll K H us (qs.map amD) ∧ qs.length ≤ 1000 ∧ Ok T H ∧ (wayB qs = true → ∀ H', Sm T H H' → Q (.int (labourM qs)) H') ∧
  (wayB qs = false → ∀ cls d H', Sm T H H' → Rf K CP "bad way" cls d H' → E cls d H')
theorem ok_p_labour {f : Addr} {fd : FuncData} {c PT : Addr} (F : FunC K "labour" "labour" s_p_labour f fd c) (hnT : (T.map (·.1)).Nodup) (hPT : (PT, (none : Option Str)) ∈ T) (TB : GxR.TabB base mg c PT) (B : Bn mg) {CP : Addr} (F_p_check_way : Fx P w K mg base 4 "check_way" ["way"] (sp_p_check_way K T CP)) : FnOk P w K mg base (L2.CX P w) 5 f fd ["way"] (sp_p_labour K T CP) := by
  refine F.okX sc_p_labour (fun vs H Q E h => ?_) (fun A outer s H vs Q E hr h => ?_)
  · obtain ⟨a, us, qs, rfl, _⟩ := h
    rfl
  · obtain ⟨a, us, qs, rfl, hS, hd, hl, hok, k1, k2⟩ := h
    refine ⟨_, (pss_cons (ps_expr (pe_fx F_p_check_way (hr.mono (by decide)) (takes_of rfl rfl rfl rfl) (pa_cons (pv 0) pa_nil)))
      (pss_one (ps_ret (pe_sumP hnT hPT hr (by rfl) B.sum_ (by decide +kernel) TB rfl (gens_by (by decide +kernel)) rfl (by decide) (pv 0) (elt_mul rfl rfl rfl) (fun _ => rfl))))), ?_⟩
    refine ⟨_, rfl, a, us, qs, rfl, hS, hd, hl, hok, fun hw H1 s1 => ?_, k2⟩
    have hb := wayB_b hw
    refine ⟨_, rfl, a, qs, rfl, (pairs_of hS hd).keep s1, fun q hq => by have := hb.2.2 q hq; omega, s1.ok hok _ hPT, ⟨s1.ok hok, ?_⟩, fun H2 s2 => k1 hw H2 (s1.trans s2)⟩
    have := long_of (l := qs.map fun (q : Int × Int) => q.1 * q.2) (fun z hz => ?_) (by rw [List.length_map]; exact hb.2.1)
    · rw [List.length_map] at this
      exact this
    · obtain ⟨q, hq, rfl⟩ := List.mem_map.mp hz
      have c := hb.2.2 q hq
      exact ⟨Int.mul_nonneg (by omega) (by omega), (Int.mul_le_mul c.2.1 c.2.2.2 (by omega) (by omega) : q.1 * q.2 ≤ 9 * 9)⟩

theorem pairs_ofT {K : PySem.W.Frag} {H : Hp} {a : Addr} {vs : List V} {qs : List Am} (hS : SqT K H a vs) (hd : DpAll K H vs (qs.map amD)) : PairsT K H a qs := by
  refine ⟨vs, hS, by rw [dpa_len hd, List.length_map], fun i p e => ?_⟩
  obtain ⟨v, e1, e2⟩ := dpa_get hd (i := i) (d := amD p) (by rw [List.getElem?_map, e]; rfl)
  obtain ⟨b, rfl, hb⟩ := pd_at e2
  exact ⟨b, e1, hb⟩
def sp_p_check_way_t (K : PySem.W.Frag) (T : Tb) (CP : Addr) : Sp := fun vs H Q E => ∃ a us qs, vs = [.ref a] ∧ SqT K H a us ∧ DpAll K H us (qs.map amD) ∧ qs.length ≤ 1000 ∧ Ok T H ∧ (wayB qs = true → ∀ H', Sm T H H' → Q .non H') ∧
  (wayB qs = false → ∀ cls d H', Sm T H H' → Rf K CP "bad way" cls d H' → E cls d H')
theorem ok_p_check_way_t {f : Addr} {fd : FuncData} {u_MOST_STRETCHES : Value} (F : Fun K "check_way" "check_way" s_p_check_way_t f fd) (B : Bn mg) (C_MOST_STRETCHES : RelV (.int 6) u_MOST_STRETCHES ∧ mg "MOST_STRETCHES" = some u_MOST_STRETCHES) {CP : Addr} (R_BadWay : Err P w K mg base CP "BadWay" "bad way") (F_p_is_stretch : Fn P w K mg base 1 "is_stretch" ["thing"] (sp_p_is_stretch K T)) : FnOk P w K mg base (L2.CX P w) 4 f fd ["way"] (sp_p_check_way_t K T CP) := by
  refine F.okX sc_p_check_way_t (fun vs H Q E h => ?_) (fun cdv A outer s H vs Q E hr h => ?_)
  · obtain ⟨a, us, qs, rfl, _⟩ := h
    rfl
  · obtain ⟨a, us, qs, rfl, hS, hd, hl, hok, k1, k2⟩ := h
    obtain ⟨⟨tM, rfl⟩, gM⟩ := id C_MOST_STRETCHES
    refine ⟨_, (pss_cons (ps_if (pt_not (pt_chain op_le op_le pe_int (pe_callB call_len_seq (by rfl) B.len_ (by decide +kernel) (pa_cons (pv 0) pa_nil)) (pe_glob (by rfl) C_MOST_STRETCHES.2 C_MOST_STRETCHES.1))) (pss_one (ps_raise rfl (takes_of rfl rfl rfl rfl) (pmk_err R_BadWay (hr.mono (by decide)) (by rfl)))) pss_nil)
      (pss_one (ps_for (passes_of rfl) rfl (pi_tup (pv 0)) (pg_name (i := 1) sc_p_check_way_t.nd rfl (.inl rfl))
      (pss_one (ps_if (pt_not (pt_val (pe_fn F_p_is_stretch (hr.mono (by decide)) (pa_cons (pv 1) pa_nil)))) (pss_one (ps_raise rfl (takes_of rfl rfl rfl rfl) (pmk_err R_BadWay (hr.mono (by decide)) (by rfl)))) pss_nil))))), ?_⟩
    have el : us.length = qs.length := by rw [dpa_len hd, List.length_map]
    have bad : wayB qs = false → ∀ (H1 : Hp), Sm T H H1 → tErr K CP "bad way" [] H1 (fun cls d H' => E cls d H') := fun hb H1 s1 cls dd hn rf => k2 hb cls (some dd) _ (s1.trans (same_upd hn)) rf
    refine ⟨_, rfl, a, us, rfl, .inr hS, _, _, rfl, rfl, _, rfl, ?_⟩
    by_cases h1 : (1 : Int) ≤ (us.length : Int)
    · rw [decide_eq_true h1]
      refine iteT ?_
      refine ⟨_, _, rfl, rfl, _, rfl, ?_⟩
      by_cases h2 : (us.length : Int) ≤ 6
      · rw [decide_eq_true h2]
        refine iteF ?_
        refine ⟨_, rfl, a, rfl, ⟨_, hS⟩, for_it (walk_tup (K := K) (a := a) (xs := us)) (fun i σ H3 => Sm T H H3 ∧ (qs.take i).all wOk = true ∧ ∃ x, σ = [some (.ref a), x]) ⟨Sm.refl, by rw [List.take_zero]; rfl, _, rfl⟩ (fun i σ H3 _ ⟨s3, _⟩ => same_tup s3 hS) ?_ ?_⟩
        · rintro i v σ H2' H3 hi' ⟨s3, ha, x, rfl⟩ ⟨eH, hi⟩
          subst eH
          have hil : i < qs.length := by rw [← el]; exact (List.getElem?_eq_some_iff.mp hi).1
          obtain ⟨v', e1, e2⟩ := dpa_get hd (i := i) (d := amD qs[i]) (by rw [List.getElem?_map, List.getElem?_eq_getElem hil]; rfl)
          rw [hi] at e1
          cases e1
          obtain ⟨b, rfl, hb⟩ := pd_at e2
          refine ⟨_, rfl, b, qs[i], rfl, same_tup s3 hb, s3.ok hok, fun H4 s4 => ⟨_, rfl, ?_⟩⟩
          cases hw : wOk qs[i] with
          | true =>
            refine iteF ?_
            refine ⟨s3.trans s4, ?_, _, rfl⟩
            rw [List.take_add_one, List.all_append, ha, List.getElem?_eq_getElem hil]
            show (true && ([qs[i]].all wOk)) = true
            rw [List.all_cons, hw]
            rfl
          | false =>
            refine iteT ?_
            refine bad ?_ H4 (s3.trans s4)
            unfold wayB
            rw [Bool.and_eq_false_iff]
            refine .inr ?_
            rw [List.all_eq_false]
            exact ⟨_, List.getElem_mem hil, by rw [hw]; decide⟩
        · rintro σ H3 ⟨s3, ha, x, rfl⟩
          refine k1 ?_ H3 s3
          rw [el, List.take_length] at ha
          unfold wayB
          rw [ha, Bool.and_true, Bool.and_eq_true]
          exact ⟨decide_eq_true (by omega), decide_eq_true (by omega)⟩
      · rw [decide_eq_false h2]
        refine iteT ?_
        refine bad ?_ H Sm.refl
        unfold wayB
        rw [Bool.and_eq_false_iff, Bool.and_eq_false_iff]
        exact .inl (.inr (decide_eq_false (by omega)))
    · rw [decide_eq_false h1]
      refine iteF ?_
      refine ⟨_, rfl, iteT ?_⟩
      refine bad ?_ H Sm.refl
      unfold wayB
      rw [Bool.and_eq_false_iff, Bool.and_eq_false_iff]
      exact .inl (.inl (decide_eq_false (by omega)))
def sp_p_labour_t (K : PySem.W.Frag) (T : Tb) (CP : Addr) : Sp := fun vs H Q E => ∃ a us qs, vs = [.ref a] ∧ SqT K H a us ∧ DpAll K H us (qs.map amD) ∧ qs.length ≤ 1000 ∧ Ok T H ∧ (wayB qs = true → ∀ H', Sm T H H' → Q (.int (labourM qs)) H') ∧
  (wayB qs = false → ∀ cls d H', Sm T H H' → Rf K CP "bad way" cls d H' → E cls d H')
theorem ok_p_labour_t {f : Addr} {fd : FuncData} {c PT : Addr} (F : FunC K "labour" "labour" s_p_labour_t f fd c) (hnT : (T.map (·.1)).Nodup) (hPT : (PT, (none : Option Str)) ∈ T) (TB : GxR.TabB base mg c PT) (B : Bn mg) {CP : Addr} (F_p_check_way_t : Fx P w K mg base 4 "check_way" ["way"] (sp_p_check_way_t K T CP)) : FnOk P w K mg base (L2.CX P w) 5 f fd ["way"] (sp_p_labour_t K T CP) := by
  refine F.okX sc_p_labour_t (fun vs H Q E h => ?_) (fun A outer s H vs Q E hr h => ?_)
  · obtain ⟨a, us, qs, rfl, _⟩ := h
    rfl
  · obtain ⟨a, us, qs, rfl, hS, hd, hl, hok, k1, k2⟩ := h
    refine ⟨_, (pss_cons (ps_expr (pe_fx F_p_check_way_t (hr.mono (by decide)) (takes_of rfl rfl rfl rfl) (pa_cons (pv 0) pa_nil)))
      (pss_one (ps_ret (pe_sumPT hnT hPT hr (by rfl) B.sum_ (by decide +kernel) TB rfl (gens_by (by decide +kernel)) rfl (by decide) (pv 0) (elt_mul rfl rfl rfl) (fun _ => rfl))))), ?_⟩
    refine ⟨_, rfl, a, us, qs, rfl, hS, hd, hl, hok, fun hw H1 s1 => ?_, k2⟩
    have hb := wayB_b hw
    refine ⟨_, rfl, a, qs, rfl, (pairs_ofT hS hd).keep s1, fun q hq => by have := hb.2.2 q hq; omega, s1.ok hok _ hPT, ⟨s1.ok hok, ?_⟩, fun H2 s2 => k1 hw H2 (s1.trans s2)⟩
    have := long_of (l := qs.map fun (q : Int × Int) => q.1 * q.2) (fun z hz => ?_) (by rw [List.length_map]; exact hb.2.1)
    · rw [List.length_map] at this
      exact this
    · obtain ⟨q, hq, rfl⟩ := List.mem_map.mp hz
      have c := hb.2.2 q hq
      exact ⟨Int.mul_nonneg (by omega) (by omega), (Int.mul_le_mul c.2.1 c.2.2.2 (by omega) (by omega) : q.1 * q.2 ≤ 9 * 9)⟩

def newS (L : Int) (qs : List Am) : Ch := { fire := L, way := qs, now := 0, row := [], loads := [], spots := [], tempos := [], leaving := [], ledgers := [], marks := [], poured := [] }

def sp_init (sq : PySem.W.Frag → Hp → Addr → List V → Prop) (K : PySem.W.Frag) (T : Tb) (CP CC : Addr) : Sp := fun vs H Q E => ∃ (H0 : Hp) (c dx a : Addr) (us : List V) (qs : List Am), vs = [.ref c, .ref a] ∧ H = upd (upd H0 dx (.own c)) c (.ins CC dx []) ∧ H0 c = none ∧ H0 dx = none ∧ dx ≠ c ∧ sq K H0 a us ∧ DpAll K H0 us (qs.map amD) ∧ qs.length ≤ 1000 ∧ Ok T H0 ∧
  (wayB qs = true → ∀ H' A, Sm T H0 H' → ChAt K CC H' c A (newS (labourM qs) qs) → (∀ x ∈ ownC c A, H0 x = none) → Q .non H') ∧ (wayB qs = false → ∀ cls d H', Sm T H0 H' → Rf K CP "bad way" cls d H' → E cls d H')
abbrev sp_p_Chain___init__ : PySem.W.Frag → Tb → Addr → Addr → Sp := sp_init SqL
abbrev sp_p_Chain___init___t : PySem.W.Frag → Tb → Addr → Addr → Sp := sp_init SqT
/-- an instance that is being made -/
structure Mkg (T : Tb) (CC : Addr) (H0 H : Hp) (c dx : Addr) (fs : List (Str × V)) (L : List (Addr × HO)) : Prop where
  sm : Sm T H0 H
  ins : H c = some (.ins CC dx fs)
  own : H dx = some (.own c)
  at_ : ∀ x ∈ L, H x.1 = some x.2 ∧ H0 x.1 = none
  nd : (c :: L.map (·.1)).Nodup
theorem Mkg.val {T : Tb} {CC : Addr} {H0 H : Hp} {c dx : Addr} {fs : List (Str × V)} {L : List (Addr × HO)} (m : Mkg T CC H0 H c dx fs L) (nc : H0 c = none) (hd : dx ≠ c) (f : Str) (y : V) : Mkg T CC H0 (upd H c (.ins CC dx (putF f y fs))) c dx (putF f y fs) L := by
  refine ⟨⟨fun b o e n => ?_, fun hk q hq' => okP_mut2 (m.sm.ok hk q hq') m.ins rfl, fun l hl => ?_⟩, upd_same, by rw [upd_ne hd]; exact m.own, fun x hx => ?_, m.nd⟩
  · rw [upd_ne (fun z => by rw [z, nc] at e; cases e)]
    exact m.sm.keep b o e n
  · by_cases z : l = c
    · rw [z]; exact nc
    · rw [upd_ne z] at hl; exact m.sm.free l hl
  · have h := m.at_ x hx
    have hn : x.1 ≠ c := fun z => (List.nodup_cons.mp m.nd).1 (by rw [← z]; exact List.mem_map.mpr ⟨x, hx, rfl⟩)
    rw [upd_ne hn]
    exact h
theorem Mkg.sm' {T : Tb} {CC : Addr} {H0 H H' : Hp} {c dx : Addr} {fs : List (Str × V)} {L : List (Addr × HO)} (m : Mkg T CC H0 H c dx fs L) (s : Sm T H H') (hL : ∀ x ∈ L, nTbl x.2) : Mkg T CC H0 H' c dx fs L :=
  ⟨m.sm.trans s, s.k m.ins, s.k m.own, fun x hx => ⟨s.keep _ _ (m.at_ x hx).1 (hL x hx), (m.at_ x hx).2⟩, m.nd⟩
theorem Mkg.new {T : Tb} {CC : Addr} {H0 H : Hp} {c dx : Addr} {fs : List (Str × V)} {L : List (Addr × HO)} (m : Mkg T CC H0 H c dx fs L) (nc : H0 c = none) (hd : dx ≠ c) (f : Str) {p : Addr} {o : HO} (np : H p = none) (hL : ∀ x ∈ L, nTbl x.2) :
    Mkg T CC H0 (upd (upd H p o) c (.ins CC dx (putF f (.ref p) fs))) c dx (putF f (.ref p) fs) ((p, o) :: L) := by
  have u := same_upd (T := T) (o := o) np
  have m1 := m.sm' u hL
  have m2 : Mkg T CC H0 (upd H p o) c dx fs ((p, o) :: L) := by
    refine ⟨m1.sm, m1.ins, m1.own, fun x hx => ?_, ?_⟩
    · rcases List.mem_cons.mp hx with z | z
      · rw [z]; exact ⟨upd_same, m.sm.free _ np⟩
      · exact m1.at_ x z
    · rw [List.map_cons]
      have hpc : p ≠ c := fun z => by rw [z, m.ins] at np; cases np
      have hpL : p ∉ L.map (·.1) := fun z => by
        obtain ⟨x, hx, e⟩ := List.mem_map.mp z
        have := (m.at_ x hx).1
        rw [e, np] at this
        cases this
      have nd := List.nodup_cons.mp m.nd
      exact List.nodup_cons.mpr ⟨fun z => (List.mem_cons.mp z).elim (fun e => hpc e.symm) nd.1, List.nodup_cons.mpr ⟨hpL, nd.2⟩⟩
  exact m2.val nc hd f (.ref p)
theorem nt1 {L : List (Addr × HO)} (h : L.all (fun x => mutO x.2) = true) : ∀ x ∈ L, nTbl x.2 := fun x hx => by
  have := List.all_eq_true.mp h x hx
  cases e : x.2 <;> rw [e] at this <;> first | trivial | cases this
theorem nd_perm {l l' : List Addr} (h : l.Nodup) (p : l.Perm l') : l'.Nodup := p.nodup_iff.mp h
theorem ok_p_Chain___init__ {f : Addr} {fd : FuncData} {a_NOUGHT : Addr} (F : Fun K "__init__" "Chain.__init__" s_p_Chain___init__ f fd) (B : Bn mg) (g_NOUGHT : mg "NOUGHT" = some (.ref a_NOUGHT)) (s_NOUGHT : ∀ H, SqT K H a_NOUGHT [.int 0, .int 1]) {CP : Addr} {CC : Addr} (TC : Kl K CC) (F_p_labour : Fx P w K mg base 5 "labour" ["way"] (sp_p_labour K T CP)) : FnOk P w K mg base (L2.CX P w) 6 f fd ["self", "way"] (sp_p_Chain___init__ K T CP CC) := by
  refine F.okX sc_p_Chain___init__ (fun vs H Q E h => ?_) (fun cdv A outer s H vs Q E hr h => ?_)
  · obtain ⟨H0, c, dx, a, us, qs, rfl, _⟩ := h
    rfl
  · obtain ⟨H0, c, dx, a, us, qs, rfl, rfl, nc, nd, ncd, ha, hd, hq, hok, k1, k2⟩ := h
    refine ⟨_, (pss_cons (ps_fc TC.cl (TC.no "fire" (by decide +kernel)) (pv 0) (pe_fx F_p_labour (hr.mono (by decide)) (takes_of rfl rfl rfl rfl) (pa_cons (pv 1) pa_nil)))
      (pss_cons (ps_fc TC.cl (TC.no "stretches" (by decide +kernel)) (pv 0) (pe_callTy call_tuple_of (by rfl) B.tuple_ (by decide +kernel) (pa_cons (pv 1) pa_nil)))
      (pss_cons (ps_fc TC.cl (TC.no "now" (by decide +kernel)) (pv 0) (pe_glob (v := .ref a_NOUGHT) (by rfl) g_NOUGHT rfl))
      (pss_cons (ps_fc TC.cl (TC.no "row" (by decide +kernel)) (pv 0) (pe_lst pa_nil))
      (pss_cons (ps_fc TC.cl (TC.no "loads" (by decide +kernel)) (pv 0) (pe_lst pa_nil))
      (pss_cons (ps_fc TC.cl (TC.no "spots" (by decide +kernel)) (pv 0) (pe_lst pa_nil))
      (pss_cons (ps_fc TC.cl (TC.no "tempos" (by decide +kernel)) (pv 0) pe_dnewK)
      (pss_cons (ps_fc TC.cl (TC.no "leaving" (by decide +kernel)) (pv 0) (pe_lst pa_nil))
      (pss_cons (ps_fc TC.cl (TC.no "ledgers" (by decide +kernel)) (pv 0) pe_dnewK)
      (pss_cons (ps_fc TC.cl (TC.no "marks" (by decide +kernel)) (pv 0) (pe_lst pa_nil))
      (pss_one (ps_fc TC.cl (TC.no "poured" (by decide +kernel)) (pv 0) (pe_lst pa_nil))))))))))))), ?_⟩
    have v1 := same_upd (T := T) (o := .own c) nd
    have nc1 : upd H0 dx (.own c) c = none := by rw [upd_ne (Ne.symm ncd)]; exact nc
    have v2 := same_upd (T := T) (o := .ins CC dx []) nc1
    have s00 := v1.trans v2
    refine ⟨_, rfl, a, us, qs, rfl, Sm.seq s00 ha, dpa_same s00 _ _ hd, hq, s00.ok hok, fun hw H1 s1 => ?_, fun hw cls d H' s' rf => k2 hw cls d H' (s00.trans s') rf⟩
    have m0 : Mkg T CC H0 H1 c dx [] [] := ⟨s00.trans s1, s1.k (b := c) (o := .ins CC dx []) upd_same, (v2.trans s1).k (b := dx) (o := .own c) upd_same, (fun _ h => nomatch h), by simp⟩
    refine ⟨_, rfl, c, _, _, rfl, m0.ins, by show 0 < 1000; decide, ?_⟩
    have m1 := m0.val nc ncd "fire" (.int (labourM qs))
    generalize upd H1 c (.ins CC dx (putF "fire" (.int (labourM qs)) [])) = H2 at *
    refine ⟨_, rfl, a, us, rfl, .inl ⟨m1.sm.seq ha, fun pst nst => ?_⟩⟩
    have u2 := same_upd (T := T) (o := .tup us) nst
    have m2 := m1.sm' u2 (fun _ h => nomatch h)
    refine ⟨_, rfl, c, _, _, rfl, m2.ins, by show 1 < 1000; decide, ?_⟩
    have hst : SqT K (upd H2 pst (.tup us)) pst us := SqT.of upd_same
    have m3 := m2.val nc ncd "stretches" (.ref pst)
    have x3 : Sx [] [c] (upd H2 pst (.tup us)) _ := sx_upd (o := .ins CC dx (putF "stretches" (.ref pst) (putF "fire" (.int (labourM qs)) []))) m2.ins rfl List.mem_cons_self
    have hst3 := x3.tup hst
    generalize upd (upd H2 pst (.tup us)) c (.ins CC dx (putF "stretches" (.ref pst) (putF "fire" (.int (labourM qs)) []))) = H3 at *
    refine ⟨_, rfl, c, _, _, rfl, m3.ins, by show 2 < 1000; decide, ?_⟩
    have m4 := m3.val nc ncd "now" (.ref a_NOUGHT)
    have x4 : Sx [] [c] H3 _ := sx_upd (o := .ins CC dx (putF "now" (.ref a_NOUGHT) (putF "stretches" (.ref pst) (putF "fire" (.int (labourM qs)) [])))) m3.ins rfl List.mem_cons_self
    have hst4 := x4.tup hst3
    generalize upd H3 c (.ins CC dx (putF "now" (.ref a_NOUGHT) (putF "stretches" (.ref pst) (putF "fire" (.int (labourM qs)) [])))) = H4 at *
    refine ⟨Nat.zero_le _, fun prw nprw => ?_⟩
    have u4 := same_upd (T := T) (o := .lst []) nprw
    have w4 := m4.sm' u4 (nt1 rfl)
    refine ⟨_, rfl, c, _, _, rfl, w4.ins, by show 3 < 1000; decide, ?_⟩
    have m5 := m4.new nc ncd "row" (o := .lst []) nprw (nt1 rfl)
    have hst5 := (sx_upd (T := []) (S := [c]) (o := .ins CC dx (putF "row" (.ref prw) (putF "now" (.ref a_NOUGHT) (putF "stretches" (.ref pst) (putF "fire" (.int (labourM qs)) []))))) w4.ins rfl List.mem_cons_self).tup (same_tup u4 hst4)
    generalize upd (upd H4 prw (.lst [])) c (.ins CC dx (putF "row" (.ref prw) (putF "now" (.ref a_NOUGHT) (putF "stretches" (.ref pst) (putF "fire" (.int (labourM qs)) []))))) = H5 at *
    clear u4 w4
    refine ⟨Nat.zero_le _, fun pld npld => ?_⟩
    have u5 := same_upd (T := T) (o := .lst []) npld
    have w5 := m5.sm' u5 (nt1 rfl)
    refine ⟨_, rfl, c, _, _, rfl, w5.ins, by show 4 < 1000; decide, ?_⟩
    have m6 := m5.new nc ncd "loads" (o := .lst []) npld (nt1 rfl)
    have hst6 := (sx_upd (T := []) (S := [c]) (o := .ins CC dx (putF "loads" (.ref pld) (putF "row" (.ref prw) (putF "now" (.ref a_NOUGHT) (putF "stretches" (.ref pst) (putF "fire" (.int (labourM qs)) [])))))) w5.ins rfl List.mem_cons_self).tup (same_tup u5 hst5)
    generalize upd (upd H5 pld (.lst [])) c (.ins CC dx (putF "loads" (.ref pld) (putF "row" (.ref prw) (putF "now" (.ref a_NOUGHT) (putF "stretches" (.ref pst) (putF "fire" (.int (labourM qs)) [])))))) = H6 at *
    clear u5 w5
    refine ⟨Nat.zero_le _, fun psp npsp => ?_⟩
    have u6 := same_upd (T := T) (o := .lst []) npsp
    have w6 := m6.sm' u6 (nt1 rfl)
    refine ⟨_, rfl, c, _, _, rfl, w6.ins, by show 5 < 1000; decide, ?_⟩
    have m7 := m6.new nc ncd "spots" (o := .lst []) npsp (nt1 rfl)
    have hst7 := (sx_upd (T := []) (S := [c]) (o := .ins CC dx (putF "spots" (.ref psp) (putF "loads" (.ref pld) (putF "row" (.ref prw) (putF "now" (.ref a_NOUGHT) (putF "stretches" (.ref pst) (putF "fire" (.int (labourM qs)) []))))))) w6.ins rfl List.mem_cons_self).tup (same_tup u6 hst6)
    generalize upd (upd H6 psp (.lst [])) c (.ins CC dx (putF "spots" (.ref psp) (putF "loads" (.ref pld) (putF "row" (.ref prw) (putF "now" (.ref a_NOUGHT) (putF "stretches" (.ref pst) (putF "fire" (.int (labourM qs)) []))))))) = H7 at *
    clear u6 w6
    intro ptm nptm
    have u7 := same_upd (T := T) (o := .dK []) nptm
    have w7 := m7.sm' u7 (nt1 rfl)
    refine ⟨_, rfl, c, _, _, rfl, w7.ins, by show 6 < 1000; decide, ?_⟩
    have m8 := m7.new nc ncd "tempos" (o := .dK []) nptm (nt1 rfl)
    have hst8 := (sx_upd (T := []) (S := [c]) (o := .ins CC dx (putF "tempos" (.ref ptm) (putF "spots" (.ref psp) (putF "loads" (.ref pld) (putF "row" (.ref prw) (putF "now" (.ref a_NOUGHT) (putF "stretches" (.ref pst) (putF "fire" (.int (labourM qs)) [])))))))) w7.ins rfl List.mem_cons_self).tup (same_tup u7 hst7)
    generalize upd (upd H7 ptm (.dK [])) c (.ins CC dx (putF "tempos" (.ref ptm) (putF "spots" (.ref psp) (putF "loads" (.ref pld) (putF "row" (.ref prw) (putF "now" (.ref a_NOUGHT) (putF "stretches" (.ref pst) (putF "fire" (.int (labourM qs)) [])))))))) = H8 at *
    clear u7 w7
    refine ⟨Nat.zero_le _, fun plv nplv => ?_⟩
    have u8 := same_upd (T := T) (o := .lst []) nplv
    have w8 := m8.sm' u8 (nt1 rfl)
    refine ⟨_, rfl, c, _, _, rfl, w8.ins, by show 7 < 1000; decide, ?_⟩
    have m9 := m8.new nc ncd "leaving" (o := .lst []) nplv (nt1 rfl)
    have hst9 := (sx_upd (T := []) (S := [c]) (o := .ins CC dx (putF "leaving" (.ref plv) (putF "tempos" (.ref ptm) (putF "spots" (.ref psp) (putF "loads" (.ref pld) (putF "row" (.ref prw) (putF "now" (.ref a_NOUGHT) (putF "stretches" (.ref pst) (putF "fire" (.int (labourM qs)) []))))))))) w8.ins rfl List.mem_cons_self).tup (same_tup u8 hst8)
    generalize upd (upd H8 plv (.lst [])) c (.ins CC dx (putF "leaving" (.ref plv) (putF "tempos" (.ref ptm) (putF "spots" (.ref psp) (putF "loads" (.ref pld) (putF "row" (.ref prw) (putF "now" (.ref a_NOUGHT) (putF "stretches" (.ref pst) (putF "fire" (.int (labourM qs)) []))))))))) = H9 at *
    clear u8 w8
    intro plg nplg
    have u9 := same_upd (T := T) (o := .dK []) nplg
    have w9 := m9.sm' u9 (nt1 rfl)
    refine ⟨_, rfl, c, _, _, rfl, w9.ins, by show 8 < 1000; decide, ?_⟩
    have m10 := m9.new nc ncd "ledgers" (o := .dK []) nplg (nt1 rfl)
    have hst10 := (sx_upd (T := []) (S := [c]) (o := .ins CC dx (putF "ledgers" (.ref plg) (putF "leaving" (.ref plv) (putF "tempos" (.ref ptm) (putF "spots" (.ref psp) (putF "loads" (.ref pld) (putF "row" (.ref prw) (putF "now" (.ref a_NOUGHT) (putF "stretches" (.ref pst) (putF "fire" (.int (labourM qs)) [])))))))))) w9.ins rfl List.mem_cons_self).tup (same_tup u9 hst9)
    generalize upd (upd H9 plg (.dK [])) c (.ins CC dx (putF "ledgers" (.ref plg) (putF "leaving" (.ref plv) (putF "tempos" (.ref ptm) (putF "spots" (.ref psp) (putF "loads" (.ref pld) (putF "row" (.ref prw) (putF "now" (.ref a_NOUGHT) (putF "stretches" (.ref pst) (putF "fire" (.int (labourM qs)) [])))))))))) = H10 at *
    clear u9 w9
    refine ⟨Nat.zero_le _, fun pmr npmr => ?_⟩
    have u10 := same_upd (T := T) (o := .lst []) npmr
    have w10 := m10.sm' u10 (nt1 rfl)
    refine ⟨_, rfl, c, _, _, rfl, w10.ins, by show 9 < 1000; decide, ?_⟩
    have m11 := m10.new nc ncd "marks" (o := .lst []) npmr (nt1 rfl)
    have hst11 := (sx_upd (T := []) (S := [c]) (o := .ins CC dx (putF "marks" (.ref pmr) (putF "ledgers" (.ref plg) (putF "leaving" (.ref plv) (putF "tempos" (.ref ptm) (putF "spots" (.ref psp) (putF "loads" (.ref pld) (putF "row" (.ref prw) (putF "now" (.ref a_NOUGHT) (putF "stretches" (.ref pst) (putF "fire" (.int (labourM qs)) []))))))))))) w10.ins rfl List.mem_cons_self).tup (same_tup u10 hst10)
    generalize upd (upd H10 pmr (.lst [])) c (.ins CC dx (putF "marks" (.ref pmr) (putF "ledgers" (.ref plg) (putF "leaving" (.ref plv) (putF "tempos" (.ref ptm) (putF "spots" (.ref psp) (putF "loads" (.ref pld) (putF "row" (.ref prw) (putF "now" (.ref a_NOUGHT) (putF "stretches" (.ref pst) (putF "fire" (.int (labourM qs)) []))))))))))) = H11 at *
    clear u10 w10
    refine ⟨Nat.zero_le _, fun ppr nppr => ?_⟩
    have u11 := same_upd (T := T) (o := .lst []) nppr
    have w11 := m11.sm' u11 (nt1 rfl)
    refine ⟨_, rfl, c, _, _, rfl, w11.ins, by show 10 < 1000; decide, ?_⟩
    have m12 := m11.new nc ncd "poured" (o := .lst []) nppr (nt1 rfl)
    have hst12 := (sx_upd (T := []) (S := [c]) (o := .ins CC dx (putF "poured" (.ref ppr) (putF "marks" (.ref pmr) (putF "ledgers" (.ref plg) (putF "leaving" (.ref plv) (putF "tempos" (.ref ptm) (putF "spots" (.ref psp) (putF "loads" (.ref pld) (putF "row" (.ref prw) (putF "now" (.ref a_NOUGHT) (putF "stretches" (.ref pst) (putF "fire" (.int (labourM qs)) [])))))))))))) w11.ins rfl List.mem_cons_self).tup (same_tup u11 hst11)
    generalize upd (upd H11 ppr (.lst [])) c (.ins CC dx (putF "poured" (.ref ppr) (putF "marks" (.ref pmr) (putF "ledgers" (.ref plg) (putF "leaving" (.ref plv) (putF "tempos" (.ref ptm) (putF "spots" (.ref psp) (putF "loads" (.ref pld) (putF "row" (.ref prw) (putF "now" (.ref a_NOUGHT) (putF "stretches" (.ref pst) (putF "fire" (.int (labourM qs)) [])))))))))))) = H12 at *
    clear u11 w11
    have at_ := m12.at_
    refine k1 hw H12 { dx := dx, st := pst, nw := a_NOUGHT, rw := prw, ld := pld, sp := psp, tm := ptm, lv := plv, lg := plg, mr := pmr, pr := ppr } m12.sm ⟨m12.ins, m12.own, ⟨us, hst12, dpa_same m12.sm _ _ hd⟩, by show SqT K _ _ (tv (am 0)); rw [am_zero]; exact s_NOUGHT _, (at_ (prw, .lst []) (by simp)).1, (at_ (pld, .lst []) (by simp)).1, ⟨[], (at_ (psp, .lst []) (by simp)).1, .nil⟩, (at_ (ptm, .dK []) (by simp)).1, (at_ (plv, .lst []) (by simp)).1, ⟨[], (at_ (plg, .dK []) (by simp)).1, rfl, .nil⟩, ⟨[], (at_ (pmr, .lst []) (by simp)).1, .nil⟩, (at_ (ppr, .lst []) (by simp)).1, ?_⟩ (fun x hx => ?_)
    · have nd9 := m12.nd
      have e : ([c, ppr, pmr, plg, plv, ptm, psp, pld, prw] : List Addr).Perm [c, prw, pld, psp, ptm, plv, plg, pmr, ppr] := .cons c (List.reverse_perm _).symm
      exact nd_perm nd9 e
    · simp only [ownC, List.mem_cons, List.not_mem_nil, or_false] at hx
      rcases hx with rfl | rfl | rfl | rfl | rfl | rfl | rfl | rfl | rfl
      · exact nc
      · exact (at_ (x, .lst []) (by simp)).2
      · exact (at_ (x, .lst []) (by simp)).2
      · exact (at_ (x, .lst []) (by simp)).2
      · exact (at_ (x, .dK []) (by simp)).2
      · exact (at_ (x, .lst []) (by simp)).2
      · exact (at_ (x, .dK []) (by simp)).2
      · exact (at_ (x, .lst []) (by simp)).2
      · exact (at_ (x, .lst []) (by simp)).2
theorem ok_p_Chain___init___t {f : Addr} {fd : FuncData} {a_NOUGHT : Addr} (F : Fun K "__init__" "Chain.__init__" s_p_Chain___init___t f fd) (B : Bn mg) (g_NOUGHT : mg "NOUGHT" = some (.ref a_NOUGHT)) (s_NOUGHT : ∀ H, SqT K H a_NOUGHT [.int 0, .int 1]) {CP : Addr} {CC : Addr} (TC : Kl K CC) (F_p_labour_t : Fx P w K mg base 5 "labour" ["way"] (sp_p_labour_t K T CP)) : FnOk P w K mg base (L2.CX P w) 6 f fd ["self", "way"] (sp_p_Chain___init___t K T CP CC) := by
  refine F.okX sc_p_Chain___init___t (fun vs H Q E h => ?_) (fun cdv A outer s H vs Q E hr h => ?_)
  · obtain ⟨H0, c, dx, a, us, qs, rfl, _⟩ := h
    rfl
  · obtain ⟨H0, c, dx, a, us, qs, rfl, rfl, nc, nd, ncd, ha, hd, hq, hok, k1, k2⟩ := h
    refine ⟨_, (pss_cons (ps_fc TC.cl (TC.no "fire" (by decide +kernel)) (pv 0) (pe_fx F_p_labour_t (hr.mono (by decide)) (takes_of rfl rfl rfl rfl) (pa_cons (pv 1) pa_nil)))
      (pss_cons (ps_fc TC.cl (TC.no "stretches" (by decide +kernel)) (pv 0) (pe_callTy call_tuple_of (by rfl) B.tuple_ (by decide +kernel) (pa_cons (pv 1) pa_nil)))
      (pss_cons (ps_fc TC.cl (TC.no "now" (by decide +kernel)) (pv 0) (pe_glob (v := .ref a_NOUGHT) (by rfl) g_NOUGHT rfl))
      (pss_cons (ps_fc TC.cl (TC.no "row" (by decide +kernel)) (pv 0) (pe_lst pa_nil))
      (pss_cons (ps_fc TC.cl (TC.no "loads" (by decide +kernel)) (pv 0) (pe_lst pa_nil))
      (pss_cons (ps_fc TC.cl (TC.no "spots" (by decide +kernel)) (pv 0) (pe_lst pa_nil))
      (pss_cons (ps_fc TC.cl (TC.no "tempos" (by decide +kernel)) (pv 0) pe_dnewK)
      (pss_cons (ps_fc TC.cl (TC.no "leaving" (by decide +kernel)) (pv 0) (pe_lst pa_nil))
      (pss_cons (ps_fc TC.cl (TC.no "ledgers" (by decide +kernel)) (pv 0) pe_dnewK)
      (pss_cons (ps_fc TC.cl (TC.no "marks" (by decide +kernel)) (pv 0) (pe_lst pa_nil))
      (pss_one (ps_fc TC.cl (TC.no "poured" (by decide +kernel)) (pv 0) (pe_lst pa_nil))))))))))))), ?_⟩
    have v1 := same_upd (T := T) (o := .own c) nd
    have nc1 : upd H0 dx (.own c) c = none := by rw [upd_ne (Ne.symm ncd)]; exact nc
    have v2 := same_upd (T := T) (o := .ins CC dx []) nc1
    have s00 := v1.trans v2
    refine ⟨_, rfl, a, us, qs, rfl, same_tup s00 ha, dpa_same s00 _ _ hd, hq, s00.ok hok, fun hw H1 s1 => ?_, fun hw cls d H' s' rf => k2 hw cls d H' (s00.trans s') rf⟩
    have m0 : Mkg T CC H0 H1 c dx [] [] := ⟨s00.trans s1, s1.k (b := c) (o := .ins CC dx []) upd_same, (v2.trans s1).k (b := dx) (o := .own c) upd_same, (fun _ h => nomatch h), by simp⟩
    refine ⟨_, rfl, c, _, _, rfl, m0.ins, by show 0 < 1000; decide, ?_⟩
    have m1 := m0.val nc ncd "fire" (.int (labourM qs))
    generalize upd H1 c (.ins CC dx (putF "fire" (.int (labourM qs)) [])) = H2 at *
    have hst := same_tup m1.sm ha
    refine ⟨_, rfl, a, us, rfl, .inr ⟨hst, ?_⟩⟩
    obtain ⟨pst, rfl⟩ : ∃ pst, pst = a := ⟨a, rfl⟩
    refine ⟨_, rfl, c, _, _, rfl, m1.ins, by show 1 < 1000; decide, ?_⟩
    have m3 := m1.val nc ncd "stretches" (.ref pst)
    have x3 : Sx [] [c] H2 _ := sx_upd (o := .ins CC dx (putF "stretches" (.ref pst) (putF "fire" (.int (labourM qs)) []))) m1.ins rfl List.mem_cons_self
    have hst3 := x3.tup hst
    generalize upd H2 c (.ins CC dx (putF "stretches" (.ref pst) (putF "fire" (.int (labourM qs)) []))) = H3 at *
    refine ⟨_, rfl, c, _, _, rfl, m3.ins, by show 2 < 1000; decide, ?_⟩
    have m4 := m3.val nc ncd "now" (.ref a_NOUGHT)
    have x4 : Sx [] [c] H3 _ := sx_upd (o := .ins CC dx (putF "now" (.ref a_NOUGHT) (putF "stretches" (.ref pst) (putF "fire" (.int (labourM qs)) [])))) m3.ins rfl List.mem_cons_self
    have hst4 := x4.tup hst3
    generalize upd H3 c (.ins CC dx (putF "now" (.ref a_NOUGHT) (putF "stretches" (.ref pst) (putF "fire" (.int (labourM qs)) [])))) = H4 at *
    refine ⟨Nat.zero_le _, fun prw nprw => ?_⟩
    have u4 := same_upd (T := T) (o := .lst []) nprw
    have w4 := m4.sm' u4 (nt1 rfl)
    refine ⟨_, rfl, c, _, _, rfl, w4.ins, by show 3 < 1000; decide, ?_⟩
    have m5 := m4.new nc ncd "row" (o := .lst []) nprw (nt1 rfl)
    have hst5 := (sx_upd (T := []) (S := [c]) (o := .ins CC dx (putF "row" (.ref prw) (putF "now" (.ref a_NOUGHT) (putF "stretches" (.ref pst) (putF "fire" (.int (labourM qs)) []))))) w4.ins rfl List.mem_cons_self).tup (same_tup u4 hst4)
    generalize upd (upd H4 prw (.lst [])) c (.ins CC dx (putF "row" (.ref prw) (putF "now" (.ref a_NOUGHT) (putF "stretches" (.ref pst) (putF "fire" (.int (labourM qs)) []))))) = H5 at *
    clear u4 w4
    refine ⟨Nat.zero_le _, fun pld npld => ?_⟩
    have u5 := same_upd (T := T) (o := .lst []) npld
    have w5 := m5.sm' u5 (nt1 rfl)
    refine ⟨_, rfl, c, _, _, rfl, w5.ins, by show 4 < 1000; decide, ?_⟩
    have m6 := m5.new nc ncd "loads" (o := .lst []) npld (nt1 rfl)
    have hst6 := (sx_upd (T := []) (S := [c]) (o := .ins CC dx (putF "loads" (.ref pld) (putF "row" (.ref prw) (putF "now" (.ref a_NOUGHT) (putF "stretches" (.ref pst) (putF "fire" (.int (labourM qs)) [])))))) w5.ins rfl List.mem_cons_self).tup (same_tup u5 hst5)
    generalize upd (upd H5 pld (.lst [])) c (.ins CC dx (putF "loads" (.ref pld) (putF "row" (.ref prw) (putF "now" (.ref a_NOUGHT) (putF "stretches" (.ref pst) (putF "fire" (.int (labourM qs)) [])))))) = H6 at *
    clear u5 w5
    refine ⟨Nat.zero_le _, fun psp npsp => ?_⟩
    have u6 := same_upd (T := T) (o := .lst []) npsp
    have w6 := m6.sm' u6 (nt1 rfl)
    refine ⟨_, rfl, c, _, _, rfl, w6.ins, by show 5 < 1000; decide, ?_⟩
    have m7 := m6.new nc ncd "spots" (o := .lst []) npsp (nt1 rfl)
    have hst7 := (sx_upd (T := []) (S := [c]) (o := .ins CC dx (putF "spots" (.ref psp) (putF "loads" (.ref pld) (putF "row" (.ref prw) (putF "now" (.ref a_NOUGHT) (putF "stretches" (.ref pst) (putF "fire" (.int (labourM qs)) []))))))) w6.ins rfl List.mem_cons_self).tup (same_tup u6 hst6)
    generalize upd (upd H6 psp (.lst [])) c (.ins CC dx (putF "spots" (.ref psp) (putF "loads" (.ref pld) (putF "row" (.ref prw) (putF "now" (.ref a_NOUGHT) (putF "stretches" (.ref pst) (putF "fire" (.int (labourM qs)) []))))))) = H7 at *
    clear u6 w6
    intro ptm nptm
    have u7 := same_upd (T := T) (o := .dK []) nptm
    have w7 := m7.sm' u7 (nt1 rfl)
    refine ⟨_, rfl, c, _, _, rfl, w7.ins, by show 6 < 1000; decide, ?_⟩
    have m8 := m7.new nc ncd "tempos" (o := .dK []) nptm (nt1 rfl)
    have hst8 := (sx_upd (T := []) (S := [c]) (o := .ins CC dx (putF "tempos" (.ref ptm) (putF "spots" (.ref psp) (putF "loads" (.ref pld) (putF "row" (.ref prw) (putF "now" (.ref a_NOUGHT) (putF "stretches" (.ref pst) (putF "fire" (.int (labourM qs)) [])))))))) w7.ins rfl List.mem_cons_self).tup (same_tup u7 hst7)
    generalize upd (upd H7 ptm (.dK [])) c (.ins CC dx (putF "tempos" (.ref ptm) (putF "spots" (.ref psp) (putF "loads" (.ref pld) (putF "row" (.ref prw) (putF "now" (.ref a_NOUGHT) (putF "stretches" (.ref pst) (putF "fire" (.int (labourM qs)) [])))))))) = H8 at *
    clear u7 w7
    refine ⟨Nat.zero_le _, fun plv nplv => ?_⟩
    have u8 := same_upd (T := T) (o := .lst []) nplv
    have w8 := m8.sm' u8 (nt1 rfl)
    refine ⟨_, rfl, c, _, _, rfl, w8.ins, by show 7 < 1000; decide, ?_⟩
    have m9 := m8.new nc ncd "leaving" (o := .lst []) nplv (nt1 rfl)
    have hst9 := (sx_upd (T := []) (S := [c]) (o := .ins CC dx (putF "leaving" (.ref plv) (putF "tempos" (.ref ptm) (putF "spots" (.ref psp) (putF "loads" (.ref pld) (putF "row" (.ref prw) (putF "now" (.ref a_NOUGHT) (putF "stretches" (.ref pst) (putF "fire" (.int (labourM qs)) []))))))))) w8.ins rfl List.mem_cons_self).tup (same_tup u8 hst8)
    generalize upd (upd H8 plv (.lst [])) c (.ins CC dx (putF "leaving" (.ref plv) (putF "tempos" (.ref ptm) (putF "spots" (.ref psp) (putF "loads" (.ref pld) (putF "row" (.ref prw) (putF "now" (.ref a_NOUGHT) (putF "stretches" (.ref pst) (putF "fire" (.int (labourM qs)) []))))))))) = H9 at *
    clear u8 w8
    intro plg nplg
    have u9 := same_upd (T := T) (o := .dK []) nplg
    have w9 := m9.sm' u9 (nt1 rfl)
    refine ⟨_, rfl, c, _, _, rfl, w9.ins, by show 8 < 1000; decide, ?_⟩
    have m10 := m9.new nc ncd "ledgers" (o := .dK []) nplg (nt1 rfl)
    have hst10 := (sx_upd (T := []) (S := [c]) (o := .ins CC dx (putF "ledgers" (.ref plg) (putF "leaving" (.ref plv) (putF "tempos" (.ref ptm) (putF "spots" (.ref psp) (putF "loads" (.ref pld) (putF "row" (.ref prw) (putF "now" (.ref a_NOUGHT) (putF "stretches" (.ref pst) (putF "fire" (.int (labourM qs)) [])))))))))) w9.ins rfl List.mem_cons_self).tup (same_tup u9 hst9)
    generalize upd (upd H9 plg (.dK [])) c (.ins CC dx (putF "ledgers" (.ref plg) (putF "leaving" (.ref plv) (putF "tempos" (.ref ptm) (putF "spots" (.ref psp) (putF "loads" (.ref pld) (putF "row" (.ref prw) (putF "now" (.ref a_NOUGHT) (putF "stretches" (.ref pst) (putF "fire" (.int (labourM qs)) [])))))))))) = H10 at *
    clear u9 w9
    refine ⟨Nat.zero_le _, fun pmr npmr => ?_⟩
    have u10 := same_upd (T := T) (o := .lst []) npmr
    have w10 := m10.sm' u10 (nt1 rfl)
    refine ⟨_, rfl, c, _, _, rfl, w10.ins, by show 9 < 1000; decide, ?_⟩
    have m11 := m10.new nc ncd "marks" (o := .lst []) npmr (nt1 rfl)
    have hst11 := (sx_upd (T := []) (S := [c]) (o := .ins CC dx (putF "marks" (.ref pmr) (putF "ledgers" (.ref plg) (putF "leaving" (.ref plv) (putF "tempos" (.ref ptm) (putF "spots" (.ref psp) (putF "loads" (.ref pld) (putF "row" (.ref prw) (putF "now" (.ref a_NOUGHT) (putF "stretches" (.ref pst) (putF "fire" (.int (labourM qs)) []))))))))))) w10.ins rfl List.mem_cons_self).tup (same_tup u10 hst10)
    generalize upd (upd H10 pmr (.lst [])) c (.ins CC dx (putF "marks" (.ref pmr) (putF "ledgers" (.ref plg) (putF "leaving" (.ref plv) (putF "tempos" (.ref ptm) (putF "spots" (.ref psp) (putF "loads" (.ref pld) (putF "row" (.ref prw) (putF "now" (.ref a_NOUGHT) (putF "stretches" (.ref pst) (putF "fire" (.int (labourM qs)) []))))))))))) = H11 at *
    clear u10 w10
    refine ⟨Nat.zero_le _, fun ppr nppr => ?_⟩
    have u11 := same_upd (T := T) (o := .lst []) nppr
    have w11 := m11.sm' u11 (nt1 rfl)
    refine ⟨_, rfl, c, _, _, rfl, w11.ins, by show 10 < 1000; decide, ?_⟩
    have m12 := m11.new nc ncd "poured" (o := .lst []) nppr (nt1 rfl)
    have hst12 := (sx_upd (T := []) (S := [c]) (o := .ins CC dx (putF "poured" (.ref ppr) (putF "marks" (.ref pmr) (putF "ledgers" (.ref plg) (putF "leaving" (.ref plv) (putF "tempos" (.ref ptm) (putF "spots" (.ref psp) (putF "loads" (.ref pld) (putF "row" (.ref prw) (putF "now" (.ref a_NOUGHT) (putF "stretches" (.ref pst) (putF "fire" (.int (labourM qs)) [])))))))))))) w11.ins rfl List.mem_cons_self).tup (same_tup u11 hst11)
    generalize upd (upd H11 ppr (.lst [])) c (.ins CC dx (putF "poured" (.ref ppr) (putF "marks" (.ref pmr) (putF "ledgers" (.ref plg) (putF "leaving" (.ref plv) (putF "tempos" (.ref ptm) (putF "spots" (.ref psp) (putF "loads" (.ref pld) (putF "row" (.ref prw) (putF "now" (.ref a_NOUGHT) (putF "stretches" (.ref pst) (putF "fire" (.int (labourM qs)) [])))))))))))) = H12 at *
    clear u11 w11
    have at_ := m12.at_
    refine k1 hw H12 { dx := dx, st := pst, nw := a_NOUGHT, rw := prw, ld := pld, sp := psp, tm := ptm, lv := plv, lg := plg, mr := pmr, pr := ppr } m12.sm ⟨m12.ins, m12.own, ⟨us, hst12, dpa_same m12.sm _ _ hd⟩, by show SqT K _ _ (tv (am 0)); rw [am_zero]; exact s_NOUGHT _, (at_ (prw, .lst []) (by simp)).1, (at_ (pld, .lst []) (by simp)).1, ⟨[], (at_ (psp, .lst []) (by simp)).1, .nil⟩, (at_ (ptm, .dK []) (by simp)).1, (at_ (plv, .lst []) (by simp)).1, ⟨[], (at_ (plg, .dK []) (by simp)).1, rfl, .nil⟩, ⟨[], (at_ (pmr, .lst []) (by simp)).1, .nil⟩, (at_ (ppr, .lst []) (by simp)).1, ?_⟩ (fun x hx => ?_)
    · have nd9 := m12.nd
      have e : ([c, ppr, pmr, plg, plv, ptm, psp, pld, prw] : List Addr).Perm [c, prw, pld, psp, ptm, plv, plg, pmr, ppr] := .cons c (List.reverse_perm _).symm
      exact nd_perm nd9 e
    · simp only [ownC, List.mem_cons, List.not_mem_nil, or_false] at hx
      rcases hx with rfl | rfl | rfl | rfl | rfl | rfl | rfl | rfl | rfl
      · exact nc
      · exact (at_ (x, .lst []) (by simp)).2
      · exact (at_ (x, .lst []) (by simp)).2
      · exact (at_ (x, .lst []) (by simp)).2
      · exact (at_ (x, .dK []) (by simp)).2
      · exact (at_ (x, .lst []) (by simp)).2
      · exact (at_ (x, .dK []) (by simp)).2
      · exact (at_ (x, .lst []) (by simp)).2
      · exact (at_ (x, .lst []) (by simp)).2

def copyS (s r : Ch) : Ch := { r with fire := s.fire, way := s.way }
def sp_p_Chain_stand_as (K : PySem.W.Frag) (T : Tb) (CC : Addr) : Sp := fun vs H Q _ => ∃ (c d : Addr) (A B : Ad) (s r : Ch), vs = [.ref c, .ref d] ∧ ChAt K CC H c A s ∧ ChAt K CC H d B r ∧ c ∉ ownC d B ∧
  ∀ H' A', Sx T [c] H H' → ChAt K CC H' c A' (copyS s r) → (∀ x ∈ ownC c A', x = c ∨ H x = none) → Q .non H'
theorem ok_p_Chain_stand_as {f : Addr} {fd : FuncData} (F : Fun K "stand_as" "Chain.stand_as" s_p_Chain_stand_as f fd) (B : Bn mg) {CC : Addr} (TC : Kl K CC) : FnOk P w K mg base CX0 1 f fd ["self", "other"] (sp_p_Chain_stand_as K T CC) := by
  refine F.ok sc_p_Chain_stand_as (fun vs H Q E h => ?_) (fun cdv A outer s H vs Q E hr h => ?_)
  · obtain ⟨c, d, A, G, s, r, rfl, _⟩ := h
    rfl
  · obtain ⟨c, d, A, G, s, r, rfl, hc, hd, ncd, q⟩ := h
    refine ⟨_, (pss_cons (ps_fc TC.cl (TC.no "now" (by decide +kernel)) (pv 0) (pe_fc TC.cl (TC.no "now" (by decide +kernel)) (pv 1)))
      (pss_cons (ps_fc TC.cl (TC.no "row" (by decide +kernel)) (pv 0) (pe_callTy call_list_of (by rfl) B.list_ (by decide +kernel) (pa_cons (pe_fc TC.cl (TC.no "row" (by decide +kernel)) (pv 1)) pa_nil)))
      (pss_cons (ps_fc TC.cl (TC.no "loads" (by decide +kernel)) (pv 0) (pe_callTy call_list_of (by rfl) B.list_ (by decide +kernel) (pa_cons (pe_fc TC.cl (TC.no "loads" (by decide +kernel)) (pv 1)) pa_nil)))
      (pss_cons (ps_fc TC.cl (TC.no "spots" (by decide +kernel)) (pv 0) (pe_callTy call_list_of (by rfl) B.list_ (by decide +kernel) (pa_cons (pe_fc TC.cl (TC.no "spots" (by decide +kernel)) (pv 1)) pa_nil)))
      (pss_cons (ps_fc TC.cl (TC.no "tempos" (by decide +kernel)) (pv 0) (pe_callTy call_dictD (by rfl) B.dict_ (by decide +kernel) (pa_cons (pe_fc TC.cl (TC.no "tempos" (by decide +kernel)) (pv 1)) pa_nil)))
      (pss_cons (ps_fc TC.cl (TC.no "leaving" (by decide +kernel)) (pv 0) (pe_callTy call_list_of (by rfl) B.list_ (by decide +kernel) (pa_cons (pe_fc TC.cl (TC.no "leaving" (by decide +kernel)) (pv 1)) pa_nil)))
      (pss_cons (ps_fc TC.cl (TC.no "ledgers" (by decide +kernel)) (pv 0) (pe_callTy call_dictD (by rfl) B.dict_ (by decide +kernel) (pa_cons (pe_fc TC.cl (TC.no "ledgers" (by decide +kernel)) (pv 1)) pa_nil)))
      (pss_cons (ps_fc TC.cl (TC.no "marks" (by decide +kernel)) (pv 0) (pe_callTy call_list_of (by rfl) B.list_ (by decide +kernel) (pa_cons (pe_fc TC.cl (TC.no "marks" (by decide +kernel)) (pv 1)) pa_nil)))
      (pss_one (ps_fc TC.cl (TC.no "poured" (by decide +kernel)) (pv 0) (pe_callTy call_list_of (by rfl) B.list_ (by decide +kernel) (pa_cons (pe_fc TC.cl (TC.no "poured" (by decide +kernel)) (pv 1)) pa_nil)))))))))))), ?_⟩
    have dj : ∀ x ∈ ownC d G, x ∉ [c] := fun x hx z => ncd (by rw [← List.mem_singleton.mp z]; exact hx)
    have x0 : Sx T [c] H H := Sx.refl
    refine ⟨_, rfl, d, _, _, _, rfl, hd.ins, fl_nw, _, rfl, c, _, _, rfl, hc.ins, by show 11 < 1000; decide, ?_⟩
    rw [pf_nw]
    have z1 := sx_upd (T := T) (S := [c]) (o := .ins CC A.dx (flds s.fire { A with nw := G.nw })) hc.ins rfl List.mem_cons_self
    obtain ⟨A1, eA, hc1⟩ : ∃ A1 : Ad, A1 = { A with nw := G.nw } ∧ ChAt K CC (upd H c (.ins CC A.dx (flds s.fire { A with nw := G.nw }))) c A1 { s with now := r.now } := ⟨_, rfl, hc.re_nw hd.nw⟩
    have hd1 := hd.sx z1 dj
    have x1 := x0.step z1
    clear z1 x0 hc hd eA
    generalize upd H c (.ins CC A.dx (flds s.fire { A with nw := G.nw })) = H1 at *
    refine ⟨_, rfl, d, _, _, _, rfl, hd1.ins, fl_rw, G.rw, _, rfl, .inl (SqL.of hd1.rw), fun prw nprw => ?_⟩
    have u' := same_upd (T := T) (o := .lst (r.row.map V.str)) nprw
    have nw' := hc1.new nprw
    have fp : H prw = none := x1.free _ nprw
    have hc' := hc1.sm u'
    have hd' := hd1.sm u'
    refine ⟨_, rfl, c, _, _, rfl, hc'.ins, by show 11 < 1000; decide, ?_⟩
    dsimp only
    rw [pf_rw]
    have z' := sx_upd (T := T) (S := [c]) (o := .ins CC A1.dx (flds s.fire { A1 with rw := prw })) hc'.ins rfl List.mem_cons_self
    obtain ⟨A2, hc2, f_rw⟩ : ∃ A2 : Ad, ChAt K CC (upd (upd H1 prw (.lst (r.row.map V.str))) c (.ins CC A1.dx (flds s.fire { A1 with rw := prw }))) c A2 { s with now := r.now, row := r.row } ∧ H A2.rw = none := ⟨_, hc'.re_rw upd_same nw', fp⟩
    have hd2 := hd'.sx z' dj
    have x2 := (x1.sm' u').step z'
    clear z' hc' hd' hc1 x1 u' nw' fp
    generalize upd (upd H1 prw (.lst (r.row.map V.str))) c (.ins CC A1.dx (flds s.fire { A1 with rw := prw })) = H2 at *
    refine ⟨_, rfl, d, _, _, _, rfl, hd2.ins, fl_ld, G.ld, _, rfl, .inl (SqL.of hd2.ld), fun pld npld => ?_⟩
    have u' := same_upd (T := T) (o := .lst (r.loads.map V.int)) npld
    have nw' := hc2.new npld
    have fp : H pld = none := x2.free _ npld
    have hc' := hc2.sm u'
    have hd' := hd2.sm u'
    refine ⟨_, rfl, c, _, _, rfl, hc'.ins, by show 11 < 1000; decide, ?_⟩
    dsimp only
    rw [pf_ld]
    have z' := sx_upd (T := T) (S := [c]) (o := .ins CC A2.dx (flds s.fire { A2 with ld := pld })) hc'.ins rfl List.mem_cons_self
    obtain ⟨A3, hc3, f_rw, f_ld⟩ : ∃ A3 : Ad, ChAt K CC (upd (upd H2 pld (.lst (r.loads.map V.int))) c (.ins CC A2.dx (flds s.fire { A2 with ld := pld }))) c A3 { s with now := r.now, row := r.row, loads := r.loads } ∧ H A3.rw = none ∧ H A3.ld = none := ⟨_, hc'.re_ld upd_same nw', f_rw, fp⟩
    have hd3 := hd'.sx z' dj
    have x3 := (x2.sm' u').step z'
    clear z' hc' hd' hc2 x2 u' nw' fp
    generalize upd (upd H2 pld (.lst (r.loads.map V.int))) c (.ins CC A2.dx (flds s.fire { A2 with ld := pld })) = H3 at *
    obtain ⟨u3, g3, d3⟩ := hd3.sp
    refine ⟨_, rfl, d, _, _, _, rfl, hd3.ins, fl_sp, G.sp, _, rfl, .inl (SqL.of g3), fun psp npsp => ?_⟩
    have u' := same_upd (T := T) (o := .lst u3) npsp
    have nw' := hc3.new npsp
    have fp : H psp = none := x3.free _ npsp
    have hc' := hc3.sm u'
    have hd' := hd3.sm u'
    refine ⟨_, rfl, c, _, _, rfl, hc'.ins, by show 11 < 1000; decide, ?_⟩
    dsimp only
    rw [pf_sp]
    have z' := sx_upd (T := T) (S := [c]) (o := .ins CC A3.dx (flds s.fire { A3 with sp := psp })) hc'.ins rfl List.mem_cons_self
    obtain ⟨A4, hc4, f_rw, f_ld, f_sp⟩ : ∃ A4 : Ad, ChAt K CC (upd (upd H3 psp (.lst u3)) c (.ins CC A3.dx (flds s.fire { A3 with sp := psp }))) c A4 { s with now := r.now, row := r.row, loads := r.loads, spots := r.spots } ∧ H A4.rw = none ∧ H A4.ld = none ∧ H A4.sp = none := ⟨_, hc'.re_sp upd_same ((u'.sx (S := [])).ams d3) nw', f_rw, f_ld, fp⟩
    have hd4 := hd'.sx z' dj
    have x4 := (x3.sm' u').step z'
    clear z' hc' hd' hc3 x3 u' nw' fp
    generalize upd (upd H3 psp (.lst u3)) c (.ins CC A3.dx (flds s.fire { A3 with sp := psp })) = H4 at *
    refine ⟨_, rfl, d, _, _, _, rfl, hd4.ins, fl_tm, G.tm, _, rfl, Rd.of hd4.tm, fun ptm nptm => ?_⟩
    have u' := same_upd (T := T) (o := .dK (tmV r.tempos)) nptm
    have nw' := hc4.new nptm
    have fp : H ptm = none := x4.free _ nptm
    have hc' := hc4.sm u'
    have hd' := hd4.sm u'
    refine ⟨_, rfl, c, _, _, rfl, hc'.ins, by show 11 < 1000; decide, ?_⟩
    dsimp only
    rw [pf_tm]
    have z' := sx_upd (T := T) (S := [c]) (o := .ins CC A4.dx (flds s.fire { A4 with tm := ptm })) hc'.ins rfl List.mem_cons_self
    obtain ⟨A5, hc5, f_rw, f_ld, f_sp, f_tm⟩ : ∃ A5 : Ad, ChAt K CC (upd (upd H4 ptm (.dK (tmV r.tempos))) c (.ins CC A4.dx (flds s.fire { A4 with tm := ptm }))) c A5 { s with now := r.now, row := r.row, loads := r.loads, spots := r.spots, tempos := r.tempos } ∧ H A5.rw = none ∧ H A5.ld = none ∧ H A5.sp = none ∧ H A5.tm = none := ⟨_, hc'.re_tm upd_same nw', f_rw, f_ld, f_sp, fp⟩
    have hd5 := hd'.sx z' dj
    have x5 := (x4.sm' u').step z'
    clear z' hc' hd' hc4 x4 u' nw' fp
    generalize upd (upd H4 ptm (.dK (tmV r.tempos))) c (.ins CC A4.dx (flds s.fire { A4 with tm := ptm })) = H5 at *
    refine ⟨_, rfl, d, _, _, _, rfl, hd5.ins, fl_lv, G.lv, _, rfl, .inl (SqL.of hd5.lv), fun plv nplv => ?_⟩
    have u' := same_upd (T := T) (o := .lst (r.leaving.map V.str)) nplv
    have nw' := hc5.new nplv
    have fp : H plv = none := x5.free _ nplv
    have hc' := hc5.sm u'
    have hd' := hd5.sm u'
    refine ⟨_, rfl, c, _, _, rfl, hc'.ins, by show 11 < 1000; decide, ?_⟩
    dsimp only
    rw [pf_lv]
    have z' := sx_upd (T := T) (S := [c]) (o := .ins CC A5.dx (flds s.fire { A5 with lv := plv })) hc'.ins rfl List.mem_cons_self
    obtain ⟨A6, hc6, f_rw, f_ld, f_sp, f_tm, f_lv⟩ : ∃ A6 : Ad, ChAt K CC (upd (upd H5 plv (.lst (r.leaving.map V.str))) c (.ins CC A5.dx (flds s.fire { A5 with lv := plv }))) c A6 { s with now := r.now, row := r.row, loads := r.loads, spots := r.spots, tempos := r.tempos, leaving := r.leaving } ∧ H A6.rw = none ∧ H A6.ld = none ∧ H A6.sp = none ∧ H A6.tm = none ∧ H A6.lv = none := ⟨_, hc'.re_lv upd_same nw', f_rw, f_ld, f_sp, f_tm, fp⟩
    have hd6 := hd'.sx z' dj
    have x6 := (x5.sm' u').step z'
    clear z' hc' hd' hc5 x5 u' nw' fp
    generalize upd (upd H5 plv (.lst (r.leaving.map V.str))) c (.ins CC A5.dx (flds s.fire { A5 with lv := plv })) = H6 at *
    obtain ⟨u6, g6, d6⟩ := hd6.lg
    refine ⟨_, rfl, d, _, _, _, rfl, hd6.ins, fl_lg, G.lg, _, rfl, Rd.of g6, fun plg nplg => ?_⟩
    have u' := same_upd (T := T) (o := .dK u6) nplg
    have nw' := hc6.new nplg
    have fp : H plg = none := x6.free _ nplg
    have hc' := hc6.sm u'
    have hd' := hd6.sm u'
    refine ⟨_, rfl, c, _, _, rfl, hc'.ins, by show 11 < 1000; decide, ?_⟩
    dsimp only
    rw [pf_lg]
    have z' := sx_upd (T := T) (S := [c]) (o := .ins CC A6.dx (flds s.fire { A6 with lg := plg })) hc'.ins rfl List.mem_cons_self
    obtain ⟨A7, hc7, f_rw, f_ld, f_sp, f_tm, f_lv, f_lg⟩ : ∃ A7 : Ad, ChAt K CC (upd (upd H6 plg (.dK u6)) c (.ins CC A6.dx (flds s.fire { A6 with lg := plg }))) c A7 { s with now := r.now, row := r.row, loads := r.loads, spots := r.spots, tempos := r.tempos, leaving := r.leaving, ledgers := r.ledgers } ∧ H A7.rw = none ∧ H A7.ld = none ∧ H A7.sp = none ∧ H A7.tm = none ∧ H A7.lv = none ∧ H A7.lg = none := ⟨_, hc'.re_lg upd_same ((u'.sx (S := [])).led d6) nw', f_rw, f_ld, f_sp, f_tm, f_lv, fp⟩
    have hd7 := hd'.sx z' dj
    have x7 := (x6.sm' u').step z'
    clear z' hc' hd' hc6 x6 u' nw' fp
    generalize upd (upd H6 plg (.dK u6)) c (.ins CC A6.dx (flds s.fire { A6 with lg := plg })) = H7 at *
    obtain ⟨u7, g7, d7⟩ := hd7.mr
    refine ⟨_, rfl, d, _, _, _, rfl, hd7.ins, fl_mk, G.mr, _, rfl, .inl (SqL.of g7), fun pmr npmr => ?_⟩
    have u' := same_upd (T := T) (o := .lst u7) npmr
    have nw' := hc7.new npmr
    have fp : H pmr = none := x7.free _ npmr
    have hc' := hc7.sm u'
    have hd' := hd7.sm u'
    refine ⟨_, rfl, c, _, _, rfl, hc'.ins, by show 11 < 1000; decide, ?_⟩
    dsimp only
    rw [pf_mk]
    have z' := sx_upd (T := T) (S := [c]) (o := .ins CC A7.dx (flds s.fire { A7 with mr := pmr })) hc'.ins rfl List.mem_cons_self
    obtain ⟨A8, hc8, f_rw, f_ld, f_sp, f_tm, f_lv, f_lg, f_mr⟩ : ∃ A8 : Ad, ChAt K CC (upd (upd H7 pmr (.lst u7)) c (.ins CC A7.dx (flds s.fire { A7 with mr := pmr }))) c A8 { s with now := r.now, row := r.row, loads := r.loads, spots := r.spots, tempos := r.tempos, leaving := r.leaving, ledgers := r.ledgers, marks := r.marks } ∧ H A8.rw = none ∧ H A8.ld = none ∧ H A8.sp = none ∧ H A8.tm = none ∧ H A8.lv = none ∧ H A8.lg = none ∧ H A8.mr = none := ⟨_, hc'.re_mr upd_same (dpa_same u' _ _ d7) nw', f_rw, f_ld, f_sp, f_tm, f_lv, f_lg, fp⟩
    have hd8 := hd'.sx z' dj
    have x8 := (x7.sm' u').step z'
    clear z' hc' hd' hc7 x7 u' nw' fp
    generalize upd (upd H7 pmr (.lst u7)) c (.ins CC A7.dx (flds s.fire { A7 with mr := pmr })) = H8 at *
    refine ⟨_, rfl, d, _, _, _, rfl, hd8.ins, fl_pr, G.pr, _, rfl, .inl (SqL.of hd8.pr), fun ppr nppr => ?_⟩
    have u' := same_upd (T := T) (o := .lst (r.poured.map V.int)) nppr
    have nw' := hc8.new nppr
    have fp : H ppr = none := x8.free _ nppr
    have hc' := hc8.sm u'
    have hd' := hd8.sm u'
    refine ⟨_, rfl, c, _, _, rfl, hc'.ins, by show 11 < 1000; decide, ?_⟩
    dsimp only
    rw [pf_pr]
    have z' := sx_upd (T := T) (S := [c]) (o := .ins CC A8.dx (flds s.fire { A8 with pr := ppr })) hc'.ins rfl List.mem_cons_self
    obtain ⟨A9, hc9, f_rw, f_ld, f_sp, f_tm, f_lv, f_lg, f_mr, f_pr⟩ : ∃ A9 : Ad, ChAt K CC (upd (upd H8 ppr (.lst (r.poured.map V.int))) c (.ins CC A8.dx (flds s.fire { A8 with pr := ppr }))) c A9 { s with now := r.now, row := r.row, loads := r.loads, spots := r.spots, tempos := r.tempos, leaving := r.leaving, ledgers := r.ledgers, marks := r.marks, poured := r.poured } ∧ H A9.rw = none ∧ H A9.ld = none ∧ H A9.sp = none ∧ H A9.tm = none ∧ H A9.lv = none ∧ H A9.lg = none ∧ H A9.mr = none ∧ H A9.pr = none := ⟨_, hc'.re_pr upd_same nw', f_rw, f_ld, f_sp, f_tm, f_lv, f_lg, f_mr, fp⟩
    have hd9 := hd'.sx z' dj
    have x9 := (x8.sm' u').step z'
    clear z' hc' hd' hc8 x8 u' nw' fp
    generalize upd (upd H8 ppr (.lst (r.poured.map V.int))) c (.ins CC A8.dx (flds s.fire { A8 with pr := ppr })) = H9 at *
    refine q H9 A9 x9 hc9 fun x hx => ?_
    simp only [ownC, List.mem_cons, List.not_mem_nil, or_false] at hx
    rcases hx with e | e | e | e | e | e | e | e | e
    · exact .inl e
    · exact .inr (by rw [e]; exact f_rw)
    · exact .inr (by rw [e]; exact f_ld)
    · exact .inr (by rw [e]; exact f_sp)
    · exact .inr (by rw [e]; exact f_tm)
    · exact .inr (by rw [e]; exact f_lv)
    · exact .inr (by rw [e]; exact f_lg)
    · exact .inr (by rw [e]; exact f_mr)
    · exact .inr (by rw [e]; exact f_pr)
def sp_p_Chain_twin (K : PySem.W.Frag) (T : Tb) (CC : Addr) : Sp := fun vs H Q _ => ∃ (c : Addr) (A : Ad) (s : Ch), vs = [.ref c] ∧ ChAt K CC H c A s ∧ wayB s.way = true ∧ s.fire = labourM s.way ∧ Ok T H ∧ ∀ p H' B, Sm T H H' → ChAt K CC H' p B s → (∀ x ∈ ownC p B, H x = none) → Q (.ref p) H'
theorem ok_p_Chain_twin {f : Addr} {fd : FuncData} (F : Fun K "twin" "Chain.twin" s_p_Chain_twin f fd) {CP : Addr} {CC : Addr} (TC : Kl K CC) (M_init_t : Mnx P w K mg base CC 6 "Chain" ["self", "way"] (sp_p_Chain___init___t K T CP CC)) (M_stand_as : Mt P w K mg base CC 1 "stand_as" ["self", "other"] (sp_p_Chain_stand_as K T CC)) : FnOk P w K mg base CX0 8 f fd ["self"] (sp_p_Chain_twin K T CC) := by
  refine F.ok sc_p_Chain_twin (fun vs H Q E h => ?_) (fun cdv A outer s H vs Q E hr h => ?_)
  · obtain ⟨c, A, s, rfl, _⟩ := h
    rfl
  · obtain ⟨c, A, s, rfl, h, hw, hf, hok, q⟩ := h
    refine ⟨_, (pss_cons (ps_set (i := 1) sc_p_Chain_twin.nd rfl (.inl rfl) (pe_mnx_ M_init_t (hr.mono (by decide)) (pa_cons (pe_fc TC.cl (TC.no "stretches" (by decide +kernel)) (pv 0)) pa_nil)))
      (pss_cons (ps_expr (pe_mt M_stand_as TC.cl (hr.mono (by decide)) (pv 1) (pa_cons (pv 0) pa_nil)))
      (pss_one (ps_ret (pv 1))))), ?_⟩
    obtain ⟨us, hst, hds⟩ := h.st
    have wb := wayB_b hw
    refine ⟨_, rfl, c, _, _, _, rfl, h.ins, fl_st, fun x dx nx ndx nex => ?_⟩
    refine ⟨H, x, dx, A.st, us, s.way, rfl, rfl, nx, ndx, nex, hst, hds, by omega, hok, fun _ H1 B s1 hx fr => ⟨rfl, ?_⟩, fun z => by rw [hw] at z; cases z⟩
    have h1 := h.sm s1
    have xn : x ∉ ownC c A := h.new nx
    refine ⟨_, rfl, x, _, _, rfl, hx.ins, fl_no (by decide +kernel), _, rfl, x, c, B, A, _, s, rfl, hx, h1, xn, fun H2 B2 x2 hx2 fr2 => ?_⟩
    have e : copyS (newS (labourM s.way) s.way) s = s := by
      unfold copyS newS
      rw [← hf]
    rw [e] at hx2
    refine ⟨_, rfl, q x H2 B2 ?_ hx2 fun y hy => ?_⟩
    · exact Sx.sm (s1.sx.trans x2 fun y hy => .inr (by rw [List.mem_singleton.mp hy]; exact nx))
    · rcases fr2 y hy with z | z
      · rw [z]; exact nx
      · exact s1.free _ z

def hoursB (x : Int × Int) : Bool := !(belowA x (0, 1)) && !(belowA (60, 1) x) && decide (x.2 ≤ 60)
def sp_p_check_hours (K : PySem.W.Frag) (T : Tb) (CP : Addr) : Sp := fun vs H Q E => ∃ (hp : Addr) (x : Int × Int), vs = [.ref hp] ∧ SqT K H hp (tv x) ∧ Bd 6650 x ∧ (hoursB x = true → ∀ H', Sm T H H' → Q .non H') ∧ (hoursB x = false → ∀ cls d H', Sm T H H' → Rf K CP "bad time" cls d H' → E cls d H')
theorem ok_p_check_hours {f : Addr} {fd : FuncData} {u_MOST_HOURS : Value} {u_MOST_PARTS : Value} {a_NOUGHT : Addr} (F : Fun K "check_hours" "check_hours" s_p_check_hours f fd) (C_MOST_HOURS : RelV (.int 60) u_MOST_HOURS ∧ mg "MOST_HOURS" = some u_MOST_HOURS) (C_MOST_PARTS : RelV (.int 60) u_MOST_PARTS ∧ mg "MOST_PARTS" = some u_MOST_PARTS) (g_NOUGHT : mg "NOUGHT" = some (.ref a_NOUGHT)) (s_NOUGHT : ∀ H, SqT K H a_NOUGHT [.int 0, .int 1]) {CP : Addr} (R_BadTime : Err P w K mg base CP "BadTime" "bad time") (F_p_below : Fn P w K mg base 1 "below" ["one", "other"] (sp_p_below K T)) : FnOk P w K mg base (L2.CX P w) 4 f fd ["hours"] (sp_p_check_hours K T CP) := by
  obtain ⟨⟨tM, rfl⟩, gM⟩ := id C_MOST_HOURS
  obtain ⟨⟨tP, rfl⟩, gP⟩ := id C_MOST_PARTS
  refine F.okX sc_p_check_hours (fun vs H Q E h => ?_) (fun cdv A outer s H vs Q E hr h => ?_)
  · obtain ⟨hp, x, rfl, _⟩ := h
    rfl
  · obtain ⟨hp, x, rfl, hx, bx, k1, k2⟩ := h
    refine ⟨_, (pss_one (ps_if (PW.pt (pw_or (pt_val (pe_fn F_p_below (hr.mono (by decide)) (pa_cons (pv 0) (pa_cons (pe_glob (v := .ref a_NOUGHT) (by rfl) g_NOUGHT rfl) pa_nil)))) (pw_or (pt_val (pe_fn F_p_below (hr.mono (by decide)) (pa_cons (pe_tup (pa_cons (pe_glob (by rfl) C_MOST_HOURS.2 C_MOST_HOURS.1) (pa_cons pe_int pa_nil))) (pa_cons (pv 0) pa_nil)))) (pw_or1 (pt_cmpR op_gt (pe_ix ix_tup (pv 0) pe_int (fun _ _ => rfl)) (pe_glob (by rfl) C_MOST_PARTS.2 C_MOST_PARTS.1) (nomark _)))))) (pss_one (ps_raise rfl (takes_of rfl rfl rfl rfl) (pmk_err R_BadTime (hr.mono (by decide)) (by rfl)))) pss_nil)), ?_⟩
    refine ⟨_, rfl, hp, a_NOUGHT, x, (0, 1), rfl, hx, s_NOUGHT H, ⟨bx, bd_int (small (by decide))⟩, _, rfl, ?_⟩
    have no : belowA x (0, 1) = true ∨ belowA (60, 1) x = true ∨ ¬ x.2 ≤ 60 → hoursB x = false := fun z => by
      unfold hoursB
      rcases z with z | z | z
      · rw [z]; rfl
      · rw [z, Bool.not_true, Bool.and_false, Bool.false_and]
      · rw [decide_eq_false z, Bool.and_false]
    cases z1 : belowA x (0, 1) with
    | true => exact iteT (iteT fun cls dd hn rf => k2 (no (.inl z1)) cls (some dd) _ (same_upd hn) rf)
    | false =>
      refine iteF ⟨by show 2 ≤ sizeLine; decide, fun tt ntt => ?_⟩
      have ut := same_upd (T := T) (o := .tup [.int 60, .int 1]) ntt
      have hx1 := same_tup ut hx
      refine ⟨_, rfl, tt, hp, (60, 1), x, rfl, SqT.of upd_same, hx1, ⟨bd_int (small (by decide)), bx⟩, _, rfl, ?_⟩
      cases z2 : belowA (60, 1) x with
      | true => exact iteT (iteT fun cls dd hn rf => k2 (no (.inr (.inl z2))) cls (some dd) _ (ut.trans (same_upd hn)) rf)
      | false =>
        refine iteF ⟨_, rfl, hp, _, 1, _, rfl, rfl, hx1, rfl, _, _, rfl, rfl, _, rfl, ?_⟩
        by_cases z3 : x.2 ≤ 60
        · rw [decide_eq_false (show ¬ (60 : Int) < x.2 by omega)]
          exact iteF (k1 (by unfold hoursB; rw [z1, z2, decide_eq_true z3]; rfl) _ ut)
        · rw [decide_eq_true (show (60 : Int) < x.2 by omega)]
          exact iteT fun cls dd hn rf => k2 (no (.inr (.inr z3))) cls (some dd) _ (ut.trans (same_upd hn)) rf

/-! ### list.remove of a text -/
theorem str_beqL (x y : Str) : (x == y) = (x.cps.toList == y.cps.toList) := by
  by_cases h : x = y
  · subst h; simp
  · have h2 : x.cps.toList ≠ y.cps.toList := fun z => h (by
      obtain ⟨⟨a⟩⟩ := x
      obtain ⟨⟨b⟩⟩ := y
      exact congrArg (fun l => (⟨⟨l⟩⟩ : Str)) z)
    rw [beq_false_of_ne h, beq_false_of_ne h2]
def eqkS (k : Str) (v : Value) : Bool := match v with
  | .str n _ => n == k
  | _ => false
inductive StrsAre : List Value → List Str → Prop
  | nil : StrsAre [] []
  | cons (n : Str) (t : Tok) {us : List Value} {ns : List Str} (h : StrsAre us ns) : StrsAre (.str n t :: us) (n :: ns)
theorem strs_of_vals : ∀ {ns : List Str} {us : List Value}, Vals (ns.map V.str) us → StrsAre us ns
  | [], _, h => by cases h; exact .nil
  | n :: ns, _, h => by
    cases h with
    | cons h1 h2 =>
      obtain ⟨t, rfl⟩ := h1
      exact .cons n t (strs_of_vals h2)
theorem eqkS_gives {k : Str} {t : Tok} : ∀ {us : List Value} {ns : List Str}, StrsAre us ns → ∀ y ∈ us, MeetsSeq.EqGives y (.str k t) (eqkS k y)
  | _, _, .nil => fun y hy => (nomatch hy)
  | _, _, .cons n t' h => fun y hy => by
    rcases List.mem_cons.mp hy with e | e
    · rw [e]
      have g := SeqRoads2.EqGives.str n k t' t
      rw [← str_beqL] at g
      exact g
    · exact eqkS_gives h y e
theorem StrsAre.get : ∀ {us : List Value} {ns : List Str}, StrsAre us ns → ∀ (j : Nat) (k : Str), ns[j]? = some k → ∃ t, us[j]? = some (.str k t)
  | _, _, .nil, j, k, h => by simp at h
  | _, _, .cons n t h, 0, k, e => by cases e; exact ⟨t, rfl⟩
  | _, _, .cons n t h, j + 1, k, e => h.get j k e
def rRemS : V → List V → Hp → VK → Prop := fun x xs H Q => ∃ (l : Addr) (ns : List Str) (k : Str), x = .ref l ∧ xs = [.str k] ∧ H l = some (.lst (ns.map V.str)) ∧ k ∈ ns ∧ Q .non (upd H l (.lst ((ns.eraseIdx (ns.idxOf k)).map V.str)))
theorem mt_remS {X : Cx} : MtM X "list.remove" rRemS := by
  intro pn s0 σ₁ H x0 as0 v0 us0 R I rx0 rs0 hh
  obtain ⟨l, ns, k, rfl, rfl, hH, hk, q⟩ := hh
  cases rx0; obtain ⟨u, rfl, ru⟩ := rs0.one; obtain ⟨t, rfl⟩ := ru; obtain ⟨z, its, n, r, hl, e⟩ := I.lstM hH
  have hi := strs_of_vals r
  rw [List.length_map] at hl z
  have hjn : ns.idxOf k < ns.length := List.idxOf_lt_length_of_mem hk
  have hjl : ns.idxOf k < its.toArray.size := by rw [List.size_toArray]; omega
  refine call_meets PySem.F.slot_list_remove ⟨_, e, rfl⟩ PySem.F.entry_list_remove (PySem.F.args_list_remove_2 _ _) (MeetsSeq.list_remove l its.toArray n (.str k t) (eqkS k) (fun y hy => eqkS_gives hi y (by simpa using hy)) (ns.idxOf k) hjl ?_ ?_ (by rw [List.size_toArray]; omega)) ⟨e, ?_⟩
  · obtain ⟨tj, hjt⟩ := hi.get (ns.idxOf k) k (by rw [List.getElem?_eq_getElem hjn, List.getElem_idxOf])
    obtain ⟨g1, h2⟩ := List.getElem?_eq_some_iff.mp hjt
    have e1 : its.toArray[ns.idxOf k] = .str k tj := by simpa using h2
    rw [e1]
    show (k == k) = true
    simp
  · intro m hm hmj
    have hmn : m < ns.length := by omega
    obtain ⟨tm, hmt⟩ := hi.get m ns[m] (List.getElem?_eq_getElem hmn); obtain ⟨h1, h2⟩ := List.getElem?_eq_some_iff.mp hmt
    have e1 : its.toArray[m] = .str ns[m] tm := by simpa using h2
    rw [e1]
    have := List.not_of_lt_findIdx (p := (· == k)) (xs := ns) (i := m) hmj
    show (ns[m] == k) = false
    simpa using this
  · have rr := r.eraseIdx (ns.idxOf k)
    have em : ∀ (l : List Str) (j : Nat), (l.map V.str).eraseIdx j = (l.eraseIdx j).map V.str := fun l => by
      induction l with
      | nil => intro j; simp
      | cons a l ih =>
        intro j
        cases j with
        | zero => simp
        | succ j => simp [ih j]
    rw [em] at rr
    refine ⟨.non, _, I.lset (its' := its.eraseIdx (ns.idxOf k)) (t' := s0.toks) hH e ?_ rr ?_, rfl, q⟩
    · show its.toArray.eraseIdxIfInBounds (ns.idxOf k) = (its.eraseIdx (ns.idxOf k)).toArray
      exact List.eraseIdxIfInBounds_toArray ..
    · have z2 : (ns.eraseIdx (ns.idxOf k)).length ≤ ns.length := by rw [List.length_eraseIdx]; split <;> omega
      rw [List.length_map]
      omega

/-! ### xs[a:b] = ys as a line of a def -/
def sSlP (to : TE) (tl th : TO) (tv : TE) : TS := fun D σ H => tv σ H fun v H1 => to σ H1 fun x H2 => tl σ H2 fun p H3 => th σ H3 fun q H4 =>
  ∃ (l b : Addr) (xs ys : List V) (i j : Int), x = .ref l ∧ v = .ref b ∧ p = some i ∧ q = some j ∧ H4 l = some (.lst xs) ∧ H4 b = some (.lst ys) ∧ l ≠ b ∧ 0 ≤ i ∧ i ≤ j ∧ j ≤ xs.length ∧ xs.length + ys.length ≤ sizeLine ∧
    D.nx σ (upd H4 l (.lst (xs.take i.toNat ++ ys ++ xs.drop j.toNat)))
theorem ps_slp {X : Cx} {o value : Expr} {lo hi : Option Expr} {to tv : TE} {tl th : TO} {pos p2 pos' : Pos} (ho : PE X o to) (hl : PO X lo tl) (hh : PO X hi th) (hv : PE X value tv)
    (hs : swapsWith value (some (.Subscript o (.Slice lo hi none p2) pos')) pos.line X.env = pure false) : PS X (.Assign [.Subscript o (.Slice lo hi none p2) pos'] value pos) (sSlP to tl th tv) := by
  refine ⟨fun pins s0 σ0 H D I h => ?_⟩
  refine wpAny_Assign_Subscript (thn (hv.run pins s0 σ0 H _ I h) fun rv s1 ⟨v, H1, I1, r1, q1⟩ => thn (ho.run pins s1 σ0 H1 _ I1 q1) fun ru s2 ⟨x, H2, I2, r2, q2⟩ => ?_) hs
  refine wpAny_Slice (thn (hl.run pins s2 σ0 H2 _ I2 q2) fun vl s3 ⟨p, H3, I3, r3, q3⟩ => thn (hh.run pins s3 σ0 H3 _ I3 q3) fun vu s4 ⟨q, H4, I4, r4, q4⟩ => ?_)
  obtain ⟨l, b, xs, ys, i, j, rfl, rfl, rfl, rfl, g1, g2, ne, i0, ij, jn, sz, fin⟩ := q4
  cases r1; cases r2
  rw [evalPart_none]
  have I5 := I4.kept (h' := s4.heap.push { cls := .type "slice", data := .fields #[vl, vu, .none] }) (t' := s4.toks) fun _ _ z => Heap.get?_push_of_some _ z
  cases r3 with
  | int _ ta => cases r4 with
    | int _ tb => exact wpAny_pure (set_slice I5 g1 g2 ne (Heap.IsSliceOf.new ..) ⟨ta, rfl⟩ ⟨tb, rfl⟩ i0 ij jn sz fun s6 I6 => ⟨σ0, _, I6, fin⟩)

/-- at the place at the bearer is noted -/
def markS (s : Ch) (i : Nat) : Ch := { s with marks := s.marks.set (s.loads.getD i 0).toNat (s.marks.getD (s.loads.getD i 0).toNat [] ++ [(s.row.getD i "", s.spots.getD i 0)]) }
/-- lists side by side -/
structure Side (s : Ch) : Prop where
  ll : s.loads.length = s.row.length
  ls : s.spots.length = s.row.length
  n8 : s.row.length ≤ 8
  ld : ∀ l ∈ s.loads, 0 ≤ l ∧ l < (s.marks.length : Int)
theorem markS_side {s : Ch} (h : Side s) (i : Nat) : Side (markS s i) := ⟨h.ll, h.ls, h.n8, fun l hl => by
  show 0 ≤ l ∧ l < ((s.marks.set _ _).length : Int)
  rw [List.length_set]
  exact h.ld l hl⟩
theorem map_set_mk (l : List (List (Str × Rat))) (k : Nat) (m : List (Str × Rat)) : (l.set k m).map mkD = (l.map mkD).set k (mkD m) := by rw [List.map_set]
theorem dpa_set {K : PySem.W.Frag} {H : Hp} : ∀ {vs : List V} {ds : List PyData} {v : V} {d : PyData} (k : Nat), DpAll K H vs ds → Dp K H v d → DpAll K H (vs.set k v) (ds.set k d)
  | _, [], _, _, _, h, _ => by cases h; exact .nil
  | _, _ :: _, _, _, 0, h, g => by
    cases h with
    | cons h1 h2 => exact .cons g h2
  | _, _ :: _, _, _, k + 1, h, g => by
    cases h with
    | cons h1 h2 => exact .cons h1 (dpa_set k h2 g)
def sp_p_Chain_mark (K : PySem.W.Frag) (T : Tb) (CC : Addr) : Sp := fun vs H Q _ => ∃ (c : Addr) (A : Ad) (s : Ch) (i : Nat), vs = [.ref c, .int i] ∧ ChAt K CC H c A s ∧ Side s ∧ i < s.row.length ∧ (∀ m ∈ s.marks, m.length ≤ 5000) ∧ ∀ H', Sx T (ownC c A) H H' → ChAt K CC H' c A (markS s i) → Q .non H'
theorem ok_p_Chain_mark {f : Addr} {fd : FuncData} (F : Fun K "mark" "Chain.mark" s_p_Chain_mark f fd) {CC : Addr} (TC : Kl K CC) : FnOk P w K mg base CX0 1 f fd ["self", "at"] (sp_p_Chain_mark K T CC) := by
  refine F.ok sc_p_Chain_mark (fun vs H Q E h => ?_) (fun cdv A outer s H vs Q E hr h => ?_)
  · obtain ⟨c, A, s, i, rfl, _⟩ := h
    rfl
  · obtain ⟨c, A, s, i, rfl, h, sd, hi, hm, q⟩ := h
    refine ⟨_, (pss_cons (ps_set (i := 2) sc_p_Chain_mark.nd rfl (.inl rfl) (pe_ix ix_list (pe_fc TC.cl (TC.no "loads" (by decide +kernel)) (pv 0)) (pv 1) (fun _ _ => rfl)))
      (pss_one (ps_asg (pe_op op_catA (pe_ix ix_list (pe_fc TC.cl (TC.no "marks" (by decide +kernel)) (pv 0)) (pv 2) (fun _ _ => rfl)) (pe_tup (pa_cons (pe_tup (pa_cons (pe_ix ix_list (pe_fc TC.cl (TC.no "row" (by decide +kernel)) (pv 0)) (pv 1) (fun _ _ => rfl)) (pa_cons (pe_ix ix_list (pe_fc TC.cl (TC.no "spots" (by decide +kernel)) (pv 0)) (pv 1) (fun _ _ => rfl)) pa_nil))) pa_nil))) (pg_sub (pe_fc TC.cl (TC.no "marks" (by decide +kernel)) (pv 0)) (pv 2) set_list)))), ?_⟩
    obtain ⟨ms, m1, m2⟩ := h.mr
    obtain ⟨ps, p1, p2⟩ := h.sp
    have lm : ms.length = s.marks.length := by rw [dpa_len m2, List.length_map]
    have hl := sd.ld _ (getD_mem (d := (0 : Int)) (show i < s.loads.length by rw [sd.ll]; exact hi))
    have gl : s.loads[i]? = some (s.loads.getD i 0) := by rw [getD_lt (show i < s.loads.length by rw [sd.ll]; exact hi), List.getElem?_eq_getElem (show i < s.loads.length by rw [sd.ll]; exact hi)]
    obtain ⟨k, hk⟩ : ∃ k : Nat, s.loads.getD i 0 = (k : Int) := ⟨(s.loads.getD i 0).toNat, by omega⟩
    have hkl : k < s.marks.length := by omega
    have gr : (s.row.map V.str)[i]? = some (.str (s.row.getD i "")) := by rw [List.getElem?_map, getD_lt hi, List.getElem?_eq_getElem hi]; rfl
    obtain ⟨b, gb, qb⟩ := p2.at (i := i) (by rw [sd.ls]; exact hi)
    obtain ⟨v, gv, dv⟩ := dpa_get m2 (i := k) (d := mkD s.marks[k]) (by rw [List.getElem?_map, List.getElem?_eq_getElem hkl]; rfl)
    obtain ⟨tm, us, rfl, htm, hus⟩ : ∃ tm us, v = .ref tm ∧ SqT K H tm us ∧ DpAll K H us (s.marks[k].map fun x => PyData.tuple [.str x.1, amD (am x.2)]) := by
      unfold mkD at dv
      cases dv with
      | tup hs ha => exact ⟨_, _, rfl, hs, ha⟩
    have lus : us.length = s.marks[k].length := by rw [dpa_len hus, List.length_map]
    have hm9 := hm _ (List.getElem_mem hkl)
    refine ⟨_, rfl, c, _, _, _, rfl, h.ins, fl_ld, _, rfl, A.ld, _, _, .int k, rfl, rfl, SqL.of h.ld, by rw [← hk]; exact at_map (i := i) rfl gl, ?_⟩
    refine ⟨_, rfl, c, _, _, _, rfl, h.ins, fl_mk, _, rfl, A.mr, ms, _, .ref tm, rfl, rfl, SqL.of m1, at_of (j := k) rfl gv, ?_⟩
    refine ⟨_, rfl, c, _, _, _, rfl, h.ins, fl_rw, _, rfl, A.rw, _, _, _, rfl, rfl, SqL.of h.rw, at_of (j := i) rfl gr, ?_⟩
    refine ⟨_, rfl, c, _, _, _, rfl, h.ins, fl_sp, _, rfl, A.sp, ps, _, .ref b, rfl, rfl, SqL.of p1, at_of (j := i) rfl gb, by show 2 ≤ sizeLine; decide, fun t1 n1 => ⟨by show 1 ≤ sizeLine; decide, fun t2 n2 => ?_⟩⟩
    have u1 := same_upd (T := T) (o := .tup [.str (s.row.getD i ""), .ref b]) n1
    have u2 := same_upd (T := T) (o := .tup [.ref t1]) n2
    have s2 := u1.trans u2
    have d1 : Dp K (upd (upd H t1 (.tup [.str (s.row.getD i ""), .ref b])) t2 (.tup [.ref t1])) (.ref t1) (.tuple [.str (s.row.getD i ""), amD (am (s.spots.getD i 0))]) := .tup (SqT.of (u2.k upd_same)) (.cons (.str _) (.cons (amD_dp (same_tup s2 qb)) .nil))
    have fin : ∀ (tn : Addr) (H3 : Hp), Sm T H H3 → Dp K H3 (.ref tn) (mkD (s.marks[k] ++ [(s.row.getD i "", s.spots.getD i 0)])) → Q .non (upd H3 A.mr (.lst (ms.set k (.ref tn)))) := fun tn H3 s3 d3 => by
      have h3 := h.sm s3
      have m4 : DpAll K H3 (ms.set k (.ref tn)) ((s.marks.set k (s.marks[k] ++ [(s.row.getD i "", s.spots.getD i 0)])).map mkD) := by
        rw [map_set_mk]
        exact dpa_set k (dpa_same s3 _ _ m2) d3
      have h4 := h3.set_mr m4
      have e4 : ({ s with marks := s.marks.set k (s.marks[k] ++ [(s.row.getD i "", s.spots.getD i 0)]) } : Ch) = markS s i := by
        unfold markS
        rw [hk, Int.toNat_natCast, getD_lt hkl]
      rw [e4] at h4
      exact q _ (s3.sx.step (sx_upd (s3.k m1) rfl (by simp [ownC]))) h4
    have ixk : ixN ms.length (k : Int) = some k := by
      unfold ixN
      rw [if_pos (by omega), if_pos (by omega), Int.toNat_natCast]
    refine ⟨tm, t2, us, [.ref t1], rfl, rfl, same_tup s2 htm, SqT.of upd_same, sz (by show _ + 1 ≤ _; omega), fun e => ?_, fun _ e => absurd e (by simp), fun _ _ p np => ?_⟩
    · have h3 := h.sm s2
      refine ⟨_, rfl, c, _, _, _, rfl, h3.ins, fl_mk, _, rfl, A.mr, ms, k, k, rfl, rfl, s2.k m1, ixk, fin t2 _ s2 ?_⟩
      have e0 : s.marks[k] = [] := by rw [e] at lus; exact List.length_eq_zero_iff.mp lus.symm
      rw [e0]
      exact .tup (SqT.of upd_same) (.cons d1 .nil)
    · have u3 := same_upd (T := T) (o := .tup (us ++ [.ref t1])) np
      have s3 := s2.trans u3
      have h3 := h.sm s3
      refine ⟨_, rfl, c, _, _, _, rfl, h3.ins, fl_mk, _, rfl, A.mr, ms, k, k, rfl, rfl, s3.k m1, ixk, fin p _ s3 ?_⟩
      unfold mkD
      rw [List.map_append]
      exact .tup (SqT.of upd_same) (dpa_app (dpa_same s3 _ _ hus) (.cons (dp_same u3 _ _ d1) .nil))

/-! ### who is called away, paces, pails -/
def sp_p_Chain_called (K : PySem.W.Frag) (T : Tb) (CC : Addr) : Sp := fun vs H Q _ => ∃ (c : Addr) (A : Ad) (s : Ch), vs = [.ref c] ∧ ChAt K CC H c A s ∧ s.row.length ≤ 1000 ∧ ∀ p H', Sm T H H' → H p = none → H' p = some (.lst ((s.row.filter fun n => decide (n ∈ s.leaving)).map V.str)) → Q (.ref p) H'
theorem ok_p_Chain_called {f : Addr} {fd : FuncData} (F : Fun K "called" "Chain.called" s_p_Chain_called f fd) {CC : Addr} (TC : Kl K CC) : FnOk P w K mg base CX0 1 f fd ["self"] (sp_p_Chain_called K T CC) := by
  refine F.ok sc_p_Chain_called (fun vs H Q E h => ?_) (fun cdv A outer s H vs Q E hr h => ?_)
  · obtain ⟨c, A, s, rfl, _⟩ := h
    rfl
  · obtain ⟨c, A, s, rfl, h, hl, q⟩ := h
    refine ⟨_, (pss_one (ps_ret (pe_lc (own := [("name", 1)]) (g := (gName 1)) (by rfl) sc_p_Chain_called.nd (pi_list (pe_fc TC.cl (TC.no "row" (by decide +kernel)) (pv 0))) (blkOk_by (own := [("name", 1)]) (N := ["self", "name"]) (sc := (defScope s_p_Chain_called)) (by decide +kernel)) (fun _ _ _ _ _ => (pg_name (i := 1) sc_p_Chain_called.nd rfl (.inl rfl))) (fun _ _ _ _ _ => (pts_one (pt_cmpR (r := rIn K false) op_in_seq (pv 1) (pe_fc TC.cl (TC.no "leaving" (by decide +kernel)) (pv 0)) (by rfl)))) (fun _ _ _ _ _ => (pv 1))))), ?_⟩
    refine ⟨_, rfl, c, _, _, _, rfl, h.ins, fl_rw, A.rw, rfl, ⟨_, SqL.of h.rw⟩, fun D hD => lc_list (K := K) (a := A.rw) (xs := s.row.map V.str) (Qd := _) (fun i H' => Sm T H H' ∧ H' D = some (.lst (((s.row.take i).filter fun n => decide (n ∈ s.leaving)).map V.str))) ⟨same_upd hD, upd_same⟩ (fun i H' _ ⟨sm, _⟩ => SqL.of (sm.k h.rw)) ?_ ?_⟩
    · rintro i v H' hi ⟨sm, eD⟩
      rw [List.getElem?_map] at hi
      obtain ⟨n, hq, rfl⟩ : ∃ n, s.row[i]? = some n ∧ V.str n = v := Option.map_eq_some_iff.mp hi
      have hil := (List.getElem?_eq_some_iff.mp hq).1
      have h' := h.sm sm
      have lt : ((s.row.take i).filter fun n => decide (n ∈ s.leaving)).length ≤ 1000 := Nat.le_trans (List.length_filter_le _ _) (by rw [List.length_take]; omega)
      refine ⟨rfl, ?_⟩
      refine ⟨_, rfl, _, rfl, c, _, _, _, rfl, h'.ins, fl_lv, A.lv, _, rfl, .inl (SqL.of h'.lv), rfl, flat_strs _, _, rfl, ?_⟩
      show if inV (.str n) (s.leaving.map V.str) = true then _ else _
      rw [inV_strs, List.take_add_one, hq, List.filter_append, List.map_append]
      by_cases hm : n ∈ s.leaving
      · rw [decide_eq_true hm]
        refine iteT ⟨_, rfl, _, eD, by rw [List.length_map]; exact szl (by omega), same_mut sm hD eD, ?_⟩
        rw [upd_same]
        show _ = some (HO.lst (_ ++ List.map V.str (List.filter (fun n => decide (n ∈ s.leaving)) [n])))
        rw [List.filter_cons, if_pos (decide_eq_true hm)]
        rfl
      · rw [decide_eq_false hm]
        refine iteF ⟨sm, ?_⟩
        rw [eD]
        show _ = some (HO.lst (_ ++ List.map V.str (List.filter (fun n => decide (n ∈ s.leaving)) [n])))
        rw [List.filter_cons, if_neg (fun z => hm (of_decide_eq_true z))]
        simp
    · rintro H' ⟨sm, eD⟩
      rw [List.length_map, List.take_length] at eD
      exact q D H' sm hD eD
def sp_p_Chain_pace (K : PySem.W.Frag) (T : Tb) (CP CC : Addr) : Sp := fun vs H Q E => ∃ (c : Addr) (A : Ad) (s : Ch) (n : Str), vs = [.ref c, .str n] ∧ ChAt K CC H c A s ∧ (n ∈ s.row → ∃ p, getL s.tempos n = some p ∧ Q (.int p) H) ∧ (n ∉ s.row → ∀ cls d H', Sm T H H' → Rf K CP "no hand" cls d H' → E cls d H')
theorem ok_p_Chain_pace {f : Addr} {fd : FuncData} (F : Fun K "pace" "Chain.pace" s_p_Chain_pace f fd) {CP : Addr} {CC : Addr} (TC : Kl K CC) (M_number_of : Mx P w K mg base CC 4 "number_of" ["self", "name"] (sp_p_Chain_number_of K T CP CC)) : FnOk P w K mg base (L2.CX P w) 5 f fd ["self", "name"] (sp_p_Chain_pace K T CP CC) := by
  refine F.okX sc_p_Chain_pace (fun vs H Q E h => ?_) (fun cdv A outer s H vs Q E hr h => ?_)
  · obtain ⟨c, A, s, n, rfl, _⟩ := h
    rfl
  · obtain ⟨c, A, s, n, rfl, h, k1, k2⟩ := h
    refine ⟨_, (pss_cons (ps_expr (pe_mx M_number_of TC.cl (hr.mono (by decide)) (takes_of rfl rfl rfl rfl) (pv 0) (pa_cons (pv 1) pa_nil)))
      (pss_one (ps_ret (pe_dget (hu_of hr) (pe_fc TC.cl (TC.no "tempos" (by decide +kernel)) (pv 0)) (pv 1) (fun _ _ => rfl))))), ?_⟩
    refine ⟨_, rfl, c, _, _, rfl, h.ins, fl_no (by decide +kernel), _, rfl, c, A, s, n, rfl, h, fun hm => ?_, k2⟩
    obtain ⟨p, hp, q⟩ := k1 hm
    have ev : valV (tmV s.tempos) (Sum.inr n) = some (.int p) := by rw [val_tm, hp]; rfl
    exact ⟨_, rfl, c, _, _, _, rfl, h.ins, fl_tm, _, rfl, A.tm, .int p, rfl, by rw [← ev]; exact DGet.k (k := Sum.inr n) h.tm, q⟩
def sp_p_Chain_pail (K : PySem.W.Frag) (T : Tb) (CP CC : Addr) : Sp := fun vs H Q E => ∃ (c : Addr) (A : Ad) (s : Ch) (n : Str), vs = [.ref c, .str n] ∧ ChAt K CC H c A s ∧ s.loads.length = s.row.length ∧ (n ∈ s.row → Q (.int (s.loads.getD (s.row.idxOf n) 0)) H) ∧ (n ∉ s.row → ∀ cls d H', Sm T H H' → Rf K CP "no hand" cls d H' → E cls d H')
theorem ok_p_Chain_pail {f : Addr} {fd : FuncData} (F : Fun K "pail" "Chain.pail" s_p_Chain_pail f fd) {CP : Addr} {CC : Addr} (TC : Kl K CC) (M_number_of : Mx P w K mg base CC 4 "number_of" ["self", "name"] (sp_p_Chain_number_of K T CP CC)) : FnOk P w K mg base (L2.CX P w) 5 f fd ["self", "name"] (sp_p_Chain_pail K T CP CC) := by
  refine F.okX sc_p_Chain_pail (fun vs H Q E h => ?_) (fun cdv A outer s H vs Q E hr h => ?_)
  · obtain ⟨c, A, s, n, rfl, _⟩ := h
    rfl
  · obtain ⟨c, A, s, n, rfl, h, hl, k1, k2⟩ := h
    refine ⟨_, (pss_one (ps_ret (pe_ix ix_list (pe_fc TC.cl (TC.no "loads" (by decide +kernel)) (pv 0)) (pe_mx M_number_of TC.cl (hr.mono (by decide)) (takes_of rfl rfl rfl rfl) (pv 0) (pa_cons (pv 1) pa_nil)) (fun _ _ => rfl)))), ?_⟩
    refine ⟨_, rfl, c, _, _, _, rfl, h.ins, fl_ld, _, rfl, c, _, _, rfl, h.ins, fl_no (by decide +kernel), _, rfl, c, A, s, n, rfl, h, fun hm => ?_, k2⟩
    have hi : s.row.idxOf n < s.loads.length := by rw [hl]; exact List.idxOf_lt_length_of_mem hm
    exact ⟨A.ld, _, _, .int (s.loads.getD (s.row.idxOf n) 0), rfl, rfl, SqL.of h.ld, at_of (j := s.row.idxOf n) rfl (by rw [List.getElem?_map, List.getElem?_eq_getElem hi, getD_lt hi]; rfl), k1 hm⟩

/-! ### stories -/
abbrev Tl : Type := Str × Rat × Rat
def tlD (x : Tl) : PyData := .tuple [.str x.1, amD (am x.2.1), amD (am x.2.2)]
/-- one mark more -/
def stStep (r : List Tl × Rat) (x : Str × Rat) : List Tl × Rat := if x.2 = r.2 then r else (match r.1.getLast? with
  | some l => if l.1 = x.1 then r.1.dropLast ++ [(x.1, l.2.1, x.2)] else r.1 ++ [(x.1, r.2, x.2)]
  | none => r.1 ++ [(x.1, r.2, x.2)], x.2)
def stFold (l : List (Str × Rat)) : List Tl × Rat := l.foldl stStep ([], 0)
def stRows (l : List (Str × Rat)) : List Tl := (stFold l).1
theorem stFold_snoc (l : List (Str × Rat)) (x : Str × Rat) : stFold (l ++ [x]) = stStep (stFold l) x := by
  unfold stFold
  rw [List.foldl_append]
  rfl
theorem stStep_len (r : List Tl × Rat) (x : Str × Rat) : (stStep r x).1.length ≤ r.1.length + 1 := by
  unfold stStep
  split
  · omega
  · split
    · split
      · rw [List.length_append, List.length_dropLast]
        simp only [List.length_cons, List.length_nil]
        omega
      · rw [List.length_append]
        exact Nat.le_refl _
    · rw [List.length_append]
      exact Nat.le_refl _
theorem stFold_len (l : List (Str × Rat)) : (stFold l).1.length ≤ l.length := by
  have key : ∀ (l : List (Str × Rat)) (r : List Tl × Rat), (l.foldl stStep r).1.length ≤ r.1.length + l.length := fun l => by
    induction l with
    | nil => intro r; exact Nat.le_refl _
    | cons x l ih =>
      intro r
      have a := ih (stStep r x)
      have b := stStep_len r x
      rw [List.foldl_cons, List.length_cons]
      omega
  have := key l ([], 0)
  rw [show (([] : List Tl), (0 : Rat)).1.length = 0 from rfl, Nat.zero_add] at this
  exact this
theorem tl_at {K : PySem.W.Frag} {H : Hp} {v : V} {x : Tl} (h : Dp K H v (tlD x)) : ∃ b q1 q2, v = .ref b ∧ SqT K H b [.str x.1, .ref q1, .ref q2] ∧ SqT K H q1 (tv (am x.2.1)) ∧ SqT K H q2 (tv (am x.2.2)) := by
  cases h with
  | tup hs hall =>
    cases hall with
    | cons h1 h2 =>
      cases h1
      cases h2 with
      | cons h3 h4 =>
        obtain ⟨q1, rfl, e1⟩ := pd_at h3
        cases h4 with
        | cons h5 h6 =>
          obtain ⟨q2, rfl, e2⟩ := pd_at h5
          cases h6
          exact ⟨_, q1, q2, rfl, hs, e1, e2⟩
theorem mk_at {K : PySem.W.Frag} {H : Hp} {v : V} {n : Str} {r : Rat} (h : Dp K H v (.tuple [.str n, amD (am r)])) : ∃ b q, v = .ref b ∧ SqT K H b [.str n, .ref q] ∧ SqT K H q (tv (am r)) := by
  cases h with
  | tup hs hall =>
    cases hall with
    | cons h1 h2 =>
      cases h1
      cases h2 with
      | cons h3 h4 =>
        obtain ⟨q1, rfl, e1⟩ := pd_at h3
        cases h4
        exact ⟨_, q1, rfl, hs, e1⟩
theorem tl_dp {K : PySem.W.Frag} {H : Hp} {b q1 q2 : Addr} {n : Str} {x y : Rat} (h : SqT K H b [.str n, .ref q1, .ref q2]) (h1 : SqT K H q1 (tv (am x))) (h2 : SqT K H q2 (tv (am y))) : Dp K H (.ref b) (tlD (n, x, y)) := .tup h (.cons (.str _) (.cons (amD_dp h1) (.cons (amD_dp h2) .nil)))
theorem noL_tl (l : List Tl) : (l.map tlD).all (noL 4) = true := by
  rw [List.all_map]
  exact List.all_eq_true.mpr fun _ _ => rfl
theorem Sx.tls {T : Tb} {S : List Addr} {K : PySem.W.Frag} {H H' : Hp} {us : List V} {l : List Tl} (e : Sx T S H H') (h : DpAll K H us (l.map tlD)) : DpAll K H' us (l.map tlD) := e.dps 4 _ _ (noL_tl l) h
theorem set_last {α : Type} {l : List α} {v : α} (h : 0 < l.length) : l.set (l.length - 1) v = l.dropLast ++ [v] := by
  have hne : l ≠ [] := List.length_pos_iff.mp h
  obtain ⟨ys, z, rfl⟩ : ∃ ys z, l = ys ++ [z] := ⟨l.dropLast, l.getLast hne, (List.dropLast_concat_getLast hne).symm⟩
  rw [List.dropLast_concat, List.length_append, show ys.length + [z].length - 1 = ys.length by simp, List.set_append_right _ _ (Nat.le_refl _), Nat.sub_self]
  rfl
/-- who bore the pail from where to where -/
def bearer (s : Ch) (k : Int) : List (Str × Rat) := if k ∈ s.loads then [(s.row.getD (s.loads.idxOf k) "", s.spots.getD (s.loads.idxOf k) 0)] else []
def storyM (s : Ch) (k : Nat) : List Tl := stRows (s.marks.getD k [] ++ bearer s k)
theorem inV_ints (n : Int) (l : List Int) : inV (.int n) (l.map V.int) = decide (n ∈ l) := by
  unfold inV
  induction l with
  | nil => simp
  | cons x l ih =>
    rw [List.map_cons, List.any_cons, ih]
    show ((x == n) || _) = _
    by_cases h : x = n
    · subst h
      simp
    · have e : (x == n) = false := by simpa using h
      rw [e, Bool.false_or]
      refine decide_eq_decide.mpr ?_
      rw [List.mem_cons]
      exact ⟨.inr, fun z => z.resolve_left fun y => h y.symm⟩
theorem flat_intsV (l : List Int) : (l.map V.int).all flatV = true := by
  rw [List.all_map]
  exact List.all_eq_true.mpr fun _ _ => rfl
theorem ints_ix {l : List Int} {n : Int} (h : n ∈ l) : (l.map V.int)[l.idxOf n]? = some (.int n) ∧ ∀ (m : Nat) (z : V), m < l.idxOf n → (l.map V.int)[m]? = some z → eqV z (.int n) = false := by
  have hl := List.idxOf_lt_length_of_mem h
  refine ⟨?_, fun m z hm hz => ?_⟩
  · rw [List.getElem?_map, List.getElem?_eq_getElem hl, List.getElem_idxOf]
    rfl
  · rw [List.getElem?_map, List.getElem?_eq_getElem (by omega)] at hz
    cases hz
    have := List.not_of_lt_findIdx (p := (· == n)) (xs := l) (i := m) hm
    show (l[m] == n) = false
    simpa using this

/-! ### called away, told to stay, a new pace -/
def callW (s : Ch) (n : Str) : Option Str := if n ∈ s.row then (if n ∈ s.leaving then some "called" else none) else some "no hand"
def callS (s : Ch) (n : Str) : Ch := { s with leaving := s.leaving ++ [n] }
def sp_p_Chain_call (K : PySem.W.Frag) (T : Tb) (CP CC : Addr) : Sp := fun vs H Q E => ∃ (c : Addr) (A : Ad) (s : Ch) (n : Str), vs = [.ref c, .str n] ∧ ChAt K CC H c A s ∧ s.leaving.length ≤ 1000 ∧
  (callW s n = none → ∀ H', Sx T (ownC c A) H H' → ChAt K CC H' c A (callS s n) → Q .non H') ∧ (∀ wd, callW s n = some wd → ∀ cls d H', Sm T H H' → Rf K CP wd cls d H' → E cls d H')
theorem ok_p_Chain_call {f : Addr} {fd : FuncData} (F : Fun K "call" "Chain.call" s_p_Chain_call f fd) {CP : Addr} (R_Called : Err P w K mg base CP "Called" "called") {CC : Addr} (TC : Kl K CC) (M_number_of : Mx P w K mg base CC 4 "number_of" ["self", "name"] (sp_p_Chain_number_of K T CP CC)) : FnOk P w K mg base (L2.CX P w) 5 f fd ["self", "name"] (sp_p_Chain_call K T CP CC) := by
  refine F.okX sc_p_Chain_call (fun vs H Q E h => ?_) (fun cdv A outer s H vs Q E hr h => ?_)
  · obtain ⟨c, A, s, n, rfl, _⟩ := h
    rfl
  · obtain ⟨c, A, s, n, rfl, h, hl, k1, k2⟩ := h
    refine ⟨_, (pss_cons (ps_expr (pe_mx M_number_of TC.cl (hr.mono (by decide)) (takes_of rfl rfl rfl rfl) (pv 0) (pa_cons (pv 1) pa_nil)))
      (pss_cons (ps_if (pt_cmpR op_in_seq (pv 1) (pe_fc TC.cl (TC.no "leaving" (by decide +kernel)) (pv 0)) (by rfl)) (pss_one (ps_raise rfl (takes_of rfl rfl rfl rfl) (pmk_err R_Called (hr.mono (by decide)) (by rfl)))) pss_nil)
      (pss_one (ps_expr (pe_bm PySem.F.plainAttrs_list PySem.F.slot_list_append PySem.F.type_list_append mt_append (pe_fc TC.cl (TC.no "leaving" (by decide +kernel)) (pv 0)) (pa_cons (pv 1) pa_nil)))))), ?_⟩
    refine ⟨_, rfl, c, _, _, rfl, h.ins, fl_no (by decide +kernel), _, rfl, c, A, s, n, rfl, h, fun hm => ?_, fun hm cls d H' s' rf => k2 "no hand" (by unfold callW; rw [if_neg hm]) cls d H' s' rf⟩
    refine ⟨_, rfl, _, rfl, c, _, _, _, rfl, h.ins, fl_lv, A.lv, _, rfl, .inl (SqL.of h.lv), rfl, flat_strs _, _, rfl, ?_⟩
    show if inV (.str n) (s.leaving.map V.str) = true then _ else _
    rw [inV_strs]
    by_cases hv : n ∈ s.leaving
    · rw [decide_eq_true hv]
      exact iteT fun cls dd hn' rf => k2 "called" (by unfold callW; rw [if_pos hm, if_pos hv]) cls (some dd) _ (same_upd hn') rf
    · rw [decide_eq_false hv]
      refine iteF ⟨_, rfl, c, _, _, _, rfl, h.ins, fl_lv, .inl ⟨rfl, _, SqL.of h.lv⟩, _, rfl, A.lv, _, _, rfl, rfl, h.lv, szl (by rw [List.length_map]; omega), ?_⟩
      have h2 := h.set_lv (s.leaving ++ [n])
      have x2 : Sx T (ownC c A) H (upd H A.lv (.lst ((s.leaving ++ [n]).map V.str))) := sx_upd h.lv rfl (by simp [ownC])
      rw [show s.leaving.map V.str ++ [V.str n] = (s.leaving ++ [n]).map V.str from by rw [List.map_append]; rfl]
      exact k1 (by unfold callW; rw [if_pos hm, if_neg hv]) _ x2 h2
def paceW (s : Ch) (n : Str) (p : Int) : Option Str := if n ∈ s.row then (if paceB p = true then none else some "bad pace") else some "no hand"
def paceS (s : Ch) (n : Str) (p : Int) : Ch := { s with tempos := putL s.tempos n p }
def stayW (s : Ch) (n : Str) : Option Str := if n ∈ s.row then (if n ∈ s.leaving then none else some "not called") else some "no hand"
def stayS (s : Ch) (n : Str) : Ch := { s with leaving := s.leaving.eraseIdx (s.leaving.idxOf n) }
def sp_p_Chain_stay (K : PySem.W.Frag) (T : Tb) (CP CC : Addr) : Sp := fun vs H Q E => ∃ (c : Addr) (A : Ad) (s : Ch) (n : Str), vs = [.ref c, .str n] ∧ ChAt K CC H c A s ∧
  (stayW s n = none → ∀ H', Sx T (ownC c A) H H' → ChAt K CC H' c A (stayS s n) → Q .non H') ∧ (∀ wd, stayW s n = some wd → ∀ cls d H', Sm T H H' → Rf K CP wd cls d H' → E cls d H')
theorem ok_p_Chain_stay {f : Addr} {fd : FuncData} (F : Fun K "stay" "Chain.stay" s_p_Chain_stay f fd) {CP : Addr} (R_NotCalled : Err P w K mg base CP "NotCalled" "not called") {CC : Addr} (TC : Kl K CC) (M_number_of : Mx P w K mg base CC 4 "number_of" ["self", "name"] (sp_p_Chain_number_of K T CP CC)) : FnOk P w K mg base (L2.CX P w) 5 f fd ["self", "name"] (sp_p_Chain_stay K T CP CC) := by
  refine F.okX sc_p_Chain_stay (fun vs H Q E h => ?_) (fun cdv A outer s H vs Q E hr h => ?_)
  · obtain ⟨c, A, s, n, rfl, _⟩ := h
    rfl
  · obtain ⟨c, A, s, n, rfl, h, k1, k2⟩ := h
    refine ⟨_, (pss_cons (ps_expr (pe_mx M_number_of TC.cl (hr.mono (by decide)) (takes_of rfl rfl rfl rfl) (pv 0) (pa_cons (pv 1) pa_nil)))
      (pss_cons (ps_if (pt_cmpR op_notIn_seq (pv 1) (pe_fc TC.cl (TC.no "leaving" (by decide +kernel)) (pv 0)) (by rfl)) (pss_one (ps_raise rfl (takes_of rfl rfl rfl rfl) (pmk_err R_NotCalled (hr.mono (by decide)) (by rfl)))) pss_nil)
      (pss_one (ps_expr (pe_bm PySem.F.plainAttrs_list PySem.F.slot_list_remove PySem.F.type_list_remove mt_remS (pe_fc TC.cl (TC.no "leaving" (by decide +kernel)) (pv 0)) (pa_cons (pv 1) pa_nil)))))), ?_⟩
    refine ⟨_, rfl, c, _, _, rfl, h.ins, fl_no (by decide +kernel), _, rfl, c, A, s, n, rfl, h, fun hm => ?_, fun hm cls d H' s' rf => k2 "no hand" (by unfold stayW; rw [if_neg hm]) cls d H' s' rf⟩
    refine ⟨_, rfl, _, rfl, c, _, _, _, rfl, h.ins, fl_lv, A.lv, _, rfl, .inl (SqL.of h.lv), rfl, flat_strs _, _, rfl, ?_⟩
    show if (!inV (.str n) (s.leaving.map V.str)) = true then _ else _
    rw [inV_strs]
    by_cases hv : n ∈ s.leaving
    · rw [decide_eq_true hv]
      refine iteF ⟨_, rfl, c, _, _, _, rfl, h.ins, fl_lv, .inl ⟨rfl, _, SqL.of h.lv⟩, _, rfl, A.lv, s.leaving, n, rfl, rfl, h.lv, hv, ?_⟩
      have h2 := h.set_lv (s.leaving.eraseIdx (s.leaving.idxOf n))
      have x2 : Sx T (ownC c A) H (upd H A.lv (.lst ((s.leaving.eraseIdx (s.leaving.idxOf n)).map V.str))) := sx_upd h.lv rfl (by simp [ownC])
      exact k1 (by unfold stayW; rw [if_pos hm, if_pos hv]) _ x2 h2
    · rw [decide_eq_false hv]
      exact iteT fun cls dd hn' rf => k2 "not called" (by unfold stayW; rw [if_pos hm, if_neg hv]) cls (some dd) _ (same_upd hn') rf

/-! ### places changed -/
def swapL (l : List Str) (i : Nat) : List Str := (l.set i (l.getD (i + 1) "")).set (i + 1) (l.getD i "")
def swapW (s : Ch) (n : Str) : Option Str := if n ∈ s.row then (if s.row.idxOf n + 1 = s.row.length then some "no next" else none) else some "no hand"
def swapS (s : Ch) (n : Str) : Ch := { markS (markS s (s.row.idxOf n)) (s.row.idxOf n + 1) with row := swapL s.row (s.row.idxOf n) }
def sp_p_Chain_swap (K : PySem.W.Frag) (T : Tb) (CP CC : Addr) : Sp := fun vs H Q E => ∃ (c : Addr) (A : Ad) (s : Ch) (n : Str), vs = [.ref c, .str n] ∧ ChAt K CC H c A s ∧ Side s ∧ (∀ m ∈ s.marks, m.length ≤ 4900) ∧
  (swapW s n = none → ∀ H', Sx T (ownC c A) H H' → ChAt K CC H' c A (swapS s n) → Q .non H') ∧ (∀ wd, swapW s n = some wd → ∀ cls d H', Sm T H H' → Rf K CP wd cls d H' → E cls d H')
theorem ok_p_Chain_swap {f : Addr} {fd : FuncData} (F : Fun K "swap" "Chain.swap" s_p_Chain_swap f fd) (B : Bn mg) {CP : Addr} (R_NoNext : Err P w K mg base CP "NoNext" "no next") {CC : Addr} (TC : Kl K CC) (M_number_of : Mx P w K mg base CC 4 "number_of" ["self", "name"] (sp_p_Chain_number_of K T CP CC)) (M_mark : Mt P w K mg base CC 1 "mark" ["self", "at"] (sp_p_Chain_mark K T CC)) : FnOk P w K mg base (L2.CX P w) 5 f fd ["self", "name"] (sp_p_Chain_swap K T CP CC) := by
  refine F.okX sc_p_Chain_swap (fun vs H Q E h => ?_) (fun cdv A outer s H vs Q E hr h => ?_)
  · obtain ⟨c, A, s, n, rfl, _⟩ := h
    rfl
  · obtain ⟨c, A, s, n, rfl, h, sd, hmm, k1, k2⟩ := h
    refine ⟨_, (pss_cons (ps_set (i := 2) sc_p_Chain_swap.nd rfl (.inl rfl) (pe_mx M_number_of TC.cl (hr.mono (by decide)) (takes_of rfl rfl rfl rfl) (pv 0) (pa_cons (pv 1) pa_nil)))
      (pss_cons (ps_if (pt_cmpR op_eq (pv 2) (pe_op op_sub (pe_callB call_len_seq (by rfl) B.len_ (by decide +kernel) (pa_cons (pe_fc TC.cl (TC.no "row" (by decide +kernel)) (pv 0)) pa_nil)) pe_int) (nomark _)) (pss_one (ps_raise rfl (takes_of rfl rfl rfl rfl) (pmk_err R_NoNext (hr.mono (by decide)) (by rfl)))) pss_nil)
      (pss_cons (ps_expr (pe_mt M_mark TC.cl (hr.mono (by decide)) (pv 0) (pa_cons (pv 2) pa_nil)))
      (pss_cons (ps_expr (pe_mt M_mark TC.cl (hr.mono (by decide)) (pv 0) (pa_cons (pe_op op_add (pv 2) pe_int) pa_nil)))
      (pss_one (ps_asg (pe_tup (pa_cons (pe_ix ix_list (pe_fc TC.cl (TC.no "row" (by decide +kernel)) (pv 0)) (pe_op op_add (pv 2) pe_int) (fun _ _ => rfl)) (pa_cons (pe_ix ix_list (pe_fc TC.cl (TC.no "row" (by decide +kernel)) (pv 0)) (pv 2) (fun _ _ => rfl)) pa_nil))) (pg_tup rfl (pgs_cons (pg_sub (pe_fc TC.cl (TC.no "row" (by decide +kernel)) (pv 0)) (pv 2) set_list) (pgs_cons (pg_sub (pe_fc TC.cl (TC.no "row" (by decide +kernel)) (pv 0)) (pe_op op_add (pv 2) pe_int) set_list) pgs_nil))))))))), ?_⟩
    refine ⟨_, rfl, c, _, _, rfl, h.ins, fl_no (by decide +kernel), _, rfl, c, A, s, n, rfl, h, fun hm => ?_, fun hm cls d H' s' rf => k2 "no hand" (by unfold swapW; rw [if_neg hm]) cls d H' s' rf⟩
    have hi := List.idxOf_lt_length_of_mem hm
    dsimp only [gName]
    refine ⟨_, rfl, _, rfl, c, _, _, _, rfl, h.ins, fl_rw, A.rw, _, rfl, .inl (SqL.of h.rw), _, _, rfl, rfl, rfl, _, rfl, ?_⟩
    rw [List.length_map]
    by_cases hl : s.row.idxOf n + 1 = s.row.length
    · rw [decide_eq_true (show V.int (s.row.idxOf n : Nat) = V.int ((s.row.length : Int) - 1) from congrArg V.int (by omega))]
      exact iteT fun cls dd hn' rf => k2 "no next" (by unfold swapW; rw [if_pos hm, if_pos hl]) cls (some dd) _ (same_upd hn') rf
    · rw [decide_eq_false (fun z => hl (by have := V.int.inj z; omega))]
      refine iteF ?_
      have hl2 : s.row.idxOf n + 1 < s.row.length := by omega
      refine ⟨_, rfl, c, _, _, rfl, h.ins, fl_no (by decide +kernel), _, rfl, c, A, s, s.row.idxOf n, rfl, h, sd, hi, fun m hm' => Nat.le_trans (hmm m hm') (by decide), fun H1 x1 h1 => ?_⟩
      have sd1 := markS_side sd (s.row.idxOf n)
      refine ⟨_, rfl, c, _, _, rfl, h1.ins, fl_no (by decide +kernel), _, rfl, _, _, rfl, rfl, c, A, markS s (s.row.idxOf n), s.row.idxOf n + 1, rfl, h1, sd1, hl2, fun m hm' => ?_, fun H2 x2 h2 => ?_⟩
      · have hm' : m ∈ s.marks.set _ _ := hm'
        rcases List.mem_or_eq_of_mem_set hm' with z | z
        · exact Nat.le_trans (hmm m z) (by decide)
        · rw [z, List.length_append]
          have : (s.marks.getD (s.loads.getD (s.row.idxOf n) 0).toNat []).length ≤ 4900 := by
            rcases Nat.lt_or_ge (s.loads.getD (s.row.idxOf n) 0).toNat s.marks.length with y | y
            · exact hmm _ (getD_mem (d := []) y)
            · rw [List.getD_eq_getElem?_getD, List.getElem?_eq_none y]; exact Nat.zero_le _
          show _ + 1 ≤ 5000
          omega
      · have x12 := x1.step x2
        have er : (markS (markS s (s.row.idxOf n)) (s.row.idxOf n + 1)).row = s.row := rfl
        have g1 : (s.row.map V.str)[s.row.idxOf n + 1]? = some (.str (s.row.getD (s.row.idxOf n + 1) "")) := by rw [List.getElem?_map, List.getElem?_eq_getElem hl2, getD_lt hl2]; rfl
        have g0 : (s.row.map V.str)[s.row.idxOf n]? = some (.str (s.row.getD (s.row.idxOf n) "")) := by rw [List.getElem?_map, List.getElem?_eq_getElem hi, getD_lt hi]; rfl
        have e2 : H2 A.rw = some (.lst (s.row.map V.str)) := h2.rw
        refine ⟨_, rfl, c, _, _, _, rfl, h2.ins, fl_rw, _, rfl, _, _, rfl, rfl, A.rw, _, _, _, rfl, rfl, SqL.of e2, at_of (j := s.row.idxOf n + 1) (by omega) g1, _, rfl, c, _, _, _, rfl, h2.ins, fl_rw, _, rfl, A.rw, _, _, _, rfl, rfl, SqL.of e2, at_of (j := s.row.idxOf n) rfl g0, by show 2 ≤ sizeLine; decide, fun t3 n3 => ?_⟩
        have u3 := same_upd (T := T) (o := HO.tup [V.str (s.row.getD (s.row.idxOf n + 1) ""), V.str (s.row.getD (s.row.idxOf n) "")]) n3
        have h3 := h2.sm u3
        have x03 := x12.sm' u3
        have et : upd H2 t3 (.tup [V.str (s.row.getD (s.row.idxOf n + 1) ""), V.str (s.row.getD (s.row.idxOf n) "")]) t3 = some (.tup [V.str (s.row.getD (s.row.idxOf n + 1) ""), V.str (s.row.getD (s.row.idxOf n) "")]) := upd_same
        have e3 := u3.k e2
        clear u3 n3 x12 x1 x2 e2 h2 h1
        generalize upd H2 t3 (.tup [V.str (s.row.getD (s.row.idxOf n + 1) ""), V.str (s.row.getD (s.row.idxOf n) "")]) = H3 at *
        have ix : ∀ {k : Nat} {l : List V}, k < l.length → ixN l.length (k : Int) = some k := fun {k l} hk => by
          unfold ixN
          rw [if_pos (by omega), if_pos (by omega)]
          congr 1
        refine ⟨t3, _, rfl, SqT.of et, rfl, _, _, rfl, _, rfl, c, _, _, _, rfl, h3.ins, fl_rw, _, rfl, A.rw, _, _, s.row.idxOf n, rfl, rfl, e3, ix (by rw [List.length_map]; exact hi), ?_⟩
        have h4 := h3.set_rw (s.row.set (s.row.idxOf n) (s.row.getD (s.row.idxOf n + 1) ""))
        have x4 : Sx T (ownC c A) H3 (upd H3 A.rw (.lst ((s.row.set (s.row.idxOf n) (s.row.getD (s.row.idxOf n + 1) "")).map V.str))) := sx_upd e3 rfl (by simp [ownC])
        rw [show (s.row.map V.str).set (s.row.idxOf n) (V.str (s.row.getD (s.row.idxOf n + 1) "")) = (s.row.set (s.row.idxOf n) (s.row.getD (s.row.idxOf n + 1) "")).map V.str from by rw [List.map_set]]
        have x04 := x03.step x4
        have e4 : upd H3 A.rw (.lst ((s.row.set (s.row.idxOf n) (s.row.getD (s.row.idxOf n + 1) "")).map V.str)) A.rw = some (.lst ((s.row.set (s.row.idxOf n) (s.row.getD (s.row.idxOf n + 1) "")).map V.str)) := upd_same
        clear x4 x03 e3 h3 et
        generalize upd H3 A.rw (.lst ((s.row.set (s.row.idxOf n) (s.row.getD (s.row.idxOf n + 1) "")).map V.str)) = H4 at *
        refine ⟨_, _, rfl, _, rfl, c, _, _, _, rfl, h4.ins, fl_rw, _, rfl, _, _, rfl, rfl, A.rw, _, _, s.row.idxOf n + 1, rfl, rfl, e4, ix (by rw [List.length_map, List.length_set]; exact hl2), ?_⟩
        have h5 := h4.set_rw (swapL s.row (s.row.idxOf n))
        have x5 : Sx T (ownC c A) H4 (upd H4 A.rw (.lst ((swapL s.row (s.row.idxOf n)).map V.str))) := sx_upd e4 rfl (by simp [ownC])
        rw [show ((s.row.set (s.row.idxOf n) (s.row.getD (s.row.idxOf n + 1) "")).map V.str).set (s.row.idxOf n + 1) (V.str (s.row.getD (s.row.idxOf n) "")) = (swapL s.row (s.row.idxOf n)).map V.str from by unfold swapL; simp only [List.map_set]]
        exact ⟨rfl, k1 (by unfold swapW; rw [if_pos hm, if_neg hl]) _ (x04.step x5) h5⟩

/-! ### hands in any order -/
theorem pair_of : ∀ {xs : List Rat}, (∀ j, j + 1 < xs.length → xs.getD j 0 ≤ xs.getD (j + 1) 0) → xs.Pairwise (· ≤ ·)
  | [], _ => .nil
  | [_], _ => by simp
  | x :: y :: l, h => by
    have ih := pair_of (xs := y :: l) fun j hj => h (j + 1) (by simpa using hj)
    have h0 : x ≤ y := h 0 (by simp)
    rw [List.pairwise_cons]
    refine ⟨fun z hz => ?_, ih⟩
    rcases List.mem_cons.mp hz with e | e
    · rw [e]; exact h0
    · exact Rat.le_trans h0 ((List.pairwise_cons.mp ih).1 z e)
theorem sum_le_sum : ∀ {ps qs : List Int}, ps.length = qs.length → (∀ j, j < qs.length → ps.getD j 0 ≤ qs.getD j 0) → ps.sum ≤ qs.sum
  | [], [], _, _ => Int.le_refl _
  | [], _ :: _, h, _ => by simp at h
  | _ :: _, [], h, _ => by simp at h
  | p :: ps, q :: qs, h, g => by
    have ih := sum_le_sum (ps := ps) (qs := qs) (by simpa using h) fun j hj => g (j + 1) (by simpa using hj)
    have h0 : p ≤ q := g 0 (by simp)
    rw [List.sum_cons, List.sum_cons]
    omega
section
variable {D L : Int} {ns : List Int} {xs : List Rat}
/-- between turns nobody gets quicker -/
theorem spd_down (w : Wk D L ns xs) {t : Rat} (h0 : 0 ≤ t) (ht : t ≤ meetM L ns xs) : ∀ {j : Nat}, j < ns.length → (spd ns (walkM ns xs t)).getD j 0 ≤ (spd ns xs).getD j 0 := by
  have hl' : ns.length = (walkM ns xs t).length := (walkM_len _ _ _).symm
  have key : ∀ k j, j < ns.length → ns.length - j ≤ k → (spd ns (walkM ns xs t)).getD j 0 ≤ (spd ns xs).getD j 0 := by
    intro k
    induction k with
    | zero => intro j h1 h2; omega
    | succ k ih =>
      intro j h1 h2
      have e1 := spd_rec hl' h1
      have e0 := spd_rec w.eq h1
      by_cases c : (spd ns xs).getD j 0 = ns.getD j 0
      · rw [c]
        exact spd_le hl' h1
      · have c1 : j + 1 < ns.length ∧ xs.getD j 0 = xs.getD (j + 1) 0 := by
          refine Classical.byContradiction fun z => c ?_
          rw [e0, if_neg z]
        rw [if_pos c1] at e0
        have c2 : (spd ns xs).getD j 0 = (spd ns xs).getD (j + 1) 0 := by
          rw [e0] at c ⊢
          unfold mnI at c ⊢
          split
          · rfl
          · rename_i z
            rw [if_neg z] at c
            exact absurd rfl c
        have c3 : (walkM ns xs t).getD j 0 = (walkM ns xs t).getD (j + 1) 0 := by
          rw [walkM_get h1, walkM_get c1.1, c1.2, c2]
        rw [e1, if_pos ⟨c1.1, c3⟩, c2]
        exact Int.le_trans (mnI_le_r _ _) (ih (j + 1) c1.1 (by omega))
  exact fun {j} hj => key _ j hj (Nat.le_refl _)
/-- the pairs of which the one behind is held up -/
def stkB (ns : List Int) (xs : List Rat) (j : Nat) : Bool := decide (xs.getD j 0 = xs.getD (j + 1) 0) && decide ((spd ns xs).getD (j + 1) 0 ≤ ns.getD j 0)
def stkN (ns : List Int) (xs : List Rat) : Nat := (List.range (ns.length - 1)).countP (stkB ns xs)
theorem stk_le (ns : List Int) (xs : List Rat) : stkN ns xs ≤ ns.length - 1 := by
  have := List.countP_le_length (p := stkB ns xs) (l := List.range (ns.length - 1))
  rw [List.length_range] at this
  exact this
theorem stk_keep (w : Wk D L ns xs) {t : Rat} (h0 : 0 ≤ t) (ht : t ≤ meetM L ns xs) {j : Nat} (hj : j + 1 < ns.length) (h : stkB ns xs j = true) : stkB ns (walkM ns xs t) j = true := by
  unfold stkB at h ⊢
  simp only [Bool.and_eq_true, decide_eq_true_eq] at h ⊢
  have e0 := spd_rec w.eq (show j < ns.length by omega)
  rw [if_pos ⟨hj, h.1⟩] at e0
  have e1 : (spd ns xs).getD j 0 = (spd ns xs).getD (j + 1) 0 := by
    rw [e0]
    unfold mnI
    split
    · rfl
    · omega
  refine ⟨by rw [walkM_get (by omega), walkM_get hj, h.1, e1], Int.le_trans (spd_down w h0 ht hj) h.2⟩
theorem cnt_lt {α : Type} {p q : α → Bool} : ∀ {l : List α}, (∀ x ∈ l, p x = true → q x = true) → (∃ x ∈ l, p x = false ∧ q x = true) → l.countP p < l.countP q
  | [], _, ⟨_, h, _⟩ => (nomatch h)
  | a :: l, h, ⟨x, hx, h1, h2⟩ => by
    have mono : l.countP p ≤ l.countP q := List.countP_mono_left fun x hx => h x (List.mem_cons_of_mem _ hx)
    rw [List.countP_cons, List.countP_cons]
    rcases List.mem_cons.mp hx with e | e
    · rw [← e, h1, h2]
      simp
      omega
    · have ih := cnt_lt (fun x hx => h x (List.mem_cons_of_mem _ hx)) ⟨x, e, h1, h2⟩
      have ha := h a List.mem_cons_self
      cases hp : p a with
      | false => simp; split <;> omega
      | true => rw [ha hp]; simp; omega
/-- a meeting ahead of the fire holds one more up -/
theorem stk_meet (w : Wk D L ns xs) (hn : 0 < ns.length) (h0 : 0 ≤ meetM L ns xs) (hf : (walkM ns xs (meetM L ns xs)).getD (ns.length - 1) 0 ≠ (L : Rat)) : stkN ns xs < stkN ns (walkM ns xs (meetM L ns xs)) := by
  refine cnt_lt (fun j hj h => stk_keep w h0 Rat.le_refl (by rw [List.mem_range] at hj; omega) h) ?_
  rcases meet_come w hn with c | ⟨j, hj, hne, he⟩
  · exact absurd (by rw [walkM_get (by omega)]; exact c) hf
  · refine ⟨j, List.mem_range.mpr (by omega), ?_, ?_⟩
    · unfold stkB
      rw [decide_eq_false hne]
      rfl
    · have lt : xs.getD j 0 < xs.getD (j + 1) 0 := by have := ps_le w hj; grind
      have g : (spd ns xs).getD (j + 1) 0 < (spd ns xs).getD j 0 := by
        refine Classical.byContradiction fun z => ?_
        have k : (((spd ns xs).getD j 0 : Int) : Rat) ≤ (((spd ns xs).getD (j + 1) 0 : Int) : Rat) := Rat.intCast_le_intCast.mpr (by omega)
        have := Rat.mul_le_mul_of_nonneg_left k h0
        grind
      unfold stkB
      simp only [Bool.and_eq_true, decide_eq_true_eq]
      refine ⟨by rw [walkM_get (by omega), walkM_get hj]; exact he, ?_⟩
      have a := spd_down w h0 Rat.le_refl hj
      have b := spd_le w.eq (show j < ns.length by omega)
      omega
/-- walking on keeps the order -/
theorem wk_walk (w : Wk D L ns xs) (hn : 0 < ns.length) (hD : D ≠ 0) {t : Rat} (ft : Fr D t) (h0 : 0 ≤ t) (ht : t ≤ meetM L ns xs) : Wk D L ns (walkM ns xs t) := by
  have st : (walkM ns xs t).Pairwise (· ≤ ·) := by
    refine pair_of fun j hj => ?_
    rw [walkM_len] at hj
    rw [walkM_get (by omega), walkM_get hj]
    exact meet_order w h0 ht hj
  have hlast : (walkM ns xs t).getD (ns.length - 1) 0 ≤ (L : Rat) := by
    rw [walkM_get (by omega)]
    exact meet_fire w hn ht
  have each : ∀ y ∈ walkM ns xs t, ∃ j, j < ns.length ∧ y = xs.getD j 0 + t * (((spd ns xs).getD j 0 : Int) : Rat) := fun y hy => by
    obtain ⟨j, hj, e⟩ := List.getElem_of_mem hy
    have hj' := hj
    rw [walkM_len] at hj'
    exact ⟨j, hj', by rw [← e, ← getD_lt (d := (0 : Rat)) hj, walkM_get hj']⟩
  refine ⟨(walkM_len _ _ _).symm, w.n8, w.pace, st, fun y hy => ?_, fun y hy => ?_, fun y hy => ?_⟩
  · obtain ⟨j, hj, rfl⟩ := each y hy
    have a := w.nn _ (getD_mem (l := xs) (i := j) (d := (0 : Rat)) (by rw [← w.eq]; exact hj))
    have b := spd_bd w hj
    have c : (0 : Rat) ≤ t * (((spd ns xs).getD j 0 : Int) : Rat) := Rat.mul_nonneg h0 (Rat.intCast_nonneg.mpr (by omega))
    grind
  · refine Rat.le_trans ?_ hlast
    obtain ⟨i, hi, e⟩ := List.getElem_of_mem hy
    have hi' := hi
    rw [walkM_len] at hi'
    rw [← e, getD_lt (by rw [walkM_len]; omega)]
    rcases Nat.lt_or_ge i (ns.length - 1) with z | z
    · exact List.pairwise_iff_getElem.mp st i (ns.length - 1) hi (by rw [walkM_len]; omega) z
    · have : i = ns.length - 1 := by omega
      subst this
      exact Rat.le_refl
  · obtain ⟨j, hj, rfl⟩ := each y hy
    refine (w.fr _ (getD_mem (l := xs) (i := j) (d := (0 : Rat)) (by rw [← w.eq]; exact hj))).add ?_
    rw [Rat.mul_comm]
    exact ft.mulI _
end

/-! ### turns, also with somebody called away -/
def markR (s : Ch) (a : Nat) : Nat → Ch
  | 0 => s
  | i + 1 => markS (markR s a i) (a + i)
theorem markR_eq (s : Ch) (a : Nat) : ∀ n, ∃ mk, markR s a n = { s with marks := mk } ∧ mk.length = s.marks.length
  | 0 => ⟨s.marks, rfl, rfl⟩
  | n + 1 => by
    obtain ⟨mk, e, l⟩ := markR_eq s a n
    show ∃ mk', markS (markR s a n) (a + n) = _ ∧ _
    rw [e]
    exact ⟨_, rfl, by rw [List.length_set]; exact l⟩
theorem markR_side {s : Ch} (h : Side s) (a n : Nat) : Side (markR s a n) := by
  obtain ⟨mk, e, l⟩ := markR_eq s a n
  rw [e]
  exact ⟨h.ll, h.ls, h.n8, fun x hx => by show 0 ≤ x ∧ x < (mk.length : Int); rw [l]; exact h.ld x hx⟩
theorem idx_at {l : List Int} (nd : l.Nodup) {j : Nat} {k : Int} (h : l[j]? = some k) : l.idxOf k = j ∧ k ∈ l := by
  have hj := (List.getElem?_eq_some_iff.mp h).1
  have e := (List.getElem?_eq_some_iff.mp h).2
  have hm : k ∈ l := by rw [← e]; exact List.getElem_mem hj
  have hl : l.idxOf k < l.length := List.idxOf_lt_length_of_mem hm
  refine ⟨(List.getElem_inj (h₀ := hl) (h₁ := hj) nd).mp ?_, hm⟩
  rw [List.getElem_idxOf hl, e]
/-- the marks behind a marking from a on, n of them -/
theorem markR_get {s : Ch} (sd : Side s) (nd : s.loads.Nodup) (a : Nat) : ∀ n, a + n ≤ s.row.length → ∀ k : Nat, (markR s a n).marks.getD k [] = s.marks.getD k [] ++ (if a ≤ s.loads.idxOf (k : Int) ∧ s.loads.idxOf (k : Int) < a + n then [(s.row.getD (s.loads.idxOf (k : Int)) "", s.spots.getD (s.loads.idxOf (k : Int)) 0)] else [])
  | 0, _, k => by rw [if_neg (by omega), List.append_nil]; rfl
  | n + 1, h, k => by
    have ih := markR_get sd nd a n (by omega) k
    obtain ⟨mk, e, l⟩ := markR_eq s a n
    have hq : a + n < s.loads.length := by rw [sd.ll]; omega
    have hb := sd.ld _ (getD_mem (d := (0 : Int)) hq)
    have gq : s.loads[a + n]? = some (s.loads.getD (a + n) 0) := by rw [getD_lt hq, List.getElem?_eq_getElem hq]
    show (markS (markR s a n) (a + n)).marks.getD k [] = _
    rw [e] at ih ⊢
    show (mk.set (s.loads.getD (a + n) 0).toNat (mk.getD (s.loads.getD (a + n) 0).toNat [] ++ [(s.row.getD (a + n) "", s.spots.getD (a + n) 0)])).getD k [] = _
    have ih : mk.getD k [] = s.marks.getD k [] ++ _ := ih
    by_cases hk : (s.loads.getD (a + n) 0).toNat = k
    · have ek : (k : Int) = s.loads.getD (a + n) 0 := by omega
      have ix := (idx_at nd gq).1
      rw [← ek] at ix
      rw [ix] at ih ⊢
      rw [if_neg (by omega), List.append_nil] at ih
      rw [if_pos ⟨by omega, by omega⟩, hk, List.getD_eq_getElem?_getD, List.getElem?_set_self (by omega), Option.getD_some, ih]
    · rw [List.getD_eq_getElem?_getD, List.getElem?_set_ne hk, ← List.getD_eq_getElem?_getD, ih]
      have ix : s.loads.idxOf (k : Int) ≠ a + n := fun z => hk (by
        have hl : s.loads.idxOf (k : Int) < s.loads.length := by omega
        have := List.getElem_idxOf hl
        have e2 : s.loads.getD (a + n) 0 = (k : Int) := by rw [← z, getD_lt hl]; exact this
        omega)
      congr 1
      by_cases c : a ≤ s.loads.idxOf (k : Int) ∧ s.loads.idxOf (k : Int) < a + n
      · rw [if_pos c, if_pos ⟨c.1, by omega⟩]
      · rw [if_neg c, if_neg (fun z => c ⟨z.1, by omega⟩)]
theorem markR_len {s : Ch} (sd : Side s) (nd : s.loads.Nodup) {b : Nat} (h : ∀ m ∈ s.marks, m.length ≤ b) (a n : Nat) (hn : a + n ≤ s.row.length) : ∀ m ∈ (markR s a n).marks, m.length ≤ b + 1 := fun m hm => by
  obtain ⟨i, hi, rfl⟩ := List.getElem_of_mem hm
  have g := markR_get sd nd a n hn i
  rw [getD_lt hi] at g
  rw [g, List.length_append]
  have h1 : (s.marks.getD i []).length ≤ b := by
    rcases Nat.lt_or_ge i s.marks.length with z | z
    · exact h _ (getD_mem z)
    · rw [List.getD_eq_getElem?_getD, List.getElem?_eq_none z]; exact Nat.zero_le _
  split
  · show _ + 1 ≤ _; omega
  · show _ + 0 ≤ _; omega
def lvI (s : Ch) : Option Nat := (List.range s.row.length).reverse.find? fun i => decide (s.row.getD i "" ∈ s.leaving)
def dropL (l : List (Str × Int)) (n : Str) : List (Str × Int) := l.filter fun x => !decide (x.1 = n)
def goneL (l : List Str) (n : Str) : List Str := l.eraseIdx (l.idxOf n)
def leaveS (s : Ch) (i : Nat) : Ch := { s with row := s.row.eraseIdx i, leaving := goneL s.leaving (s.row.getD i ""), tempos := dropL s.tempos (s.row.getD i "") }
def popS (s : Ch) : Ch := { s with loads := s.loads.dropLast, spots := s.spots.dropLast }
def pourS (s : Ch) : Ch := { s with poured := s.poured ++ [s.loads.getD (s.row.length - 1) 0] }
def turnG (s : Ch) : Ch := match lvI s with
  | none => popS (takeS (markR (pourS s) 0 s.row.length))
  | some i => popS (leaveS (markR (pourS s) i (s.row.length - i)) i)
theorem lvI_some {s : Ch} {i : Nat} (h : lvI s = some i) : i < s.row.length ∧ s.row.getD i "" ∈ s.leaving ∧ ∀ j, i < j → j < s.row.length → s.row.getD j "" ∉ s.leaving := by
  unfold lvI at h
  have hm := List.mem_of_find?_eq_some h
  have hp := List.find?_some h
  rw [List.mem_reverse, List.mem_range] at hm
  refine ⟨hm, of_decide_eq_true hp, fun j hij hj z => ?_⟩
  obtain ⟨as, bs, e1, e2⟩ := (List.find?_eq_some_iff_append.mp h).2
  have ej : j ∈ (List.range s.row.length).reverse := by rw [List.mem_reverse, List.mem_range]; exact hj
  rw [e1] at ej
  have srt : ((List.range s.row.length).reverse).Pairwise (· > ·) := by
    rw [List.pairwise_reverse]
    exact List.pairwise_lt_range
  rw [e1] at srt
  rcases List.mem_append.mp ej with y | y
  · have := e2 j y
    rw [decide_eq_true z] at this
    cases this
  · rcases List.mem_cons.mp y with y | y
    · omega
    · have := (List.pairwise_cons.mp (List.pairwise_append.mp srt).2.1).1 j y
      omega
theorem lvI_none {s : Ch} (h : lvI s = none) : ∀ j, j < s.row.length → s.row.getD j "" ∉ s.leaving := fun j hj z => by
  unfold lvI at h
  rw [List.find?_eq_none] at h
  exact h j (by rw [List.mem_reverse, List.mem_range]; exact hj) (decide_eq_true z)
/-- a turn by its parts -/
theorem turnG_none {s : Ch} (h : lvI s = none) : ∃ mk, turnG s = { s with poured := s.poured ++ [s.loads.getD (s.row.length - 1) 0], marks := mk ++ [[]], loads := ((s.marks.length : Int) :: s.loads).dropLast, spots := ((0 : Rat) :: s.spots).dropLast } ∧ mk = (markR (pourS s) 0 s.row.length).marks ∧ mk.length = s.marks.length := by
  obtain ⟨mk, e, l⟩ := markR_eq (pourS s) 0 s.row.length
  have l' : mk.length = s.marks.length := l
  refine ⟨mk, ?_, by rw [e], l'⟩
  unfold turnG
  rw [h]
  show popS (takeS (markR (pourS s) 0 s.row.length)) = _
  rw [e, ← l']
  rfl
theorem turnG_some {s : Ch} {i : Nat} (h : lvI s = some i) : ∃ mk, turnG s = { s with poured := s.poured ++ [s.loads.getD (s.row.length - 1) 0], marks := mk, loads := s.loads.dropLast, spots := s.spots.dropLast, row := s.row.eraseIdx i, leaving := goneL s.leaving (s.row.getD i ""), tempos := dropL s.tempos (s.row.getD i "") } ∧ mk = (markR (pourS s) i (s.row.length - i)).marks ∧ mk.length = s.marks.length := by
  obtain ⟨mk, e, l⟩ := markR_eq (pourS s) i (s.row.length - i)
  have l' : mk.length = s.marks.length := l
  refine ⟨mk, ?_, by rw [e], l'⟩
  unfold turnG
  rw [h]
  show popS (leaveS (markR (pourS s) i (s.row.length - i)) i) = _
  rw [e]
  rfl
theorem turnG_all (s : Ch) : (turnG s).ledgers = s.ledgers ∧ (turnG s).now = s.now ∧ (turnG s).fire = s.fire ∧ (turnG s).way = s.way ∧ (turnG s).poured = s.poured ++ [s.loads.getD (s.row.length - 1) 0] := by
  cases h : lvI s with
  | none => obtain ⟨mk, e, _⟩ := turnG_none h; rw [e]; exact ⟨rfl, rfl, rfl, rfl, rfl⟩
  | some i => obtain ⟨mk, e, _⟩ := turnG_some h; rw [e]; exact ⟨rfl, rfl, rfl, rfl, rfl⟩
/-- a row of a going: the hour, the pail (none: somebody left), who -/
abbrev Gw := Rat × Option Int × Str
def gwD (r : Gw) : PyData := match r.2.1 with
  | some k => .tuple [amD (am r.1), .str "out", .int k, .str r.2.2]
  | none => .tuple [amD (am r.1), .str "left", .str r.2.2]
theorem noL_gw (l : List Gw) : (l.map gwD).all (noL 3) = true := by
  rw [List.all_map]
  refine List.all_eq_true.mpr fun x _ => ?_
  obtain ⟨a, o, b⟩ := x
  cases o <;> rfl
def rowsG (s : Ch) : List Gw := (s.now, some (s.loads.getD (s.row.length - 1) 0), s.row.getD (s.row.length - 1) "") :: (match lvI s with
  | none => []
  | some i => [(s.now, none, s.row.getD i "")])
theorem rowsG_len (s : Ch) : 1 ≤ (rowsG s).length ∧ (rowsG s).length ≤ 2 := by
  unfold rowsG
  cases lvI s with
  | none => exact ⟨Nat.le_refl _, Nat.le_succ _⟩
  | some i => exact ⟨Nat.le_succ _, Nat.le_refl _⟩
/-- turns, one behind another -/
inductive TnG (s : Ch) : Nat → Ch → List Gw → Prop
  | refl : TnG s 0 s []
  | step {n : Nat} {s' : Ch} {rows : List Gw} (h : TnG s n s' rows) (hne : s'.row ≠ []) (hl : s'.spots.getD (s'.row.length - 1) 0 = (s'.fire : Rat)) : TnG s (n + 1) (turnG s') (rows ++ rowsG s')
def ItG (s : Ch) (h : Rat) (s' : Ch) (rows : List Gw) : Prop := ∃ n, TnG (walkS s h) n s' rows ∧ (s'.row ≠ [] → s'.spots.getD (s'.row.length - 1) 0 ≠ (s'.fire : Rat))
def meetS (s : Ch) : Rat := meetM s.fire (pcs s) s.spots
theorem tnG_det {s s1 s2 : Ch} : ∀ {n : Nat} {s1 s2 : Ch} {r1 r2 : List Gw}, TnG s n s1 r1 → TnG s n s2 r2 → s1 = s2 ∧ r1 = r2
  | 0, _, _, _, _, .refl, .refl => ⟨rfl, rfl⟩
  | n + 1, _, _, _, _, .step a _ _, .step b _ _ => by
    obtain ⟨e1, e2⟩ := tnG_det (s1 := s1) (s2 := s2) a b
    subst e1
    subst e2
    exact ⟨rfl, rfl⟩
theorem tnG_pre {s s' : Ch} {n : Nat} {rows : List Gw} (t : TnG s n s' rows) : ∀ i, i < n → ∃ si ri, TnG s i si ri ∧ si.row ≠ [] ∧ si.spots.getD (si.row.length - 1) 0 = (si.fire : Rat) := by
  induction t with
  | refl => intro i hi; exact absurd hi (Nat.not_lt_zero _)
  | step t hne hl ih =>
    rename_i n2 s2 rows2
    intro i hi
    rcases Nat.lt_or_ge i n2 with c | c
    · exact ih i c
    · have e : i = n2 := by omega
      subst e
      exact ⟨s2, rows2, t, hne, hl⟩
theorem itG_det {s s1 s2 : Ch} {h : Rat} {r1 r2 : List Gw} (a : ItG s h s1 r1) (b : ItG s h s2 r2) : s1 = s2 ∧ r1 = r2 := by
  obtain ⟨n, ta, ea⟩ := a
  obtain ⟨m, tb, eb⟩ := b
  rcases Nat.lt_trichotomy n m with c | c | c
  · obtain ⟨si, ri, ti, h1, h2⟩ := tnG_pre tb n c
    obtain ⟨rfl, rfl⟩ := tnG_det (s1 := s) (s2 := s) ta ti
    exact absurd h2 (ea h1)
  · subst c
    exact tnG_det (s1 := s) (s2 := s) ta tb
  · obtain ⟨si, ri, ti, h1, h2⟩ := tnG_pre ta m c
    obtain ⟨rfl, rfl⟩ := tnG_det (s1 := s) (s2 := s) tb ti
    exact absurd h2 (eb h1)

/-! ### how a chain stands, in general -/
def Lg (D : Int) (b : Rat) (x : Rat × Rat × Rat) : Prop := (Fr D x.1 ∧ 0 ≤ x.1 ∧ x.1 ≤ b) ∧ (Fr D x.2.1 ∧ 0 ≤ x.2.1 ∧ x.2.1 ≤ 12 * b) ∧ (Fr D x.2.2 ∧ 0 ≤ x.2.2 ∧ x.2.2 ≤ 12 * b)
theorem Lg.up {D k : Int} {b : Rat} {x : Rat × Rat × Rat} (h : Lg D b x) (hD : D ≠ 0) (hk : k ≠ 0) : Lg (D * k) b x :=
  ⟨⟨h.1.1.scale hD hk, h.1.2⟩, ⟨h.2.1.1.scale hD hk, h.2.1.2⟩, ⟨h.2.2.1.scale hD hk, h.2.2.2⟩⟩
theorem Lg.mono {D : Int} {b c : Rat} {x : Rat × Rat × Rat} (h : Lg D b x) (hb : b ≤ c) : Lg D c x :=
  ⟨⟨h.1.1, h.1.2.1, Rat.le_trans h.1.2.2 hb⟩, ⟨h.2.1.1, h.2.1.2.1, by have := h.2.1.2.2; grind⟩, ⟨h.2.2.1, h.2.2.2.1, by have := h.2.2.2.2; grind⟩⟩
theorem led_on {D : Int} {b t : Rat} {x : Rat × Rat × Rat} {p v : Int} (g : Lg D b x) (ft : Fr D t) (t0 : 0 ≤ t) (v1 : 1 ≤ v) (vp : v ≤ p) (p12 : p ≤ 12) : Lg D (b + t) (ledAdd x p v t) := by
  have a1 : (v : Rat) ≤ 12 := Rat.intCast_le_intCast (b := 12) |>.mpr (by omega)
  have a2 : ((p - v : Int) : Rat) ≤ 12 := Rat.intCast_le_intCast (b := 12) |>.mpr (by omega)
  have b1 := Rat.mul_le_mul_of_nonneg_right a1 t0
  have b2 := Rat.mul_le_mul_of_nonneg_right a2 t0
  have c1 : (0 : Rat) ≤ (v : Rat) * t := Rat.mul_nonneg (Rat.intCast_nonneg.mpr (by omega)) t0
  have c2 : (0 : Rat) ≤ ((p - v : Int) : Rat) * t := Rat.mul_nonneg (Rat.intCast_nonneg.mpr (by omega)) t0
  obtain ⟨⟨g1, g2, g3⟩, ⟨g4, g5, g6⟩, ⟨g7, g8, g9⟩⟩ := g
  refine ⟨⟨g1.add ft, ?_, ?_⟩, ⟨g4.add (ft.mulI _), ?_, ?_⟩, ⟨g7.add (ft.mulI _), ?_, ?_⟩⟩
  · show 0 ≤ x.1 + t; grind
  · show x.1 + t ≤ b + t; grind
  · show 0 ≤ x.2.1 + _; grind
  · show x.2.1 + _ ≤ _; grind
  · show 0 ≤ x.2.2 + _; grind
  · show x.2.2 + _ ≤ _; grind
structure Gi (D : Int) (s : Ch) : Prop where
  f1 : 1 ≤ s.fire ∧ s.fire ≤ 486
  sd : Side s
  nd : s.row.Nodup
  tp : ∀ n ∈ s.row, ∃ p, getL s.tempos n = some p ∧ 1 ≤ p ∧ p ≤ 12
  sp : ∀ x ∈ s.spots, 0 ≤ x ∧ x ≤ (s.fire : Rat) ∧ Fr D x
  srt : s.spots.Pairwise (· ≤ ·)
  lg : ∀ y ∈ s.ledgers, Lg D s.now y.2
  lk : (s.ledgers.map (·.1)).Nodup
  lr : ∀ n ∈ s.row, n ∈ s.ledgers.map (·.1)
  ln : s.loads.Nodup
  lv : ∀ x ∈ s.leaving, x ∈ s.row
  lvn : s.leaving.Nodup
  pm : s.marks.length = s.poured.length + s.row.length
  mkk : ∀ j, j < s.row.length → (stFold (s.marks.getD (s.loads.getD j 0).toNat [])).2 ≤ s.spots.getD j 0
  fn : Fr D s.now
  n0 : 0 ≤ s.now
theorem getL_mem {α : Type} {l : List (Str × α)} {n : Str} {a : α} (h : getL l n = some a) : (n, a) ∈ l := by
  unfold getL at h
  obtain ⟨y, hy, rfl⟩ := Option.map_eq_some_iff.mp h
  have hm := List.mem_of_find?_eq_some hy
  have hk : y.1 = n := by have := List.find?_some hy; simpa using this
  rw [← hk]
  exact hm
theorem getL_of {α : Type} {l : List (Str × α)} (nd : (l.map (·.1)).Nodup) {y : Str × α} (h : y ∈ l) : getL l y.1 = some y.2 := by
  induction l with
  | nil => cases h
  | cons x l ih =>
    rw [List.map_cons, List.nodup_cons] at nd
    unfold getL
    rw [List.find?_cons]
    rcases List.mem_cons.mp h with e | e
    · subst e
      rw [decide_eq_true rfl]
      rfl
    · have hx : ¬ x.1 = y.1 := fun z => nd.1 (by rw [z]; exact List.mem_map_of_mem e)
      rw [decide_eq_false hx]
      exact ih nd.2 e
theorem getL_key {α : Type} {l : List (Str × α)} {n : Str} (h : n ∈ l.map (·.1)) : ∃ a, getL l n = some a := by
  cases e : getL l n with
  | some a => exact ⟨a, rfl⟩
  | none =>
    obtain ⟨y, hy, rfl⟩ := List.mem_map.mp h
    unfold getL at e
    rw [Option.map_eq_none_iff, List.find?_eq_none] at e
    exact absurd (decide_eq_true rfl) (e y hy)
theorem putL_keys2 {α : Type} {l : List (Str × α)} {n : Str} {a b : α} (h : getL l n = some b) : (putL l n a).map (·.1) = l.map (·.1) := by
  unfold putL
  have hm := getL_mem h
  rw [if_pos (List.any_eq_true.mpr ⟨_, hm, decide_eq_true rfl⟩), List.map_map]
  refine List.map_congr_left fun x _ => ?_
  show (if x.1 = n then (x.1, a) else x).1 = _
  split <;> rfl
theorem getL_drop {l : List (Str × Int)} {n m : Str} (h : m ≠ n) : getL (dropL l n) m = getL l m := by
  unfold getL dropL
  induction l with
  | nil => rfl
  | cons x l ih =>
    rw [List.filter_cons, List.find?_cons]
    by_cases hx : x.1 = n
    · rw [if_neg (by rw [decide_eq_true hx]; decide), decide_eq_false (show ¬ x.1 = m from fun z => h (z.symm.trans hx))]
      exact ih
    · rw [if_pos (by rw [decide_eq_false hx]; rfl), List.find?_cons]
      cases hd : decide (x.1 = m) with
      | true => rfl
      | false => exact ih
theorem dropLast_getD {α : Type} {l : List α} {j : Nat} {d : α} (h : j < l.length - 1) : l.dropLast.getD j d = l.getD j d := by
  rw [getD_lt (by rw [List.length_dropLast]; exact h), getD_lt (by omega), List.getElem_dropLast]
theorem stFold_last (m : List (Str × Rat)) (x : Str × Rat) : (stFold (m ++ [x])).2 = x.2 := by
  rw [stFold_snoc]
  unfold stStep
  split
  · rename_i h; exact h.symm
  · rfl
theorem stRows_again (m : List (Str × Rat)) (x y : Str × Rat) (h : y.2 = x.2) : stRows (m ++ [x] ++ [y]) = stRows (m ++ [x]) := by
  unfold stRows
  rw [stFold_snoc _ y]
  unfold stStep
  rw [if_pos (by rw [h, stFold_last])]
theorem bearer_at {s : Ch} (nd : s.loads.Nodup) {j : Nat} {k : Int} (h : s.loads[j]? = some k) : bearer s k = [(s.row.getD j "", s.spots.getD j 0)] := by
  obtain ⟨e, m⟩ := idx_at nd h
  unfold bearer
  rw [if_pos m, e]
theorem bearer_no {s : Ch} {k : Int} (h : k ∉ s.loads) : bearer s k = [] := if_neg h
theorem getD_append_l {α : Type} {l r : List α} {k : Nat} {d : α} (h : k < l.length) : (l ++ r).getD k d = l.getD k d := by
  rw [getD_lt (by rw [List.length_append]; omega), getD_lt h, List.getElem_append_left h]
theorem sp_get {D : Int} {s : Ch} (h : Gi D s) {j : Nat} (hj : j < s.row.length) : 0 ≤ s.spots.getD j 0 ∧ s.spots.getD j 0 ≤ (s.fire : Rat) ∧ Fr D (s.spots.getD j 0) := h.sp _ (getD_mem (by rw [h.sd.ls]; exact hj))
theorem ix_no {l : List Int} {k : Int} (h : k ∉ l) : l.length ≤ l.idxOf k := Nat.not_lt.mp fun z => h (by have e := List.getElem_idxOf z; rw [← e]; exact List.getElem_mem z)
theorem erase_getD {l : List Str} {i j : Nat} (hj : j < l.length - 1) (hi : i < l.length) : (l.eraseIdx i).getD j "" = if j < i then l.getD j "" else l.getD (j + 1) "" := by
  have hl : (l.eraseIdx i).length = l.length - 1 := List.length_eraseIdx_of_lt hi
  rw [getD_lt (by rw [hl]; exact hj), List.getElem_eraseIdx]
  split
  · rw [getD_lt (by omega)]
  · rw [getD_lt (by omega)]
theorem gone_mem {l : List Str} (nd : l.Nodup) {n x : Str} : x ∈ goneL l n ↔ x ≠ n ∧ x ∈ l := by
  unfold goneL
  rw [← List.erase_eq_eraseIdx_of_idxOf rfl]
  exact nd.mem_erase_iff
theorem mem_erase_ne {l : List Str} (nd : l.Nodup) {i : Nat} (hi : i < l.length) {x : Str} : x ∈ l.eraseIdx i ↔ x ∈ l ∧ x ≠ l.getD i "" := by
  have e : l.eraseIdx i = l.erase l[i] := by
    rw [List.erase_eq_eraseIdx_of_idxOf (i := i) (by
      have hl : l.idxOf l[i] < l.length := List.idxOf_lt_length_of_mem (List.getElem_mem hi)
      exact (List.getElem_inj (h₀ := hl) (h₁ := hi) nd).mp (List.getElem_idxOf hl))]
  rw [e, nd.mem_erase_iff, getD_lt hi]
  exact And.comm
section
variable {D : Int} {s : Ch}
/-- a turn keeps all this -/
theorem Gi.turn (h : Gi D s) (hne : s.row ≠ []) : Gi D (turnG s) := by
  have hr : 0 < s.row.length := List.length_pos_iff.mpr hne
  have ll := h.sd.ll
  have ls := h.sd.ls
  have sdp : Side (pourS s) := ⟨ll, ls, h.sd.n8, h.sd.ld⟩
  have f0 : (0 : Rat) ≤ (s.fire : Rat) := Rat.intCast_nonneg.mpr (by have := h.f1.1; omega)
  have fD : Fr D 0 := by
    obtain ⟨a, _, b⟩ := sp_get h hr
    have := b.sub b
    rwa [Rat.sub_self] at this
  cases hv : lvI s with
  | none =>
    obtain ⟨mk, e, em, lm⟩ := turnG_none hv
    rw [e]
    have newN : ((s.marks.length : Nat) : Int) ∉ s.loads := fun z => by have := (h.sd.ld _ z).2; omega
    have lsub : (((s.marks.length : Nat) : Int) :: s.loads).dropLast.length = s.row.length := by rw [List.length_dropLast, List.length_cons]; omega
    have ssub : ((0 : Rat) :: s.spots).dropLast.length = s.row.length := by rw [List.length_dropLast, List.length_cons]; omega
    refine ⟨h.f1, ⟨lsub, ssub, h.sd.n8, fun l hl => ?_⟩, h.nd, h.tp, fun x hx => ?_, ?_, h.lg, h.lk, h.lr, ?_, h.lv, h.lvn, ?_, fun j hj => ?_, h.fn, h.n0⟩
    · have hl : l ∈ (((s.marks.length : Nat) : Int) :: s.loads).dropLast := hl
      show 0 ≤ l ∧ l < ((mk ++ [[]]).length : Int)
      rw [List.length_append, lm]
      rcases List.mem_cons.mp ((List.dropLast_sublist _).subset hl) with z | z
      · rw [z]; exact ⟨by omega, by show _ < ((s.marks.length + 1 : Nat) : Int); omega⟩
      · have := h.sd.ld l z; exact ⟨this.1, by show _ < ((s.marks.length + 1 : Nat) : Int); omega⟩
    · have hx : x ∈ ((0 : Rat) :: s.spots).dropLast := hx
      rcases List.mem_cons.mp ((List.dropLast_sublist _).subset hx) with z | z
      · rw [z]; exact ⟨Rat.le_refl, f0, fD⟩
      · exact h.sp x z
    · refine List.Pairwise.sublist (List.dropLast_sublist _) (List.pairwise_cons.mpr ⟨fun x hx => (h.sp x hx).1, h.srt⟩)
    · exact List.Nodup.sublist (List.dropLast_sublist _) (List.nodup_cons.mpr ⟨newN, h.ln⟩)
    · show (mk ++ [[]]).length = (s.poured ++ [_]).length + s.row.length
      rw [List.length_append, List.length_append, lm, h.pm]
      show _ + _ + 1 = _ + 1 + _
      omega
    · show (stFold ((mk ++ [[]]).getD ((((s.marks.length : Nat) : Int) :: s.loads).dropLast.getD j 0).toNat [])).2 ≤ (((0 : Rat) :: s.spots).dropLast).getD j 0
      have hj : j < s.row.length := hj
      rw [dropLast_getD (by rw [List.length_cons]; omega), dropLast_getD (by rw [List.length_cons]; omega)]
      cases j with
      | zero =>
        show (stFold ((mk ++ [[]]).getD (((s.marks.length : Nat) : Int)).toNat [])).2 ≤ 0
        rw [Int.toNat_natCast, ← lm, List.getD_eq_getElem?_getD, List.getElem?_append_right (Nat.le_refl _), Nat.sub_self]
        exact Rat.le_refl
      | succ j =>
        show (stFold ((mk ++ [[]]).getD (s.loads.getD j 0).toNat [])).2 ≤ s.spots.getD j 0
        have hb := h.sd.ld _ (getD_mem (d := (0 : Int)) (show j < s.loads.length by omega))
        have g := markR_get sdp h.ln 0 s.row.length (by show 0 + s.row.length ≤ s.row.length; omega) (s.loads.getD j 0).toNat
        have gj : s.loads[j]? = some (((s.loads.getD j 0).toNat : Nat) : Int) := by rw [Int.toNat_of_nonneg hb.1, getD_lt (show j < s.loads.length by omega), List.getElem?_eq_getElem]
        have ix : (pourS s).loads.idxOf (((s.loads.getD j 0).toNat : Nat) : Int) = j := (idx_at h.ln gj).1
        rw [ix, if_pos ⟨by omega, by omega⟩, ← em] at g
        rw [getD_append_l (by rw [lm]; omega), g, stFold_last]
        exact Rat.le_refl
  | some i =>
    obtain ⟨mk, e, em, lm⟩ := turnG_some hv
    obtain ⟨hi, hil, _⟩ := lvI_some hv
    rw [e]
    have lel : (s.row.eraseIdx i).length = s.row.length - 1 := List.length_eraseIdx_of_lt hi
    refine ⟨h.f1, ⟨?_, ?_, ?_, fun l hl => ?_⟩, ?_, fun n hn => ?_, fun x hx => ?_, ?_, h.lg, h.lk, fun n hn => ?_, ?_, fun x hx => ?_, ?_, ?_, fun j hj => ?_, h.fn, h.n0⟩
    · show s.loads.dropLast.length = (s.row.eraseIdx i).length
      rw [List.length_dropLast, lel, ll]
    · show s.spots.dropLast.length = (s.row.eraseIdx i).length
      rw [List.length_dropLast, lel, ls]
    · show (s.row.eraseIdx i).length ≤ 8
      rw [lel]
      have := h.sd.n8
      omega
    · show 0 ≤ l ∧ l < (mk.length : Int)
      rw [lm]
      exact h.sd.ld l ((List.dropLast_sublist _).subset hl)
    · exact h.nd.sublist (List.eraseIdx_sublist _ _)
    · obtain ⟨n1, n2⟩ := (mem_erase_ne h.nd hi).mp hn
      obtain ⟨p, hp, hb⟩ := h.tp n n1
      exact ⟨p, (getL_drop n2).trans hp, hb⟩
    · exact h.sp x ((List.dropLast_sublist _).subset hx)
    · exact h.srt.sublist (List.dropLast_sublist _)
    · exact h.lr n ((mem_erase_ne h.nd hi).mp hn).1
    · exact h.ln.sublist (List.dropLast_sublist _)
    · obtain ⟨x1, x2⟩ := (gone_mem h.lvn).mp hx
      exact (mem_erase_ne h.nd hi).mpr ⟨h.lv x x2, x1⟩
    · exact h.lvn.sublist (List.eraseIdx_sublist _ _)
    · show mk.length = (s.poured ++ [_]).length + (s.row.eraseIdx i).length
      rw [List.length_append, lel, lm, h.pm]
      show _ = _ + 1 + _
      omega
    · have hj : j < (s.row.eraseIdx i).length := hj
      rw [lel] at hj
      show (stFold (mk.getD (s.loads.dropLast.getD j 0).toNat [])).2 ≤ (s.spots.dropLast).getD j 0
      rw [dropLast_getD (by omega), dropLast_getD (by omega)]
      have hb := h.sd.ld _ (getD_mem (d := (0 : Int)) (show j < s.loads.length by omega))
      have g := markR_get sdp h.ln i (s.row.length - i) (by show i + (s.row.length - i) ≤ s.row.length; omega) (s.loads.getD j 0).toNat
      have gj : s.loads[j]? = some (((s.loads.getD j 0).toNat : Nat) : Int) := by rw [Int.toNat_of_nonneg hb.1, getD_lt (show j < s.loads.length by omega), List.getElem?_eq_getElem]
      have ix : (pourS s).loads.idxOf (((s.loads.getD j 0).toNat : Nat) : Int) = j := (idx_at h.ln gj).1
      rw [ix, ← em] at g
      rw [g]
      by_cases c : i ≤ j
      · rw [if_pos ⟨c, by omega⟩, stFold_last]
        exact Rat.le_refl
      · rw [if_neg (fun z => c z.1), List.append_nil]
        exact h.mkk j (by omega)
/-- the stories behind a turn -/
theorem story_turn (h : Gi D s) (hne : s.row ≠ []) {k : Nat} (hk : k < s.marks.length) : storyM (turnG s) k = storyM s k := by
  have hr : 0 < s.row.length := List.length_pos_iff.mpr hne
  have ll := h.sd.ll
  have ls := h.sd.ls
  have sdp : Side (pourS s) := ⟨ll, ls, h.sd.n8, h.sd.ld⟩
  have gt := h.turn hne
  cases hv : lvI s with
  | none =>
    obtain ⟨mk, e, em, lm⟩ := turnG_none hv
    rw [e] at gt ⊢
    have g := markR_get sdp h.ln 0 s.row.length (by show 0 + s.row.length ≤ s.row.length; omega) k
    rw [← em] at g
    unfold storyM
    show stRows ((mk ++ [[]]).getD k [] ++ _) = _
    rw [getD_append_l (by rw [lm]; exact hk), g]
    by_cases hm : (k : Int) ∈ s.loads
    · have hjl := List.idxOf_lt_length_of_mem hm
      have gj : s.loads[s.loads.idxOf (k : Int)]? = some (k : Int) := by rw [List.getElem?_eq_getElem hjl, List.getElem_idxOf hjl]
      generalize s.loads.idxOf (k : Int) = j at hjl gj
      have ix : (pourS s).loads.idxOf (k : Int) = j := (idx_at h.ln gj).1
      rw [ix, if_pos ⟨by omega, by omega⟩, bearer_at h.ln gj]
      show stRows (s.marks.getD k [] ++ [(s.row.getD j "", s.spots.getD j 0)] ++ _) = _
      by_cases c : j + 1 < s.row.length
      · have g2 : ((((s.marks.length : Nat) : Int) :: s.loads).dropLast)[j + 1]? = some (k : Int) := by
          rw [List.getElem?_dropLast, if_pos (by rw [List.length_cons]; omega)]
          exact gj
        rw [bearer_at gt.ln g2]
        refine stRows_again _ _ _ ?_
        show (((0 : Rat) :: s.spots).dropLast).getD (j + 1) 0 = _
        rw [dropLast_getD (by rw [List.length_cons]; omega)]
        rfl
      · have hn : ¬ (k : Int) ∈ (((s.marks.length : Nat) : Int) :: s.loads).dropLast := fun z => by
          obtain ⟨q, hq, eq⟩ := List.getElem_of_mem z
          rw [List.getElem_dropLast] at eq
          rw [List.length_dropLast, List.length_cons] at hq
          cases q with
          | zero => have : ((s.marks.length : Nat) : Int) = (k : Int) := eq; omega
          | succ q =>
            have e3 : s.loads[q]? = some (k : Int) := by rw [List.getElem?_eq_getElem (by omega)]; exact congrArg some eq
            have := (idx_at h.ln e3).1.symm.trans (idx_at h.ln gj).1
            omega
        rw [bearer_no hn, List.append_nil]
    · have ix : s.loads.length ≤ (pourS s).loads.idxOf (k : Int) := ix_no hm
      rw [if_neg (by omega), List.append_nil, bearer_no hm, bearer_no (fun z => ?_)]
      · rfl
      rcases List.mem_cons.mp ((List.dropLast_sublist _).subset z) with y | y
      · omega
      · exact hm y
  | some i =>
    obtain ⟨mk, e, em, lm⟩ := turnG_some hv
    obtain ⟨hi, hil, _⟩ := lvI_some hv
    rw [e] at gt ⊢
    have g := markR_get sdp h.ln i (s.row.length - i) (by show i + (s.row.length - i) ≤ s.row.length; omega) k
    rw [← em] at g
    unfold storyM
    show stRows (mk.getD k [] ++ _) = _
    rw [g]
    by_cases hm : (k : Int) ∈ s.loads
    · have hjl := List.idxOf_lt_length_of_mem hm
      have gj : s.loads[s.loads.idxOf (k : Int)]? = some (k : Int) := by rw [List.getElem?_eq_getElem hjl, List.getElem_idxOf hjl]
      generalize s.loads.idxOf (k : Int) = j at hjl gj
      have ix : (pourS s).loads.idxOf (k : Int) = j := (idx_at h.ln gj).1
      rw [ix, bearer_at h.ln gj]
      by_cases c : j + 1 < s.row.length
      · have g2 : (s.loads.dropLast)[j]? = some (k : Int) := by
          rw [List.getElem?_dropLast, if_pos (by omega)]
          exact gj
        rw [bearer_at gt.ln g2]
        show stRows (s.marks.getD k [] ++ _ ++ [((s.row.eraseIdx i).getD j "", (s.spots.dropLast).getD j 0)]) = _
        rw [dropLast_getD (by omega), erase_getD (by omega) hi]
        by_cases d : i ≤ j
        · rw [if_pos ⟨d, by omega⟩]
          exact stRows_again _ _ _ rfl
        · rw [if_neg (fun z => d z.1), if_pos (by omega), List.append_nil]
      · have hn : ¬ (k : Int) ∈ s.loads.dropLast := fun z => by
          obtain ⟨q, hq, eq⟩ := List.getElem_of_mem z
          rw [List.getElem_dropLast] at eq
          rw [List.length_dropLast] at hq
          have e3 : s.loads[q]? = some (k : Int) := by rw [List.getElem?_eq_getElem (by omega)]; exact congrArg some eq
          have := (idx_at h.ln e3).1.symm.trans (idx_at h.ln gj).1
          omega
        rw [if_pos ⟨by omega, by omega⟩, bearer_no hn, List.append_nil]
        rfl
    · have ix : s.loads.length ≤ (pourS s).loads.idxOf (k : Int) := ix_no hm
      rw [if_neg (by omega), List.append_nil, bearer_no hm, bearer_no (fun z => hm ((List.dropLast_sublist _).subset z))]
      rfl
def tsOf (s : Ch) : List (List Tl) := (List.range s.marks.length).map (storyM s)
theorem ts_turn (h : Gi D s) (hne : s.row ≠ []) : tsOf (turnG s) = tsOf s ++ (match lvI s with
  | none => [[]]
  | some _ => []) := by
  unfold tsOf
  cases hv : lvI s with
  | none =>
    have st := fun k (hk : k < s.marks.length) => story_turn h hne hk
    have gt := h.turn hne
    obtain ⟨mk, e, em, lm⟩ := turnG_none hv
    rw [e] at st gt ⊢
    show (List.range (mk ++ [[]]).length).map _ = _
    rw [List.length_append, lm]
    show (List.range (s.marks.length + 1)).map _ = _
    rw [List.range_succ, List.map_append]
    congr 1
    · exact List.map_congr_left fun k hk => st k (List.mem_range.mp hk)
    · show [storyM _ s.marks.length] = [[]]
      congr 1
      unfold storyM
      show stRows ((mk ++ [[]]).getD s.marks.length [] ++ _) = []
      have eM : (mk ++ [[]]).getD s.marks.length [] = [] := by
        rw [← lm, List.getD_eq_getElem?_getD, List.getElem?_append_right (Nat.le_refl _), Nat.sub_self]
        rfl
      rw [eM, List.nil_append]
      have g0 : ((((s.marks.length : Nat) : Int) :: s.loads).dropLast)[0]? = some ((s.marks.length : Nat) : Int) := by
        have hr : 0 < s.row.length := List.length_pos_iff.mpr hne
        rw [List.getElem?_dropLast, if_pos (by rw [List.length_cons]; have := h.sd.ll; omega)]
        rfl
      rw [bearer_at gt.ln g0]
      show stRows [(_, (((0 : Rat) :: s.spots).dropLast).getD 0 0)] = []
      rw [dropLast_getD (by rw [List.length_cons]; have := h.sd.ls; have hr : 0 < s.row.length := List.length_pos_iff.mpr hne; omega)]
      rfl
  | some i =>
    have st := fun k (hk : k < s.marks.length) => story_turn h hne hk
    obtain ⟨mk, e, em, lm⟩ := turnG_some hv
    rw [e] at st ⊢
    show (List.range mk.length).map _ = _
    rw [lm, List.append_nil]
    exact List.map_congr_left fun k hk => st k (List.mem_range.mp hk)
end

/-! ### walking on keeps it; the stories behind it -/
section
variable {D : Int} {s : Ch}
theorem pcs_get {s : Ch} {j : Nat} (hj : j < s.row.length) : (pcs s).getD j 0 = (getL s.tempos (s.row.getD j "")).getD 1 := by
  unfold pcs
  rw [getD_lt (by rw [List.length_map]; exact hj), List.getElem_map, getD_lt hj]
theorem Gi.wk (h : Gi D s) : Wk D s.fire (pcs s) s.spots :=
  ⟨by rw [pcs_len, h.sd.ls], by rw [pcs_len]; exact h.sd.n8, fun p hp => by
    unfold pcs at hp
    obtain ⟨n, hn, rfl⟩ := List.mem_map.mp hp
    obtain ⟨q, hq, hb⟩ := h.tp n hn
    rw [hq]
    exact hb, h.srt, fun x hx => (h.sp x hx).1, fun x hx => (h.sp x hx).2.1, fun x hx => (h.sp x hx).2.2⟩
theorem ledN_keys {s : Ch} {t : Rat} (hk : ∀ n ∈ s.row, n ∈ s.ledgers.map (·.1)) : ∀ i, i ≤ s.row.length → (ledN s t i).map (·.1) = s.ledgers.map (·.1)
  | 0, _ => rfl
  | i + 1, hi => by
    have ih := ledN_keys (t := t) hk i (by omega)
    have hm := hk _ (getD_mem (d := ("" : Str)) (show i < s.row.length by omega))
    rw [← ih] at hm
    obtain ⟨a, ha⟩ := getL_key hm
    show (putL _ _ _).map (·.1) = _
    rw [putL_keys2 ha, ih]
theorem Gi.walk (h : Gi D s) (hD : D ≠ 0) (hne : s.row ≠ []) {t : Rat} (ft : Fr D t) (t0 : 0 ≤ t) (tm : t ≤ meetS s) : Gi D (walkS s t) := by
  have w := h.wk
  have hr : 0 < s.row.length := List.length_pos_iff.mpr hne
  have hn : 0 < (pcs s).length := by rw [pcs_len]; exact hr
  have w1 := wk_walk w hn hD ft t0 tm
  have lw : (walkM (pcs s) s.spots t).length = s.row.length := by rw [walkM_len, pcs_len]
  have keys := ledN_keys (s := s) (t := t) h.lr s.row.length (Nat.le_refl _)
  refine ⟨h.f1, ⟨h.sd.ll, lw, h.sd.n8, h.sd.ld⟩, h.nd, h.tp, fun x hx => ⟨w1.nn x hx, w1.fire x hx, w1.fr x hx⟩, w1.rise, fun y hy => ?_, ?_, fun n hn' => ?_, h.ln, h.lv, h.lvn, h.pm, fun j hj => ?_, h.fn.add ft, ?_⟩
  · have hy : y ∈ ledN s t s.row.length := hy
    have nd' : ((ledN s t s.row.length).map (·.1)).Nodup := by rw [keys]; exact h.lk
    have gy := getL_of nd' hy
    show Lg D (s.now + t) y.2
    by_cases hm : y.1 ∈ s.row
    · obtain ⟨j, hj, ej⟩ := List.getElem_of_mem hm
      have g := ledN_at (h := t) h.nd (Nat.le_refl _) hj
      rw [getD_lt hj, ej, gy] at g
      have g := Option.some.inj g
      obtain ⟨a, ha⟩ := getL_key (h.lr _ hm)
      rw [ha] at g
      rw [g]
      have hv := spd_bd w (j := j) (by rw [pcs_len]; exact hj)
      have hp := w.pace _ (getD_mem (l := pcs s) (i := j) (d := 0) (by rw [pcs_len]; exact hj))
      exact led_on (h.lg _ (getL_mem ha)) ft t0 hv.1 (spd_le w.eq (by rw [pcs_len]; exact hj)) hp.2
    · have g := ledN_get (h := t) h.nd s.row.length (Nat.le_refl _) y.1 (fun j hj z => hm (by rw [← z]; exact getD_mem hj))
      rw [gy] at g
      exact (h.lg _ (getL_mem g.symm)).mono (by grind)
  · show ((ledN s t s.row.length).map (·.1)).Nodup
    rw [keys]
    exact h.lk
  · show n ∈ (ledN s t s.row.length).map (·.1)
    rw [keys]
    exact h.lr n hn'
  · have hj : j < s.row.length := hj
    refine Rat.le_trans (h.mkk j hj) ?_
    show s.spots.getD j 0 ≤ (walkM (pcs s) s.spots t).getD j 0
    rw [walkM_get (by rw [pcs_len]; exact hj)]
    have hv := spd_bd w (j := j) (by rw [pcs_len]; exact hj)
    have := Rat.mul_nonneg t0 (Rat.intCast_nonneg.mpr (show 0 ≤ (spd (pcs s) s.spots).getD j 0 by omega))
    grind
  · have := h.n0
    show 0 ≤ s.now + t
    grind
/-- a row more, or the last one longer -/
def talX (t : List Tl) (n : Str) (p g : Rat) : List Tl := match t.getLast? with
  | some l => if l.1 = n then t.dropLast ++ [(n, l.2.1, g)] else t ++ [(n, p, g)]
  | none => t ++ [(n, p, g)]
theorem st_ext {m : List (Str × Rat)} {n : Str} {p g : Rat} (hp : (stFold m).2 ≤ p) (hg : p < g) : stRows (m ++ [(n, g)]) = talX (stRows (m ++ [(n, p)])) n p g := by
  unfold stRows
  rw [stFold_snoc, stFold_snoc]
  generalize stFold m = r at *
  have hgr : ¬ g = r.2 := fun z => by rw [z] at hg; exact absurd hp (Rat.not_le.mpr hg)
  unfold stStep
  rw [if_neg hgr]
  by_cases hpr : p = r.2
  · rw [if_pos hpr]
    unfold talX
    dsimp only
    cases r.1.getLast? with
    | none => rw [hpr]
    | some l => dsimp only; rw [hpr]
  · rw [if_neg hpr]
    dsimp only
    cases hl : r.1.getLast? with
    | none =>
      dsimp only
      unfold talX
      rw [List.getLast?_concat]
      dsimp only
      rw [if_pos rfl, List.dropLast_concat]
    | some l =>
      dsimp only
      by_cases hn : l.1 = n
      · rw [if_pos hn, if_pos hn]
        unfold talX
        rw [List.getLast?_concat]
        dsimp only
        rw [if_pos rfl, List.dropLast_concat]
      · rw [if_neg hn, if_neg hn]
        unfold talX
        rw [List.getLast?_concat]
        dsimp only
        rw [if_pos rfl, List.dropLast_concat]
/-- the stories while all walk on, hand by hand -/
def tsW (s : Ch) (t : Rat) : Nat → List (List Tl)
  | 0 => tsOf s
  | i + 1 => (tsW s t i).set (s.loads.getD i 0).toNat (talX ((tsW s t i).getD (s.loads.getD i 0).toNat []) (s.row.getD i "") (s.spots.getD i 0) ((walkM (pcs s) s.spots t).getD i 0))
theorem tsW_len (s : Ch) (t : Rat) : ∀ i, (tsW s t i).length = s.marks.length
  | 0 => by show (tsOf s).length = _; unfold tsOf; rw [List.length_map, List.length_range]
  | i + 1 => by show ((tsW s t i).set _ _).length = _; rw [List.length_set]; exact tsW_len s t i
theorem tsOf_get {s : Ch} {k : Nat} (hk : k < s.marks.length) : (tsOf s).getD k [] = storyM s k := by
  unfold tsOf
  rw [getD_lt (by rw [List.length_map, List.length_range]; exact hk), List.getElem_map, List.getElem_range]
theorem tsW_get (h : Gi D s) (hne : s.row ≠ []) {t : Rat} (t0 : 0 < t) : ∀ i, i ≤ s.row.length → ∀ k, k < s.marks.length → (tsW s t i).getD k [] = if s.loads.idxOf (k : Int) < i then storyM (walkS s t) k else storyM s k
  | 0, _, k, hk => by rw [if_neg (Nat.not_lt_zero _)]; exact tsOf_get hk
  | i + 1, hi, k, hk => by
    have ih := tsW_get h hne t0 i (by omega) k hk
    have ll := h.sd.ll
    have hb := h.sd.ld _ (getD_mem (d := (0 : Int)) (show i < s.loads.length by omega))
    have gi : s.loads[i]? = some (((s.loads.getD i 0).toNat : Nat) : Int) := by rw [Int.toNat_of_nonneg hb.1, getD_lt (show i < s.loads.length by omega), List.getElem?_eq_getElem]
    have ix := (idx_at h.ln gi).1
    show ((tsW s t i).set _ _).getD k [] = _
    by_cases e : (s.loads.getD i 0).toNat = k
    · rw [e] at ix gi ⊢
      rw [if_neg (by omega)] at ih
      rw [ix, if_pos (Nat.lt_succ_self i), List.getD_eq_getElem?_getD, List.getElem?_set_self (by rw [tsW_len]; exact hk), Option.getD_some, ih]
      unfold storyM
      rw [bearer_at h.ln gi, bearer_at (s := walkS s t) h.ln gi]
      have mk := h.mkk i (by omega)
      rw [e] at mk
      refine (st_ext mk ?_).symm
      show s.spots.getD i 0 < (walkM (pcs s) s.spots t).getD i 0
      rw [walkM_get (by rw [pcs_len]; omega)]
      have hv := spd_bd h.wk (j := i) (by rw [pcs_len]; omega)
      have := Rat.mul_pos t0 (cp (show 0 < (spd (pcs s) s.spots).getD i 0 by omega))
      grind
    · rw [List.getD_eq_getElem?_getD, List.getElem?_set_ne e, ← List.getD_eq_getElem?_getD, ih]
      have ne : s.loads.idxOf (k : Int) ≠ i := fun z => e (by
        have hl : s.loads.idxOf (k : Int) < s.loads.length := by omega
        have e2 := List.getElem_idxOf hl
        have e3 : s.loads.getD i 0 = (k : Int) := by rw [← z, getD_lt hl]; exact e2
        rw [e3]
        exact Int.toNat_natCast k)
      by_cases c : s.loads.idxOf (k : Int) < i
      · rw [if_pos c, if_pos (by omega)]
      · rw [if_neg c, if_neg (by omega)]
theorem tsW_end (h : Gi D s) (hne : s.row ≠ []) {t : Rat} (t0 : 0 < t) : tsW s t s.row.length = tsOf (walkS s t) := by
  refine ext_getD (d := []) ?_ fun k hk => ?_
  · rw [tsW_len]
    unfold tsOf
    rw [List.length_map, List.length_range]
    rfl
  · rw [tsW_len] at hk
    rw [tsW_get h hne t0 _ (Nat.le_refl _) k hk, tsOf_get (s := walkS s t) hk]
    split
    · rfl
    · rename_i c
      have hn : (k : Int) ∉ s.loads := fun z => c (by have := List.idxOf_lt_length_of_mem z; rw [h.sd.ll] at this; exact this)
      unfold storyM
      rw [bearer_no hn, bearer_no (s := walkS s t) hn]
      rfl
theorem ts_len (s : Ch) : (tsOf s).length = s.marks.length := by unfold tsOf; rw [List.length_map, List.length_range]
theorem Gi.scale (h : Gi D s) (hD : 0 < D) {k : Int} (hk : 1 ≤ k) : Gi (D * k) s :=
  ⟨h.f1, h.sd, h.nd, h.tp, fun x hx => ⟨(h.sp x hx).1, (h.sp x hx).2.1, (h.sp x hx).2.2.scale (by omega) (by omega)⟩, h.srt, fun y hy => (h.lg y hy).up (by omega) (by omega), h.lk, h.lr, h.ln, h.lv, h.lvn, h.pm, h.mkk, h.fn.scale (by omega) (by omega), h.n0⟩
theorem Gi.meet (h : Gi D s) (hD : 0 < D) (hne : s.row ≠ []) (hlt : ∀ x ∈ s.spots, x < (s.fire : Rat)) : ∃ k : Int, 1 ≤ k ∧ k ≤ 12 ∧ Fr (D * k) (meetS s) ∧ 0 < meetS s ∧ meetS s ≤ 486 := by
  have hn : 0 < (pcs s).length := by rw [pcs_len]; exact List.length_pos_iff.mpr hne
  obtain ⟨k, k1, k2, k3, k4, k5⟩ := meetF_ok h.wk (by omega) hn (Nat.le_refl _)
  exact ⟨k, k1, k2, k3, meet_pos h.wk hn hlt, Rat.le_trans k5 (Rat.intCast_le_intCast (b := 486) |>.mpr h.f1.2)⟩
end

/-! ### deeds keep it -/
theorem ts_same {s s' : Ch} (hm : s'.marks.length = s.marks.length) (h : ∀ k, k < s.marks.length → storyM s' k = storyM s k) : tsOf s' = tsOf s := by
  unfold tsOf
  rw [hm]
  exact List.map_congr_left fun k hk => h k (List.mem_range.mp hk)
theorem ts_app {s s' : Ch} (hm : s'.marks.length = s.marks.length + 1) (h : ∀ k, k < s.marks.length → storyM s' k = storyM s k) (h0 : storyM s' s.marks.length = []) : tsOf s' = tsOf s ++ [[]] := by
  unfold tsOf
  rw [hm, List.range_succ, List.map_append]
  congr 1
  · exact List.map_congr_left fun k hk => h k (List.mem_range.mp hk)
  · rw [List.map_cons, h0]; rfl
theorem getD_append_r {α : Type} {l r : List α} {k : Nat} {d : α} (h : l.length ≤ k) : (l ++ r).getD k d = r.getD (k - l.length) d := by
  rw [List.getD_eq_getElem?_getD, List.getElem?_append_right h, List.getD_eq_getElem?_getD]
theorem swapL_get {l : List Str} {i : Nat} (h : i + 1 < l.length) (j : Nat) : (swapL l i).getD j "" = if j = i then l.getD (i + 1) "" else if j = i + 1 then l.getD i "" else l.getD j "" := by
  unfold swapL
  rw [List.getD_eq_getElem?_getD, List.getElem?_set, List.getElem?_set, List.length_set]
  by_cases c1 : i + 1 = j
  · rw [if_pos c1, if_pos (by omega), if_neg (by omega), if_pos c1.symm]
    rfl
  · rw [if_neg c1]
    by_cases c2 : i = j
    · rw [if_pos c2, if_pos (by omega), if_pos c2.symm]
      rfl
    · rw [if_neg c2, if_neg (fun z => c2 z.symm), if_neg (fun z => c1 z.symm), List.getD_eq_getElem?_getD]
theorem swapL_len2 (l : List Str) (i : Nat) : (swapL l i).length = l.length := by unfold swapL; rw [List.length_set, List.length_set]
theorem swapL_pm {l : List Str} {i : Nat} (h : i + 1 < l.length) : (swapL l i).Perm l := by
  have e1 : l = l.take i ++ (l.getD i "" :: l.getD (i + 1) "" :: l.drop (i + 2)) := by
    rw [getD_lt h, getD_lt (show i < l.length by omega), List.getElem_cons_drop, List.getElem_cons_drop, List.take_append_drop]
  have e2 : swapL l i = l.take i ++ (l.getD (i + 1) "" :: l.getD i "" :: l.drop (i + 2)) := by
    refine ext_getD (d := ("" : Str)) ?_ fun j hj => ?_
    · rw [swapL_len2, List.length_append, List.length_take, List.length_cons, List.length_cons, List.length_drop]; omega
    · rw [swapL_len2] at hj
      rw [swapL_get h]
      rcases (by omega : j < i ∨ j = i ∨ j = i + 1 ∨ i + 2 ≤ j) with c | c | c | c
      · rw [if_neg (by omega), if_neg (by omega), getD_append_l (by rw [List.length_take]; omega), getD_lt hj, getD_lt (by rw [List.length_take]; omega), List.getElem_take]
      · subst c
        rw [if_pos rfl, getD_append_r (by rw [List.length_take]; omega), List.length_take, show j - min j l.length = 0 by omega]
        rfl
      · subst c
        rw [if_neg (by omega), if_pos rfl, getD_append_r (by rw [List.length_take]; omega), List.length_take, show i + 1 - min i l.length = 1 by omega]
        rfl
      · rw [if_neg (by omega), if_neg (by omega), getD_append_r (by rw [List.length_take]; omega), List.length_take, show j - min i l.length = (j - (i + 2)) + 1 + 1 by omega, List.getD_cons_succ, List.getD_cons_succ, List.getD_eq_getElem?_getD, List.getD_eq_getElem?_getD, List.getElem?_drop, show i + 2 + (j - (i + 2)) = j by omega]
  rw [e2]
  conv => rhs; rw [e1]
  exact (List.Perm.swap _ _ _).append_left _
theorem putL_key_new {α : Type} {l : List (Str × α)} {n : Str} {a : α} (h : n ∉ l.map (·.1)) : (putL l n a) = l ++ [(n, a)] := by
  unfold putL
  refine if_neg fun z => ?_
  obtain ⟨x, hx, hd⟩ := List.any_eq_true.mp z
  exact h (by rw [← of_decide_eq_true hd]; exact List.mem_map_of_mem hx)
/-- what a deed keeps -/
structure Kp (D : Int) (s s' : Ch) : Prop where
  gi : Gi D s'
  lt : (∀ x ∈ s.spots, x < (s.fire : Rat)) → ∀ x ∈ s'.spots, x < (s'.fire : Rat)
  po : s'.poured = s.poured
  fi : s'.fire = s.fire
  wy : s'.way = s.way
  nw : s'.now = s.now
  mm : ∀ b, (∀ m ∈ s.marks, m.length ≤ b) → ∀ m ∈ s'.marks, m.length ≤ b + 2
  gl : s'.ledgers.length ≤ s.ledgers.length + 1
  tl : s'.tempos.length ≤ s.tempos.length + 1
section
variable {D : Int} {s : Ch}
theorem Gi.enter (h : Gi D s) (hD : D ≠ 0) {n : Str} {p : Int} (e : enterW s n p = none) : Kp D s (enterS s n p) ∧ tsOf (enterS s n p) = tsOf s ++ [[]] := by
  have e' : nameB n = true ∧ n ∉ s.row ∧ paceB p = true ∧ s.row.length < 8 := by
    unfold enterW at e
    split at e
    · rename_i hb
      split at e
      · cases e
      · rename_i hm
        split at e
        · rename_i hp
          split at e
          · rename_i h8
            exact ⟨hb, hm, hp, h8⟩
          · cases e
        · cases e
    · cases e
  obtain ⟨hb, hm, hp, h8⟩ := e'
  have hp : 1 ≤ p ∧ p ≤ 12 := by
    unfold paceB at hp
    rw [Bool.and_eq_true] at hp
    exact ⟨of_decide_eq_true hp.1, of_decide_eq_true hp.2⟩
  have f0 : (0 : Rat) ≤ (s.fire : Rat) := Rat.intCast_nonneg.mpr (by have := h.f1.1; omega)
  have f00 : (0 : Rat) < (s.fire : Rat) := cp (by have := h.f1.1; omega)
  have fD : Fr D 0 := Fr.zero hD
  have ll := h.sd.ll
  have ls := h.sd.ls
  have newN : ((s.marks.length : Nat) : Int) ∉ s.loads := fun z => by have := (h.sd.ld _ z).2; omega
  have eml : (enterS s n p).marks.length = s.marks.length + 1 := by
    show (s.marks ++ [[]]).length = _
    rw [List.length_append]
    rfl
  have lgm : ∀ y ∈ (enterS s n p).ledgers, Lg D s.now y.2 := fun y hy => by
    have hy : y ∈ (if (getL s.ledgers n).isSome = true then s.ledgers else putL s.ledgers n (0, 0, 0)) := hy
    cases g : getL s.ledgers n with
    | some a =>
      rw [g, if_pos (show (some a).isSome = true from rfl)] at hy
      exact h.lg y hy
    | none =>
      have hn : n ∉ s.ledgers.map (·.1) := fun z => by obtain ⟨a, ha⟩ := getL_key z; rw [g] at ha; cases ha
      rw [g, if_neg (show ¬ (none : Option (Rat × Rat × Rat)).isSome = true from Bool.false_ne_true), putL_key_new hn] at hy
      rcases List.mem_append.mp hy with z | z
      · exact h.lg y z
      · rw [List.mem_singleton.mp z]
        have n0 := h.n0
        exact ⟨⟨fD, Rat.le_refl, n0⟩, ⟨fD, Rat.le_refl, by show (0 : Rat) ≤ 12 * s.now; grind⟩, ⟨fD, Rat.le_refl, by show (0 : Rat) ≤ 12 * s.now; grind⟩⟩
  have keys : (∀ x ∈ s.ledgers.map (·.1), x ∈ (enterS s n p).ledgers.map (·.1)) ∧ n ∈ (enterS s n p).ledgers.map (·.1) ∧ ((enterS s n p).ledgers.map (·.1)).Nodup := by
    show (∀ x ∈ s.ledgers.map (·.1), x ∈ (if (getL s.ledgers n).isSome = true then s.ledgers else putL s.ledgers n (0, 0, 0)).map (·.1)) ∧ n ∈ (if (getL s.ledgers n).isSome = true then s.ledgers else putL s.ledgers n (0, 0, 0)).map (·.1) ∧ ((if (getL s.ledgers n).isSome = true then s.ledgers else putL s.ledgers n (0, 0, 0)).map (·.1)).Nodup
    cases g : getL s.ledgers n with
    | some a => exact ⟨fun x hx => hx, List.mem_map_of_mem (f := (·.1)) (getL_mem g), h.lk⟩
    | none =>
      have hn : n ∉ s.ledgers.map (·.1) := fun z => by obtain ⟨a, ha⟩ := getL_key z; rw [g] at ha; cases ha
      rw [if_neg (show ¬ (none : Option (Rat × Rat × Rat)).isSome = true from Bool.false_ne_true), putL_key_new hn, List.map_append]
      refine ⟨fun x hx => List.mem_append_left _ hx, List.mem_append_right _ (by simp), ?_⟩
      rw [List.nodup_append]
      exact ⟨h.lk, by simp, fun x hx y hy e => hn (by rw [← (show y = n by simpa using hy), ← e]; exact hx)⟩
  have gi : Gi D (enterS s n p) := by
    refine ⟨h.f1, ⟨congrArg (· + 1) ll, congrArg (· + 1) ls, h8, fun l hl => ?_⟩, List.nodup_cons.mpr ⟨hm, h.nd⟩, fun n' hn' => ?_, fun x hx => ?_, ?_, lgm, keys.2.2, fun n' hn' => ?_, List.nodup_cons.mpr ⟨newN, h.ln⟩, fun x hx => List.mem_cons_of_mem _ (h.lv x hx), h.lvn, ?_, fun j hj => ?_, h.fn, h.n0⟩
    · rw [eml]
      have hl : l ∈ ((s.marks.length : Nat) : Int) :: s.loads := hl
      rcases List.mem_cons.mp hl with z | z
      · omega
      · have := h.sd.ld l z; omega
    · show ∃ q, getL (putL s.tempos n p) n' = some q ∧ _
      rw [getL_put]
      by_cases c : n = n'
      · rw [if_pos c]; exact ⟨p, rfl, hp⟩
      · rw [if_neg c]
        have hn' : n' ∈ n :: s.row := hn'
        exact h.tp n' ((List.mem_cons.mp hn').resolve_left fun z => c z.symm)
    · have hx : x ∈ (0 : Rat) :: s.spots := hx
      rcases List.mem_cons.mp hx with z | z
      · rw [z]; exact ⟨Rat.le_refl, f0, fD⟩
      · exact h.sp x z
    · exact List.pairwise_cons.mpr ⟨fun x hx => (h.sp x hx).1, h.srt⟩
    · have hn' : n' ∈ n :: s.row := hn'
      rcases List.mem_cons.mp hn' with z | z
      · rw [z]; exact keys.2.1
      · exact keys.1 _ (h.lr n' z)
    · show (enterS s n p).marks.length = s.poured.length + (s.row.length + 1)
      rw [eml, h.pm]
      omega
    · show (stFold ((s.marks ++ [[]]).getD ((((s.marks.length : Nat) : Int) :: s.loads).getD j 0).toNat [])).2 ≤ ((0 : Rat) :: s.spots).getD j 0
      have hj : j < s.row.length + 1 := hj
      cases j with
      | zero =>
        show (stFold ((s.marks ++ [[]]).getD (((s.marks.length : Nat) : Int)).toNat [])).2 ≤ 0
        rw [Int.toNat_natCast, List.getD_eq_getElem?_getD, List.getElem?_append_right (Nat.le_refl _), Nat.sub_self]
        exact Rat.le_refl
      | succ j =>
        show (stFold ((s.marks ++ [[]]).getD (s.loads.getD j 0).toNat [])).2 ≤ s.spots.getD j 0
        have hb := h.sd.ld _ (getD_mem (d := (0 : Int)) (show j < s.loads.length by omega))
        rw [getD_append_l (by omega)]
        exact h.mkk j (by omega)
  refine ⟨⟨gi, fun hlt x hx => ?_, rfl, rfl, rfl, rfl, fun b hb m hm => ?_, ?_, putL_len _ _ _⟩, ts_app eml (fun k hk => ?_) ?_⟩
  · have hx : x ∈ (0 : Rat) :: s.spots := hx
    rcases List.mem_cons.mp hx with z | z
    · rw [z]; exact f00
    · exact hlt x z
  · have hm : m ∈ s.marks ++ [[]] := hm
    rcases List.mem_append.mp hm with z | z
    · exact Nat.le_add_right_of_le (hb m z)
    · rw [List.mem_singleton.mp z]; exact Nat.zero_le _
  · show (if (getL s.ledgers n).isSome = true then s.ledgers else putL s.ledgers n (0, 0, 0)).length ≤ _
    split
    · exact Nat.le_succ _
    · exact putL_len _ _ _
  · unfold storyM
    show stRows ((s.marks ++ [[]]).getD k [] ++ _) = _
    rw [getD_append_l hk]
    congr 2
    by_cases hmm : (k : Int) ∈ s.loads
    · have hjl := List.idxOf_lt_length_of_mem hmm
      have gj : s.loads[s.loads.idxOf (k : Int)]? = some (k : Int) := by rw [List.getElem?_eq_getElem hjl, List.getElem_idxOf hjl]
      generalize s.loads.idxOf (k : Int) = j at hjl gj
      have g2 : (enterS s n p).loads[j + 1]? = some (k : Int) := gj
      rw [bearer_at gi.ln g2, bearer_at h.ln gj]
      rfl
    · rw [bearer_no hmm, bearer_no (fun z => ?_)]
      have z : (k : Int) ∈ ((s.marks.length : Nat) : Int) :: s.loads := z
      rcases List.mem_cons.mp z with y | y
      · omega
      · exact hmm y
  · unfold storyM
    have g2 : (enterS s n p).loads[0]? = some ((s.marks.length : Nat) : Int) := rfl
    rw [bearer_at gi.ln g2]
    show stRows ((s.marks ++ [[]]).getD s.marks.length [] ++ [(_, 0)]) = []
    rw [List.getD_eq_getElem?_getD, List.getElem?_append_right (Nat.le_refl _), Nat.sub_self]
    rfl
theorem Gi.call (h : Gi D s) {n : Str} (e : callW s n = none) : Kp D s (callS s n) ∧ tsOf (callS s n) = tsOf s := by
  unfold callW at e
  split at e
  · rename_i hm
    split at e
    · cases e
    · rename_i hv
      refine ⟨⟨⟨h.f1, ⟨h.sd.ll, h.sd.ls, h.sd.n8, h.sd.ld⟩, h.nd, h.tp, h.sp, h.srt, h.lg, h.lk, h.lr, h.ln, fun x hx => ?_, ?_, h.pm, h.mkk, h.fn, h.n0⟩, fun z => z, rfl, rfl, rfl, rfl, fun b hb m hm => Nat.le_add_right_of_le (hb m hm), Nat.le_succ _, Nat.le_succ _⟩, rfl⟩
      · have hx : x ∈ s.leaving ++ [n] := hx
        rcases List.mem_append.mp hx with z | z
        · exact h.lv x z
        · rw [List.mem_singleton.mp z]; exact hm
      · show (s.leaving ++ [n]).Nodup
        rw [List.nodup_append]
        exact ⟨h.lvn, by simp, fun a ha b hb e => hv (by rw [← List.mem_singleton.mp hb, ← e]; exact ha)⟩
  · cases e
theorem Gi.stay (h : Gi D s) (n : Str) : Kp D s (stayS s n) ∧ tsOf (stayS s n) = tsOf s :=
  ⟨⟨⟨h.f1, ⟨h.sd.ll, h.sd.ls, h.sd.n8, h.sd.ld⟩, h.nd, h.tp, h.sp, h.srt, h.lg, h.lk, h.lr, h.ln, fun x hx => h.lv x (List.mem_of_mem_eraseIdx hx), h.lvn.sublist (List.eraseIdx_sublist _ _), h.pm, h.mkk, h.fn, h.n0⟩, fun z => z, rfl, rfl, rfl, rfl, fun b hb m hm => Nat.le_add_right_of_le (hb m hm), Nat.le_succ _, Nat.le_succ _⟩, rfl⟩
theorem Gi.pace (h : Gi D s) {n : Str} {p : Int} (e : paceW s n p = none) : Kp D s (paceS s n p) ∧ tsOf (paceS s n p) = tsOf s := by
  have hp : 1 ≤ p ∧ p ≤ 12 := by
    unfold paceW at e
    split at e
    · split at e
      · rename_i hp
        unfold paceB at hp
        rw [Bool.and_eq_true] at hp
        exact ⟨of_decide_eq_true hp.1, of_decide_eq_true hp.2⟩
      · cases e
    · cases e
  refine ⟨⟨⟨h.f1, ⟨h.sd.ll, h.sd.ls, h.sd.n8, h.sd.ld⟩, h.nd, fun n' hn' => ?_, h.sp, h.srt, h.lg, h.lk, h.lr, h.ln, h.lv, h.lvn, h.pm, h.mkk, h.fn, h.n0⟩, fun z => z, rfl, rfl, rfl, rfl, fun b hb m hm => Nat.le_add_right_of_le (hb m hm), Nat.le_succ _, putL_len _ _ _⟩, rfl⟩
  show ∃ q, getL (putL s.tempos n p) n' = some q ∧ _
  rw [getL_put]
  by_cases c : n = n'
  · rw [if_pos c]; exact ⟨p, rfl, hp⟩
  · rw [if_neg c]; exact h.tp n' hn'
theorem Gi.swap (h : Gi D s) {n : Str} (e : swapW s n = none) : Kp D s (swapS s n) ∧ tsOf (swapS s n) = tsOf s := by
  have e' : s.row.idxOf n + 1 < s.row.length := by
    unfold swapW at e
    split at e
    · rename_i hm
      split at e
      · cases e
      · have := List.idxOf_lt_length_of_mem hm; omega
    · cases e
  have ll := h.sd.ll
  have ls := h.sd.ls
  have gm := markR_get h.sd h.ln (s.row.idxOf n) 2 (by omega)
  have gl : ∀ b, (∀ m ∈ s.marks, m.length ≤ b) → ∀ m ∈ (markR s (s.row.idxOf n) 2).marks, m.length ≤ b + 1 := fun b hb => markR_len h.sd h.ln hb (s.row.idxOf n) 2 (by omega)
  obtain ⟨mk, em, lm⟩ := markR_eq s (s.row.idxOf n) 2
  have es : swapS s n = { s with marks := mk, row := swapL s.row (s.row.idxOf n) } := by
    have e2 : markS (markS s (s.row.idxOf n)) (s.row.idxOf n + 1) = { s with marks := mk } := em
    unfold swapS
    rw [e2]
  rw [es]
  rw [em] at gm gl
  generalize s.row.idxOf n = i at *
  have pm := swapL_pm e'
  have gm : ∀ k : Nat, mk.getD k [] = s.marks.getD k [] ++ (if i ≤ s.loads.idxOf (k : Int) ∧ s.loads.idxOf (k : Int) < i + 2 then [(s.row.getD (s.loads.idxOf (k : Int)) "", s.spots.getD (s.loads.idxOf (k : Int)) 0)] else []) := gm
  have lw := swapL_len2 s.row i
  refine ⟨⟨⟨h.f1, ⟨ll.trans lw.symm, ls.trans lw.symm, by show (swapL _ _).length ≤ 8; rw [lw]; exact h.sd.n8, fun l hl => by show 0 ≤ l ∧ l < (mk.length : Int); rw [lm]; exact h.sd.ld l hl⟩, pm.nodup_iff.mpr h.nd, fun n' hn' => h.tp n' (pm.mem_iff.mp hn'), h.sp, h.srt, h.lg, h.lk, fun n' hn' => h.lr n' (pm.mem_iff.mp hn'), h.ln, fun x hx => pm.mem_iff.mpr (h.lv x hx), h.lvn, ?_, fun j hj => ?_, h.fn, h.n0⟩, fun z => z, rfl, rfl, rfl, rfl, fun b hb m hm => Nat.le_succ_of_le (gl b hb m hm), Nat.le_succ _, Nat.le_succ _⟩, ts_same lm fun k hk => ?_⟩
  · show mk.length = s.poured.length + (swapL _ _).length
    rw [lw, lm, h.pm]
  · have hj : j < (swapL s.row i).length := hj
    rw [lw] at hj
    show (stFold (mk.getD (s.loads.getD j 0).toNat [])).2 ≤ s.spots.getD j 0
    have hb := h.sd.ld _ (getD_mem (d := (0 : Int)) (show j < s.loads.length by omega))
    have gj : s.loads[j]? = some (((s.loads.getD j 0).toNat : Nat) : Int) := by rw [Int.toNat_of_nonneg hb.1, getD_lt (show j < s.loads.length by omega), List.getElem?_eq_getElem]
    rw [gm, (idx_at h.ln gj).1]
    split
    · rw [stFold_last]; exact Rat.le_refl
    · rw [List.append_nil]; exact h.mkk j hj
  · unfold storyM
    show stRows (mk.getD k [] ++ _) = _
    rw [gm]
    by_cases hm : (k : Int) ∈ s.loads
    · have hjl := List.idxOf_lt_length_of_mem hm
      have gj : s.loads[s.loads.idxOf (k : Int)]? = some (k : Int) := by rw [List.getElem?_eq_getElem hjl, List.getElem_idxOf hjl]
      generalize s.loads.idxOf (k : Int) = j at hjl gj
      rw [bearer_at h.ln gj, bearer_at (s := { s with marks := mk, row := swapL s.row i }) h.ln gj]
      show stRows (s.marks.getD k [] ++ (if i ≤ j ∧ j < i + 2 then [(s.row.getD j "", s.spots.getD j 0)] else []) ++ [((swapL s.row i).getD j "", s.spots.getD j 0)]) = _
      by_cases c : i ≤ j ∧ j < i + 2
      · rw [if_pos c]
        exact stRows_again _ _ _ rfl
      · rw [if_neg c, List.append_nil, swapL_get e', if_neg (by omega), if_neg (by omega)]
    · have ix := ix_no hm
      rw [if_neg (by omega), List.append_nil, bearer_no hm, bearer_no (s := { s with marks := mk, row := swapL s.row i }) hm]
end

/-! ### goings, from meeting to meeting -/
def MoreG (s0 s : Ch) (goal : Nat) : Option Rat → Prop
  | none => s.poured.length < s0.poured.length + goal
  | some l => 0 < l ∧ s.poured.length ≤ s0.poured.length + 60
def partG (s : Ch) : Option Rat → Rat
  | none => meetS s
  | some l => mnR l (meetS s)
def restG (s : Ch) : Option Rat → Option Rat
  | none => none
  | some l => some (l - mnR l (meetS s))
inductive RnG (s0 : Ch) (goal : Nat) (h0 : Option Rat) : Nat → Ch → Option Rat → List Gw → Prop
  | refl : RnG s0 goal h0 0 s0 h0 []
  | step {k : Nat} {s s' : Ch} {l : Option Rat} {rows rows' : List Gw} (h : RnG s0 goal h0 k s l rows) (hne : s.row ≠ []) (hm : MoreG s0 s goal l) (it : ItG s (partG s l) s' rows') : RnG s0 goal h0 (k + 1) s' (restG s l) (rows ++ rows')
def EndG (s0 s : Ch) (goal : Nat) (l : Option Rat) : Prop := s.row = [] ∨ ¬ MoreG s0 s goal l
theorem rnG_det {s0 : Ch} {goal : Nat} {h0 : Option Rat} : ∀ {k : Nat} {s s' : Ch} {l l' : Option Rat} {r r' : List Gw}, RnG s0 goal h0 k s l r → RnG s0 goal h0 k s' l' r' → s = s' ∧ l = l' ∧ r = r'
  | 0, _, _, _, _, _, _, .refl, .refl => ⟨rfl, rfl, rfl⟩
  | k + 1, _, _, _, _, _, _, .step a _ _ ia, .step b _ _ ib => by
    obtain ⟨e1, e2, e3⟩ := rnG_det a b
    subst e1
    subst e2
    subst e3
    obtain ⟨e4, e5⟩ := itG_det ia ib
    subst e4
    subst e5
    exact ⟨rfl, rfl, rfl⟩
theorem rnG_pre {s0 : Ch} {goal : Nat} {h0 : Option Rat} {k : Nat} {s : Ch} {l : Option Rat} {r : List Gw} (t : RnG s0 goal h0 k s l r) : ∀ j, j < k → ∃ sj lj rj, RnG s0 goal h0 j sj lj rj ∧ sj.row ≠ [] ∧ MoreG s0 sj goal lj := by
  induction t with
  | refl => intro j hj; exact absurd hj (Nat.not_lt_zero _)
  | step t hne hm it ih =>
    rename_i k2 s2 s3 l2 rows2 rows3
    intro j hj
    rcases Nat.lt_or_ge j k2 with c | c
    · exact ih j c
    · have e : j = k2 := by omega
      subst e
      exact ⟨_, _, _, t, hne, hm⟩
theorem rnG_end {s0 : Ch} {goal : Nat} {h0 : Option Rat} {k k' : Nat} {s s' : Ch} {l l' : Option Rat} {r r' : List Gw} (a : RnG s0 goal h0 k s l r) (ea : EndG s0 s goal l) (b : RnG s0 goal h0 k' s' l' r') (eb : EndG s0 s' goal l') : s = s' ∧ l = l' ∧ r = r' := by
  rcases Nat.lt_trichotomy k k' with c | c | c
  · obtain ⟨sj, lj, rj, tj, h1, h2⟩ := rnG_pre b k c
    obtain ⟨rfl, rfl, rfl⟩ := rnG_det a tj
    exact (ea.elim h1 fun z => z h2).elim
  · subst c
    exact rnG_det a b
  · obtain ⟨sj, lj, rj, tj, h1, h2⟩ := rnG_pre a k' c
    obtain ⟨rfl, rfl, rfl⟩ := rnG_det b tj
    exact (eb.elim h1 fun z => z h2).elim
/-! ### sizes -/
structure Gb (k i : Nat) (D : Int) (s : Ch) : Prop where
  hD : 0 < D ∧ D.natAbs ^ 5 < 2 ^ (18 * k + 30 * i + 50)
  nw : s.now ≤ (((490 * k + 60 * i : Nat) : Int) : Rat)
  mm : ∀ m ∈ s.marks, m.length ≤ s.poured.length + 2 * i
  gl : s.ledgers.length ≤ i
  tl : s.tempos.length ≤ i
def Lt (s : Ch) : Prop := ∀ x ∈ s.spots, x < (s.fire : Rat)
theorem pw_le {D : Int} {a b : Nat} (h : D.natAbs < 2 ^ a) (e : a ≤ b) : D.natAbs < 2 ^ b := Nat.lt_of_lt_of_le h (Nat.pow_le_pow_right (by decide) e)
theorem pw4 {D k : Int} {a : Nat} (h : D.natAbs < 2 ^ a) (h1 : 1 ≤ k) (h12 : k ≤ 12) : (D * k).natAbs < 2 ^ (a + 4) := by
  rw [Int.natAbs_mul, Nat.pow_add]
  exact Nat.mul_lt_mul'' h (show k.natAbs < 16 by omega)
/-- of fifth powers: twelve takes eighteen bits, sixty-four takes thirty -/
theorem pw5_le {D : Int} {a b : Nat} (h : D.natAbs ^ 5 < 2 ^ a) (e : a ≤ b) : D.natAbs ^ 5 < 2 ^ b := Nat.lt_of_lt_of_le h (Nat.pow_le_pow_right (by decide) e)
theorem pw5_mul {D k : Int} {a c m : Nat} (h : D.natAbs ^ 5 < 2 ^ a) (hk : k.natAbs ≤ m) (hm : m ^ 5 < 2 ^ c) : (D * k).natAbs ^ 5 < 2 ^ (a + c) := by
  rw [Int.natAbs_mul, Nat.mul_pow, Nat.pow_add]
  exact Nat.mul_lt_mul'' h (Nat.lt_of_le_of_lt (Nat.pow_le_pow_left hk 5) hm)
theorem pw5_12 {D k : Int} {a : Nat} (h : D.natAbs ^ 5 < 2 ^ a) (h1 : 1 ≤ k) (h12 : k ≤ 12) : (D * k).natAbs ^ 5 < 2 ^ (a + 18) := pw5_mul (m := 12) h (by omega) (by decide)
theorem pw5_to {D : Int} {a b : Nat} (h : D.natAbs ^ 5 < 2 ^ a) (e : a ≤ 5 * b) : D.natAbs < 2 ^ b := by
  rcases Nat.lt_or_ge D.natAbs (2 ^ b) with z | z
  · exact z
  · have h2 := Nat.pow_le_pow_left z 5
    rw [← Nat.pow_mul] at h2
    have h3 : (2 : Nat) ^ a ≤ 2 ^ (b * 5) := Nat.pow_le_pow_right (by decide) (by omega)
    omega
theorem last_lt {s : Ch} {D : Int} (g : Gi D s) (h : s.row ≠ [] → s.spots.getD (s.row.length - 1) 0 ≠ (s.fire : Rat)) : Lt s := fun x hx => by
  have ls := g.sd.ls
  obtain ⟨i, hi, rfl⟩ := List.getElem_of_mem hx
  have hne : s.row ≠ [] := fun z => by rw [z] at ls; simp at ls; rw [ls] at hi; simp at hi
  have hr : 0 < s.row.length := List.length_pos_iff.mpr hne
  have a := h hne
  have b := (sp_get g (j := s.row.length - 1) (by omega)).2.1
  have c : s.spots[i] ≤ s.spots.getD (s.row.length - 1) 0 := by
    rw [getD_lt (by omega)]
    rcases Nat.lt_or_ge i (s.row.length - 1) with z | z
    · exact List.pairwise_iff_getElem.mp g.srt i (s.row.length - 1) hi (by omega) z
    · have : i = s.row.length - 1 := by omega
      subst this
      exact Rat.le_refl
  grind
def cntF (s : Ch) : Nat := s.spots.countP fun x => decide (x = (s.fire : Rat))
theorem cnt_turnG {D : Int} {s : Ch} (g : Gi D s) (hne : s.row ≠ []) (hl : s.spots.getD (s.row.length - 1) 0 = (s.fire : Rat)) : cntF (turnG s) + 1 = cntF s := by
  have hr : 0 < s.row.length := List.length_pos_iff.mpr hne
  have hls := g.sd.ls
  have hsn : s.spots ≠ [] := fun z => by rw [z] at hls; simp at hls; omega
  have e0 : s.spots = s.spots.dropLast ++ [s.spots.getD (s.row.length - 1) 0] := by
    have := (List.dropLast_concat_getLast hsn).symm
    rw [List.getLast_eq_getElem] at this
    rw [getD_lt (show s.row.length - 1 < s.spots.length by omega)]
    simp only [hls] at this
    exact this
  have ef := (turnG_all s).2.2.1
  have one : s.spots.countP (fun x => decide (x = (s.fire : Rat))) = s.spots.dropLast.countP (fun x => decide (x = (s.fire : Rat))) + 1 := by
    conv => lhs; rw [e0]
    rw [List.countP_append, hl, List.countP_cons, List.countP_nil, decide_eq_true rfl]
    rfl
  unfold cntF
  rw [ef, one]
  congr 1
  cases hv : lvI s with
  | none =>
    obtain ⟨mk, e, _⟩ := turnG_none hv
    rw [e]
    show (((0 : Rat) :: s.spots).dropLast).countP _ = _
    have e1 : ((0 : Rat) :: s.spots).dropLast = 0 :: s.spots.dropLast := by
      cases hs : s.spots with
      | nil => exact absurd hs hsn
      | cons a l => rfl
    rw [e1, List.countP_cons]
    have z0 : decide ((0 : Rat) = (s.fire : Rat)) = false := decide_eq_false fun z => by
      have : (0 : Rat) < (s.fire : Rat) := cp (by have := g.f1.1; omega)
      rw [← z] at this
      exact absurd this (by decide)
    rw [z0]
    rfl
  | some i =>
    obtain ⟨mk, e, _⟩ := turnG_some hv
    rw [e]
theorem turnG_mm {D : Int} {s : Ch} (g : Gi D s) {b : Nat} (h : ∀ m ∈ s.marks, m.length ≤ b) : ∀ m ∈ (turnG s).marks, m.length ≤ b + 1 := fun m hm => by
  have sdp : Side (pourS s) := ⟨g.sd.ll, g.sd.ls, g.sd.n8, g.sd.ld⟩
  cases hv : lvI s with
  | none =>
    obtain ⟨mk, e, em, _⟩ := turnG_none hv
    rw [e] at hm
    have hm : m ∈ mk ++ [[]] := hm
    rcases List.mem_append.mp hm with z | z
    · rw [em] at z
      exact markR_len sdp g.ln (b := b) h 0 s.row.length (by show 0 + s.row.length ≤ s.row.length; omega) m z
    · rw [List.mem_singleton.mp z]; exact Nat.zero_le _
  | some i =>
    obtain ⟨mk, e, em, _⟩ := turnG_some hv
    have hi := (lvI_some hv).1
    rw [e] at hm
    have hm : m ∈ mk := hm
    rw [em] at hm
    exact markR_len sdp g.ln (b := b) h i (s.row.length - i) (by show i + (s.row.length - i) ≤ s.row.length; omega) m hm
theorem turnG_tl (s : Ch) : (turnG s).tempos.length ≤ s.tempos.length := by
  cases hv : lvI s with
  | none =>
    obtain ⟨mk, e, em, _⟩ := turnG_none hv
    rw [e]
    exact Nat.le_refl _
  | some i =>
    obtain ⟨mk, e, em, _⟩ := turnG_some hv
    rw [e]
    exact List.length_filter_le _ _
structure TnF (D : Int) (s : Ch) (n : Nat) (s' : Ch) (rows : List Gw) : Prop where
  gi : Gi D s'
  po : s'.poured.length = s.poured.length + n
  nw : s'.now = s.now
  lg : s'.ledgers = s.ledgers
  tl : s'.tempos.length ≤ s.tempos.length
  mm : ∀ b, (∀ m ∈ s.marks, m.length ≤ b) → ∀ m ∈ s'.marks, m.length ≤ b + n
  fi : s'.fire = s.fire
  wy : s'.way = s.way
  rl : rows.length ≤ 2 * n
  cn : cntF s' + n = cntF s
theorem tnG_facts {D : Int} {s s' : Ch} {n : Nat} {rows : List Gw} (t : TnG s n s' rows) (g : Gi D s) : TnF D s n s' rows := by
  induction t with
  | refl => exact ⟨g, rfl, rfl, rfl, Nat.le_refl _, fun b h => h, rfl, rfl, Nat.le_refl _, rfl⟩
  | step t hne hl ih =>
    rename_i n1 s1 rows1
    obtain ⟨e1, e2, e3, e4, e5⟩ := turnG_all s1
    have c := cnt_turnG ih.gi hne hl
    have r := rowsG_len s1
    have tl := turnG_tl s1
    refine ⟨ih.gi.turn hne, by rw [e5, List.length_append, ih.po]; rfl, by rw [e2, ih.nw], by rw [e1, ih.lg], Nat.le_trans tl ih.tl, fun b h m hm => turnG_mm ih.gi (ih.mm b h) m hm, by rw [e3, ih.fi], by rw [e4, ih.wy], ?_, ?_⟩
    · rw [List.length_append]
      have := ih.rl
      omega
    · have := ih.cn
      omega
theorem cntF_le {D : Int} {s : Ch} (g : Gi D s) : cntF s ≤ 8 := by
  have a := List.countP_le_length (p := fun x => decide (x = (s.fire : Rat))) (l := s.spots)
  have b := g.sd.ls
  have c := g.sd.n8
  unfold cntF
  omega
theorem tnG_zero {s s' : Ch} {rows : List Gw} (t : TnG s 0 s' rows) : s' = s ∧ rows = [] := by
  cases t
  exact ⟨rfl, rfl⟩
/-- one walk with its turns -/
structure ItF (D : Int) (s : Ch) (t : Rat) (s' : Ch) (rows : List Gw) : Prop where
  gi : Gi D s'
  lt : Lt s'
  po : ∃ n, s'.poured.length = s.poured.length + n ∧ n ≤ 8 ∧ rows.length ≤ 2 * n ∧ (n = 0 → s' = walkS s t) ∧ (∀ b, (∀ m ∈ s.marks, m.length ≤ b) → ∀ m ∈ s'.marks, m.length ≤ b + n)
  nw : s'.now = s.now + t
  gl : s'.ledgers.length = s.ledgers.length
  tl : s'.tempos.length ≤ s.tempos.length
  fi : s'.fire = s.fire
  wy : s'.way = s.way
  sk : t = meetS s → s.poured.length < s'.poured.length ∨ stkN (pcs s) s.spots < stkN (pcs s') s'.spots
theorem itG_facts {D : Int} {s s' : Ch} {t : Rat} {rows : List Gw} (it : ItG s t s' rows) (g : Gi D s) (hD : D ≠ 0) (hne : s.row ≠ []) (ft : Fr D t) (t0 : 0 ≤ t) (tm : t ≤ meetS s) : ItF D s t s' rows := by
  obtain ⟨n, tn, en⟩ := it
  have gw := g.walk hD hne ft t0 tm
  have f := tnG_facts tn gw
  have c8 := cntF_le gw
  have fc := f.cn
  have hr : 0 < s.row.length := List.length_pos_iff.mpr hne
  refine ⟨f.gi, last_lt f.gi en, ⟨n, f.po, by omega, f.rl, fun z => ?_, f.mm⟩, f.nw, ?_, f.tl, f.fi, f.wy, fun em => ?_⟩
  · subst z
    exact (tnG_zero tn).1
  · rw [f.lg]
    have := congrArg List.length (ledN_keys (s := s) (t := t) g.lr s.row.length (Nat.le_refl _))
    rw [List.length_map, List.length_map] at this
    exact this
  · rcases Nat.eq_zero_or_pos n with z | z
    · subst z
      have e := (tnG_zero tn).1
      subst e
      right
      rw [em]
      have hn : 0 < (pcs s).length := by rw [pcs_len]; exact hr
      have m0 : 0 ≤ meetM s.fire (pcs s) s.spots := by rw [em] at t0; exact t0
      refine stk_meet g.wk hn m0 ?_
      have := en hne
      rw [em] at this
      rw [pcs_len]
      exact this
    · left
      have := f.po
      show s.poured.length < _
      have e : (walkS s t).poured.length = s.poured.length := rfl
      omega
/-! ### a going keeps all this -/
def mzG (s0 s : Ch) (goal : Nat) : Option Rat → Nat
  | none => 8 * (s0.poured.length + goal - s.poured.length) + (7 - stkN (pcs s) s.spots)
  | some l => (if l = 0 then 0 else 1) + 8 * (s0.poured.length + 61 - s.poured.length) + (7 - stkN (pcs s) s.spots)
def capG (goal : Nat) : Option Rat → Nat
  | none => goal + 7
  | some _ => 68
/-- what is left of the hours -/
def LeftOk (D : Int) (s0 s : Ch) : Option Rat → Option Rat → Prop
  | none, none => True
  | some h0, some l => Fr D l ∧ 0 ≤ l ∧ l ≤ 60 ∧ s.now + l = s0.now + h0
  | _, _ => False
structure RnF (k0 i : Nat) (s0 : Ch) (goal : Nat) (h0 : Option Rat) (k : Nat) (s : Ch) (l : Option Rat) (rows : List Gw) (D : Int) : Prop where
  gi : Gi D s
  lt : Lt s
  gb : Gb (k0 + k) i D s
  lo : LeftOk D s0 s h0 l
  po : s0.poured.length ≤ s.poured.length ∧ s.poured.length ≤ s0.poured.length + capG goal h0
  fi : s.fire = s0.fire
  wy : s.way = s0.way
  rl : rows.length ≤ 2 * (s.poured.length - s0.poured.length)
  mz : k + mzG s0 s goal l ≤ mzG s0 s0 goal h0
  nf : Fr D s0.now
  mn : s0.now ≤ s.now
theorem Gb.scale {k i : Nat} {D : Int} {s : Ch} (b : Gb k i D s) {q : Int} (q1 : 1 ≤ q) (q12 : q ≤ 12) : Gb (k + 1) i (D * q) s :=
  ⟨⟨Int.mul_pos b.hD.1 (by omega), pw5_le (pw5_12 b.hD.2 q1 q12) (by omega)⟩, Rat.le_trans b.nw (Rat.intCast_le_intCast.mpr (by omega)), b.mm, b.gl, b.tl⟩
theorem ltOk_scale {D : Int} {s0 s : Ch} {h0 l : Option Rat} (h : LeftOk D s0 s h0 l) (hD : 0 < D) {q : Int} (q1 : 1 ≤ q) : LeftOk (D * q) s0 s h0 l := by
  cases h0 <;> cases l
  · trivial
  · exact h.elim
  · exact h.elim
  · exact ⟨h.1.scale (by omega) (by omega), h.2⟩
theorem rnG_facts {k0 i : Nat} {D : Int} {s0 : Ch} {goal : Nat} {h0 : Option Rat} (g : Gi D s0) (hlt : Lt s0) (b : Gb k0 i D s0) (hh : LeftOk D s0 s0 h0 h0) {k : Nat} {s : Ch} {l : Option Rat} {rows : List Gw} (r : RnG s0 goal h0 k s l rows) : ∃ D', RnF k0 i s0 goal h0 k s l rows D' := by
  induction r with
  | refl => exact ⟨D, g, hlt, b, hh, ⟨Nat.le_refl _, Nat.le_add_right _ _⟩, rfl, rfl, Nat.zero_le _, by omega, g.fn, Rat.le_refl⟩
  | step r hne hm it ih =>
    rename_i k1 s1 s2 l1 rows1 rows2
    obtain ⟨D1, f⟩ := ih
    obtain ⟨q, q1, q12, mf, mp, m486⟩ := f.gi.meet f.gb.hD.1 hne f.lt
    have hD2 : 0 < D1 * q := Int.mul_pos f.gb.hD.1 (by omega)
    have g2 := f.gi.scale f.gb.hD.1 q1
    have b2 := f.gb.scale q1 q12
    have lo2 := ltOk_scale f.lo f.gb.hD.1 q1
    have pt : Fr (D1 * q) (partG s1 l1) ∧ 0 ≤ partG s1 l1 ∧ partG s1 l1 ≤ meetS s1 := by
      cases l1 with
      | none => exact ⟨mf, Rat.le_of_lt mp, Rat.le_refl⟩
      | some l =>
        cases h0 with
        | none => exact f.lo.elim
        | some h0 =>
          show Fr (D1 * q) (mnR l (meetS s1)) ∧ 0 ≤ mnR l (meetS s1) ∧ mnR l (meetS s1) ≤ meetS s1
          rcases mnR_or l (meetS s1) with e | e
          · exact ⟨by rw [e]; exact lo2.1, by rw [e]; exact lo2.2.1, mnR_le_r _ _⟩
          · exact ⟨by rw [e]; exact mf, by rw [e]; exact Rat.le_of_lt mp, mnR_le_r _ _⟩
    have x := itG_facts it g2 (by omega) hne pt.1 pt.2.1 pt.2.2
    obtain ⟨n, en, n8, rl, _, xmm⟩ := x.po
    have e490 : s2.now ≤ (((490 * (k0 + k1 + 1) + 60 * i : Nat) : Int) : Rat) := by
      rw [x.nw]
      have a := f.gb.nw
      have c := Rat.le_trans pt.2.2 m486
      have e : (((490 * (k0 + k1 + 1) + 60 * i : Nat) : Int) : Rat) = (((490 * (k0 + k1) + 60 * i : Nat) : Int) : Rat) + ((490 : Int) : Rat) := by
        rw [← Rat.intCast_add]
        congr 1
        omega
      rw [e]
      have d : ((490 : Int) : Rat) = 490 := rfl
      grind
    have sb : ∀ s : Ch, s.row.length ≤ 8 → stkN (pcs s) s.spots ≤ 7 := fun s h => by have := stk_le (pcs s) s.spots; rw [pcs_len] at this; omega
    have sb1 := sb s1 f.gi.sd.n8
    have sb2 := sb s2 x.gi.sd.n8
    have fpo := f.po
    have frl := f.rl
    have fmz := f.mz
    refine ⟨D1 * q, x.gi, x.lt, ⟨b2.hD, e490, fun m hm => ?_, by rw [x.gl]; exact f.gb.gl, Nat.le_trans x.tl f.gb.tl⟩, ?_, ⟨by omega, ?_⟩, by rw [x.fi, f.fi], by rw [x.wy, f.wy], by rw [List.length_append]; omega, ?_, f.nf.scale (by have := f.gb.hD.1; omega) (by omega), by rw [x.nw]; have a := f.mn; have b := pt.2.1; grind⟩
    · have := xmm _ f.gb.mm m hm
      omega
    · cases l1 with
      | none => cases h0 with
        | none => trivial
        | some h0 => exact f.lo.elim
      | some l => cases h0 with
        | none => exact f.lo.elim
        | some h0 =>
          refine ⟨lo2.1.sub pt.1, ?_, ?_, ?_⟩
          · have := mnR_le_l l (meetS s1); grind
          · have a : 0 ≤ mnR l (meetS s1) := pt.2.1
            have c := lo2.2.2.1
            grind
          · have c := lo2.2.2.2
            have d : s2.now = s1.now + mnR l (meetS s1) := x.nw
            grind
    · cases l1 with
      | none => cases h0 with
        | none => have hm : s1.poured.length < s0.poured.length + goal := hm; show _ ≤ _ + (goal + 7); omega
        | some h0 => exact f.lo.elim
      | some l => cases h0 with
        | none => exact f.lo.elim
        | some h0 => have hm := hm.2; show _ ≤ _ + 68; omega
    · have dec : mzG s0 s2 goal (restG s1 l1) + 1 ≤ mzG s0 s1 goal l1 := by
        cases l1 with
        | none =>
          have hm : s1.poured.length < s0.poured.length + goal := hm
          have sk := x.sk rfl
          show 8 * (s0.poured.length + goal - s2.poured.length) + (7 - stkN (pcs s2) s2.spots) + 1 ≤ 8 * (s0.poured.length + goal - s1.poured.length) + (7 - stkN (pcs s1) s1.spots)
          omega
        | some l =>
          obtain ⟨hl, hm⟩ := hm
          have ln : l ≠ 0 := fun z => by rw [z] at hl; exact absurd hl (by decide)
          show (if l - mnR l (meetS s1) = 0 then 0 else 1) + 8 * (s0.poured.length + 61 - s2.poured.length) + (7 - stkN (pcs s2) s2.spots) + 1 ≤ (if l = 0 then 0 else 1) + 8 * (s0.poured.length + 61 - s1.poured.length) + (7 - stkN (pcs s1) s1.spots)
          rw [if_neg ln]
          by_cases c : meetS s1 < l
          · have em : mnR l (meetS s1) = meetS s1 := if_pos c
            have sk := x.sk (show partG s1 (some l) = _ from em)
            rw [em]
            split <;> omega
          · have em : mnR l (meetS s1) = l := if_neg c
            rw [em, if_pos (by grind)]
            rcases Nat.eq_zero_or_pos n with z | z
            · have mono : stkN (pcs s1) s1.spots ≤ stkN (pcs s2) s2.spots := by
                obtain ⟨n', en', _, _, e0, _⟩ := x.po
                have e := e0 (by omega)
                rw [e]
                show _ ≤ stkN (pcs s1) (walkM (pcs s1) s1.spots (partG s1 (some l)))
                refine List.countP_mono_left fun j hj hh => stk_keep g2.wk pt.2.1 pt.2.2 (by rw [List.mem_range] at hj; omega) hh
              omega
            · omega
      omega

/-- sizes that turns keep -/
structure Sz (s : Ch) : Prop where
  ml : s.marks.length < 3000
  mm : ∀ m ∈ s.marks, m.length ≤ 3000
  pl : s.poured.length < 3000
def sp_p_Chain_mark_from (K : PySem.W.Frag) (T : Tb) (CC : Addr) : Sp := fun vs H Q _ => ∃ (D : Int) (c : Addr) (A : Ad) (s : Ch) (a : Nat), vs = [.ref c, .int a] ∧ ChAt K CC H c A s ∧ Side s ∧ s.loads.Nodup ∧ (∀ m ∈ s.marks, m.length ≤ 4000) ∧ a ≤ s.row.length ∧ ∀ H', Sx T (ownC c A) H H' → ChAt K CC H' c A (markR s a (s.row.length - a)) → Q .non H'
theorem ok_p_Chain_mark_from {f : Addr} {fd : FuncData} (F : Fun K "mark_from" "Chain.mark_from" s_p_Chain_mark_from f fd) (B : Bn mg) {CC : Addr} (TC : Kl K CC) (M_mark : Mt P w K mg base CC 1 "mark" ["self", "at"] (sp_p_Chain_mark K T CC)) : FnOk P w K mg base CX0 2 f fd ["self", "first"] (sp_p_Chain_mark_from K T CC) := by
  refine F.ok sc_p_Chain_mark_from (fun vs H Q E h => ?_) (fun cdv A outer s H vs Q E hr h => ?_)
  · obtain ⟨D, c, A, s, a, rfl, _⟩ := h
    rfl
  · obtain ⟨D, c, A, s, a, rfl, h, sd, nd, hm, ha, q⟩ := h
    refine ⟨_, (pss_one (ps_for PassesOwn.never rfl (pi_range2 (by rfl) B.range_ (pa_cons (pv 1) (pa_cons (pe_callB call_len_seq (by rfl) B.len_ (by decide +kernel) (pa_cons (pe_fc TC.cl (TC.no "row" (by decide +kernel)) (pv 0)) pa_nil)) pa_nil))) (pg_name (i := 2) sc_p_Chain_mark_from.nd rfl (.inl rfl))
      (pss_one (ps_expr (pe_mt M_mark TC.cl (hr.mono (by decide)) (pv 0) (pa_cons (pv 2) pa_nil)))))), ?_⟩
    have n8 := sd.n8
    refine ⟨_, rfl, _, rfl, c, _, _, _, rfl, h.ins, fl_rw, A.rw, _, rfl, .inl (SqL.of h.rw), (a : Int), _, rfl, ?_, ?_⟩
    · rw [List.length_map]
      exact ⟨by omega, by omega, by omega, by omega⟩
    · rw [List.length_map, show ((s.row.length : Int) - (a : Int)).toNat = s.row.length - a by omega]
      refine for_range (lo := (a : Int)) (n := s.row.length - a) (fun i σ H' => Sx T (ownC c A) H H' ∧ ChAt K CC H' c A (markR s a i) ∧ ∃ x1 x2, σ = [some (.ref c), x1, x2]) ⟨Sx.refl, h, _, _, rfl⟩ ?_ ?_
      · rintro i σ H' hi ⟨x', h', x1, x2, rfl⟩
        obtain ⟨mk, e, l⟩ := markR_eq s a i
        have ez : (a : Int) + (i : Int) = ((a + i : Nat) : Int) := by omega
        rw [ez]
        refine ⟨_, rfl, c, _, _, rfl, h'.ins, fl_no (by decide +kernel), _, rfl, c, A, markR s a i, a + i, rfl, h', markR_side sd a i, by rw [e]; show a + i < s.row.length; omega, fun m hm' => by have := markR_len sd nd hm a i (by omega) m hm'; omega, fun H2 x2 h2 => ?_⟩
        exact ⟨x'.step x2, h2, _, _, rfl⟩
      · rintro σ H' ⟨x', h', x1, x2, rfl⟩
        exact q H' x' h'
theorem lvI_is {s : Ch} {j : Nat} (hj : j < s.row.length) (hm : s.row.getD j "" ∈ s.leaving) (h : ∀ i, j < i → i < s.row.length → s.row.getD i "" ∉ s.leaving) : lvI s = some j := by
  cases hv : lvI s with
  | none => exact absurd hm (lvI_none hv j hj)
  | some k =>
    obtain ⟨k1, k2, k3⟩ := lvI_some hv
    rcases Nat.lt_trichotomy k j with c | c | c
    · exact absurd hm (k3 j c hj)
    · rw [c]
    · exact absurd k2 (h k c k1)
theorem lvI_no {s : Ch} (h : ∀ i, i < s.row.length → s.row.getD i "" ∉ s.leaving) : lvI s = none := by
  cases hv : lvI s with
  | none => rfl
  | some k =>
    obtain ⟨k1, k2, _⟩ := lvI_some hv
    exact absurd k2 (h k k1)
def lvV (s : Ch) : V := match lvI s with
  | none => .non
  | some i => .int (i : Nat)
def sp_p_Chain_next_leaver (K : PySem.W.Frag) (T : Tb) (CC : Addr) : Sp := fun vs H Q _ => ∃ (c : Addr) (A : Ad) (s : Ch), vs = [.ref c] ∧ ChAt K CC H c A s ∧ s.row.length ≤ 8 ∧ Q (lvV s) H
theorem ok_p_Chain_next_leaver {f : Addr} {fd : FuncData} (F : Fun K "next_leaver" "Chain.next_leaver" s_p_Chain_next_leaver f fd) (B : Bn mg) {CC : Addr} (TC : Kl K CC) : FnOk P w K mg base CX0 1 f fd ["self"] (sp_p_Chain_next_leaver K T CC) := by
  refine F.ok sc_p_Chain_next_leaver (fun vs H Q E h => ?_) (fun cdv A outer s H vs Q E hr h => ?_)
  · obtain ⟨c, A, s, rfl, _⟩ := h
    rfl
  · obtain ⟨c, A, s, rfl, h, n8, q⟩ := h
    refine ⟨_, (pss_cons (ps_for PassesOwn.never rfl (pi_revR (by rfl) B.reversed_ (prg_1 (by rfl) B.range_ (pe_callB call_len_seq (by rfl) B.len_ (by decide +kernel) (pa_cons (pe_fc TC.cl (TC.no "row" (by decide +kernel)) (pv 0)) pa_nil)))) (pg_name (i := 1) sc_p_Chain_next_leaver.nd rfl (.inl rfl))
      (pss_one (ps_if (pt_cmpR op_in_seq (pe_ix ix_list (pe_fc TC.cl (TC.no "row" (by decide +kernel)) (pv 0)) (pv 1) (fun _ _ => rfl)) (pe_fc TC.cl (TC.no "leaving" (by decide +kernel)) (pv 0)) (by rfl)) (pss_one (ps_ret (pv 1))) pss_nil)))
      (pss_one (ps_ret pe_non))), ?_⟩
    refine ⟨_, rfl, c, _, _, _, rfl, h.ins, fl_rw, A.rw, _, rfl, .inl (SqL.of h.rw), _, rfl, by decide, by decide, by rw [List.length_map]; omega, by rw [List.length_map]; omega, for_rangeC (fun i σ H3 => H3 = H ∧ (∃ x1, σ = [some (.ref c), x1]) ∧ ∀ j, s.row.length - i ≤ j → j < s.row.length → s.row.getD j "" ∉ s.leaving) ⟨rfl, ⟨_, rfl⟩, fun j h1 h2 => by omega⟩ ?_ ?_⟩
    · rintro i σ H3 hi ⟨rfl, ⟨x1, rfl⟩, hno⟩
      rw [List.length_map] at hi
      have hin : i < s.row.length := by omega
      obtain ⟨j, hj⟩ : ∃ j, j = s.row.length - 1 - i := ⟨_, rfl⟩
      have ez : (0 + ((((s.row.map V.str).length : Int) - 0).toNat : Int) - 1 + (i : Int) * -1) = (j : Int) := by rw [List.length_map]; omega
      rw [ez]
      have gr : (s.row.map V.str)[j]? = some (.str (s.row.getD j "")) := by rw [List.getElem?_map, getD_lt (show j < s.row.length by omega), List.getElem?_eq_getElem (show j < s.row.length by omega)]; rfl
      refine ⟨_, rfl, c, _, _, _, rfl, h.ins, fl_rw, _, rfl, A.rw, _, _, _, rfl, rfl, SqL.of h.rw, at_of (j := j) rfl gr, _, rfl, c, _, _, _, rfl, h.ins, fl_lv, A.lv, _, rfl, .inl (SqL.of h.lv), rfl, flat_strs _, _, rfl, ?_⟩
      show if inV (.str (s.row.getD j "")) (s.leaving.map V.str) = true then _ else _
      rw [inV_strs]
      by_cases hv : s.row.getD j "" ∈ s.leaving
      · rw [decide_eq_true hv]
        have ej : lvV s = .int (j : Nat) := by unfold lvV; rw [lvI_is (by omega) hv fun i h1 h2 => hno i (by omega) h2]
        rw [ej] at q
        exact iteT ⟨_, rfl, q⟩
      · rw [decide_eq_false hv]
        refine iteF ⟨rfl, ⟨_, rfl⟩, fun k h1 h2 => ?_⟩
        rcases Nat.lt_or_ge j k with z | z
        · exact hno k (by omega) h2
        · have : k = j := by omega
          rw [this]
          exact hv
    · rintro σ H3 ⟨rfl, ⟨x1, rfl⟩, hno⟩
      rw [List.length_map] at hno
      have ej : lvV s = .non := by unfold lvV; rw [lvI_no fun i hi => hno i (by omega) hi]
      rw [ej] at q
      exact q
theorem map_erase {α β : Type} (f : α → β) : ∀ (l : List α) (i : Nat), (l.map f).eraseIdx i = (l.eraseIdx i).map f
  | [], _ => rfl
  | _ :: _, 0 => rfl
  | x :: l, i + 1 => congrArg (f x :: ·) (map_erase f l i)
theorem sx_nat {i n : Nat} (h : i < n) : seqIndex? (i : Int) n = some i := by
  have h0 : ¬ ((i : Int) < 0) := by omega
  unfold seqIndex?
  simp only [h0, if_false]
  rw [if_pos (by simp; omega)]
  rfl
theorem drop_tm (l : List (Str × Int)) (n : Str) : dropK (tmV l) (Sum.inr n) = tmV (dropL l n) := by
  unfold dropK tmV dropL
  rw [List.filter_map]
  congr 1
  refine List.filter_congr fun x _ => ?_
  show decide ((Sum.inr x.1 : L2.Key) ≠ Sum.inr n) = !decide (x.1 = n)
  by_cases c : x.1 = n
  · rw [decide_eq_true c, decide_eq_false (fun z => z (inr_eq.mpr c))]
    rfl
  · rw [decide_eq_false c, decide_eq_true (p := (Sum.inr x.1 : L2.Key) ≠ Sum.inr n) (fun z => c (inr_eq.mp z))]
    rfl
def sp_p_Chain_leave (K : PySem.W.Frag) (T : Tb) (CC : Addr) : Sp := fun vs H Q _ => ∃ (c : Addr) (A : Ad) (s : Ch) (i : Nat), vs = [.ref c, .int i] ∧ ChAt K CC H c A s ∧ i < s.row.length ∧ s.row.length ≤ 8 ∧ s.row.getD i "" ∈ s.leaving ∧ (∃ p, getL s.tempos (s.row.getD i "") = some p) ∧ ∀ H', Sx T (ownC c A) H H' → ChAt K CC H' c A (leaveS s i) → Q .non H'
theorem ok_p_Chain_leave {f : Addr} {fd : FuncData} (F : Fun K "leave" "Chain.leave" s_p_Chain_leave f fd) {CC : Addr} (TC : Kl K CC) : FnOk P w K mg base CX0 1 f fd ["self", "at"] (sp_p_Chain_leave K T CC) := by
  refine F.ok sc_p_Chain_leave (fun vs H Q E h => ?_) (fun cdv A outer s H vs Q E hr h => ?_)
  · obtain ⟨c, A, s, i, rfl, _⟩ := h
    rfl
  · obtain ⟨c, A, s, i, rfl, h, hi, n8, hv, ⟨p, hp⟩, q⟩ := h
    refine ⟨_, (pss_cons (ps_set (i := 2) sc_p_Chain_leave.nd rfl (.inl rfl) (pe_bm PySem.F.plainAttrs_list PySem.F.slot_list_pop PySem.F.type_list_pop mt_popAt (pe_fc TC.cl (TC.no "row" (by decide +kernel)) (pv 0)) (pa_cons (pv 1) pa_nil)))
      (pss_cons (ps_expr (pe_bm PySem.F.plainAttrs_list PySem.F.slot_list_remove PySem.F.type_list_remove mt_remS (pe_fc TC.cl (TC.no "leaving" (by decide +kernel)) (pv 0)) (pa_cons (pv 2) pa_nil)))
      (pss_one (ps_expr (pe_dpop1 (pe_fc TC.cl (TC.no "tempos" (by decide +kernel)) (pv 0)) (pv 2) ⟨rfl, rfl, rfl, rfl⟩))))), ?_⟩
    have gr : (s.row.map V.str)[i]? = some (.str (s.row.getD i "")) := by rw [List.getElem?_map, getD_lt hi, List.getElem?_eq_getElem hi]; rfl
    refine ⟨_, rfl, c, _, _, _, rfl, h.ins, fl_rw, .inl ⟨rfl, _, SqL.of h.rw⟩, _, rfl, A.rw, _, _, i, _, rfl, rfl, h.rw, by omega, by omega, ?_, gr, ?_⟩
    · rw [List.length_map]
      exact sx_nat hi
    have h1 := h.set_rw (s.row.eraseIdx i)
    rw [show (s.row.map V.str).eraseIdx i = (s.row.eraseIdx i).map V.str from (map_erase _ _ _)]
    have x1 : Sx T (ownC c A) H (upd H A.rw (.lst ((s.row.eraseIdx i).map V.str))) := sx_upd h.rw rfl (by simp [ownC])
    refine ⟨_, rfl, c, _, _, _, rfl, h1.ins, fl_lv, .inl ⟨rfl, _, SqL.of h1.lv⟩, _, rfl, A.lv, s.leaving, _, rfl, rfl, h1.lv, hv, ?_⟩
    have h2 := h1.set_lv (goneL s.leaving (s.row.getD i ""))
    have x2 : Sx T (ownC c A) _ (upd (upd H A.rw (.lst ((s.row.eraseIdx i).map V.str))) A.lv (.lst ((goneL s.leaving (s.row.getD i "")).map V.str))) := sx_upd h1.lv rfl (by simp [ownC])
    refine ⟨_, rfl, c, _, _, _, rfl, h2.ins, fl_tm, A.tm, rfl, .inl ⟨_, .inl h2.tm⟩, _, rfl, _, Sum.inr (s.row.getD i ""), .int p, h2.tm, rfl, by rw [val_tm, hp]; rfl, ?_⟩
    rw [drop_tm]
    have h3 := h2.set_tm (dropL s.tempos (s.row.getD i ""))
    exact q _ ((x1.step x2).step (sx_upd h2.tm rfl (by simp [ownC]))) h3
theorem last_at {α : Type} {l : List α} {d : α} (h : 0 < l.length) : l[l.length - 1]? = some (l.getD (l.length - 1) d) := by rw [getD_lt (show l.length - 1 < l.length by omega), List.getElem?_eq_getElem]
theorem last_ints {l : List Int} (h : 0 < l.length) : atI (l.map V.int) (-1) = some (.int (l.getD (l.length - 1) 0)) := at_neg1 (by rw [List.length_map]; exact h) (by rw [List.length_map, List.getElem?_map, last_at h]; rfl)
theorem last_strs {l : List Str} (h : 0 < l.length) : atI (l.map V.str) (-1) = some (.str (l.getD (l.length - 1) "")) := at_neg1 (by rw [List.length_map]; exact h) (by rw [List.length_map, List.getElem?_map, last_at h]; rfl)
def sp_p_Chain_turn (K : PySem.W.Frag) (T : Tb) (CC : Addr) : Sp := fun vs H Q _ => ∃ (D : Int) (c : Addr) (A : Ad) (s : Ch), vs = [.ref c] ∧ ChAt K CC H c A s ∧ Gi D s ∧ Sz s ∧ s.row ≠ [] ∧
  ∀ p H' us, Sx T (ownC c A) H H' → ChAt K CC H' c A (turnG s) → H p = none → H' p = some (.lst us) → DpAll K H' us ((rowsG s).map gwD) → Q (.ref p) H'
theorem ok_p_Chain_turn {f : Addr} {fd : FuncData} (F : Fun K "turn" "Chain.turn" s_p_Chain_turn f fd) {CC : Addr} (TC : Kl K CC) (M_take_pail : Mt P w K mg base CC 1 "take_pail" ["self"] (sp_p_Chain_take_pail K T CC)) (M_mark_from : Mt P w K mg base CC 2 "mark_from" ["self", "first"] (sp_p_Chain_mark_from K T CC)) (M_next_leaver : Mt P w K mg base CC 1 "next_leaver" ["self"] (sp_p_Chain_next_leaver K T CC)) (M_leave : Mt P w K mg base CC 1 "leave" ["self", "at"] (sp_p_Chain_leave K T CC)) : FnOk P w K mg base CX0 3 f fd ["self"] (sp_p_Chain_turn K T CC) := by
  refine F.ok sc_p_Chain_turn (fun vs H Q E h => ?_) (fun cdv A outer s H vs Q E hr h => ?_)
  · obtain ⟨D, c, A, s, rfl, _⟩ := h
    rfl
  · obtain ⟨D, c, A, s, rfl, h, gi, sz', hne, q⟩ := h
    refine ⟨_, (pss_cons (ps_set (i := 1) sc_p_Chain_turn.nd rfl (.inl rfl) (pe_lst (pa_cons (pe_tup (pa_cons (pe_fc TC.cl (TC.no "now" (by decide +kernel)) (pv 0)) (pa_cons pe_str (pa_cons (pe_ix ix_list (pe_fc TC.cl (TC.no "loads" (by decide +kernel)) (pv 0)) (pe_un un_neg pe_int) (fun _ _ => rfl)) (pa_cons (pe_ix ix_list (pe_fc TC.cl (TC.no "row" (by decide +kernel)) (pv 0)) (pe_un un_neg pe_int) (fun _ _ => rfl)) pa_nil))))) pa_nil)))
      (pss_cons (ps_expr (pe_bm PySem.F.plainAttrs_list PySem.F.slot_list_append PySem.F.type_list_append mt_append (pe_fc TC.cl (TC.no "poured" (by decide +kernel)) (pv 0)) (pa_cons (pe_ix ix_list (pe_fc TC.cl (TC.no "loads" (by decide +kernel)) (pv 0)) (pe_un un_neg pe_int) (fun _ _ => rfl)) pa_nil)))
      (pss_cons (ps_set (i := 2) sc_p_Chain_turn.nd rfl (.inl rfl) (pe_mt0 M_next_leaver TC.cl (hr.mono (by decide)) (pv 0) ))
      (pss_cons (ps_if (pt_cmpR op_isN (pv 2) pe_non (nomark _)) (pss_cons (ps_expr (pe_mt M_mark_from TC.cl (hr.mono (by decide)) (pv 0) (pa_cons pe_int pa_nil)))
      (pss_one (ps_expr (pe_mt0 M_take_pail TC.cl (hr.mono (by decide)) (pv 0) )))) (pss_cons (ps_expr (pe_mt M_mark_from TC.cl (hr.mono (by decide)) (pv 0) (pa_cons (pv 2) pa_nil)))
      (pss_cons (ps_expr (pe_bm PySem.F.plainAttrs_list PySem.F.slot_list_append PySem.F.type_list_append mt_append (pv 1) (pa_cons (pe_tup (pa_cons (pe_fc TC.cl (TC.no "now" (by decide +kernel)) (pv 0)) (pa_cons pe_str (pa_cons (pe_ix ix_list (pe_fc TC.cl (TC.no "row" (by decide +kernel)) (pv 0)) (pv 2) (fun _ _ => rfl)) pa_nil)))) pa_nil)))
      (pss_one (ps_expr (pe_mt M_leave TC.cl (hr.mono (by decide)) (pv 0) (pa_cons (pv 2) pa_nil)))))))
      (pss_cons (ps_expr (pe_bm0 PySem.F.plainAttrs_list PySem.F.slot_list_pop PySem.F.type_list_pop mt_pop (pe_fc TC.cl (TC.no "loads" (by decide +kernel)) (pv 0))))
      (pss_cons (ps_expr (pe_bm0 PySem.F.plainAttrs_list PySem.F.slot_list_pop PySem.F.type_list_pop mt_pop (pe_fc TC.cl (TC.no "spots" (by decide +kernel)) (pv 0))))
      (pss_one (ps_ret (pv 1))))))))), ?_⟩
    have n8 := gi.sd.n8
    have hr0 : 0 < s.row.length := List.length_pos_iff.mpr hne
    have ll := gi.sd.ll
    have ls := gi.sd.ls
    have el : s.loads.getD (s.loads.length - 1) 0 = s.loads.getD (s.row.length - 1) 0 := by rw [ll]
    refine ⟨_, rfl, c, _, _, _, rfl, h.ins, fl_nw, ?_⟩
    refine ⟨_, rfl, c, _, _, _, rfl, h.ins, fl_ld, 1, rfl, A.ld, _, _, _, rfl, rfl, SqL.of h.ld, last_ints (by omega), ?_⟩
    refine ⟨_, rfl, c, _, _, _, rfl, h.ins, fl_rw, 1, rfl, A.rw, _, _, _, rfl, rfl, SqL.of h.rw, last_strs hr0, by show 4 ≤ sizeLine; decide, fun t nt => ⟨by show 1 ≤ sizeLine; decide, fun p np => ?_⟩⟩
    rw [el] at np ⊢
    have u1 := same_upd (T := T) (o := .tup [.ref A.nw, .str "out", .int (s.loads.getD (s.row.length - 1) 0), .str (s.row.getD (s.row.length - 1) "")]) nt
    have u2 := same_upd (T := T) (o := .lst [.ref t]) np
    have s2 := u1.trans u2
    have h2 := h.sm s2
    have hp0 : H p = none := u1.free _ np
    have npo := h.new hp0
    have d2 : Dp K _ (.ref t) (gwD (s.now, some (s.loads.getD (s.row.length - 1) 0), s.row.getD (s.row.length - 1) "")) := Dp.tup (K := K) (SqT.of (u2.k (b := t) (o := .tup [.ref A.nw, .str "out", .int (s.loads.getD (s.row.length - 1) 0), .str (s.row.getD (s.row.length - 1) "")]) upd_same)) (.cons (amD_dp h2.nw) (.cons (.str _) (.cons (.int _) (.cons (.str _) .nil))))
    have ep : upd (upd H t (.tup [.ref A.nw, .str "out", .int (s.loads.getD (s.row.length - 1) 0), .str (s.row.getD (s.row.length - 1) "")])) p (.lst [.ref t]) p = some (.lst [.ref t]) := upd_same
    generalize upd (upd H t (.tup [.ref A.nw, .str "out", .int (s.loads.getD (s.row.length - 1) 0), .str (s.row.getD (s.row.length - 1) "")])) p (.lst [.ref t]) = H2 at *
    refine ⟨_, rfl, c, _, _, _, rfl, h2.ins, fl_pr, .inl ⟨rfl, _, SqL.of h2.pr⟩, _, rfl, c, _, _, _, rfl, h2.ins, fl_ld, 1, rfl, A.ld, _, _, _, rfl, rfl, SqL.of h2.ld, last_ints (by omega), A.pr, _, _, rfl, rfl, h2.pr, by rw [List.length_map]; exact szl (by have := sz'.pl; omega), ?_⟩
    rw [el]
    have h3 := h2.set_pr (s.poured ++ [s.loads.getD (s.row.length - 1) 0])
    have e3 : s.poured.map V.int ++ [.int (s.loads.getD (s.row.length - 1) 0)] = (s.poured ++ [s.loads.getD (s.row.length - 1) 0]).map V.int := by rw [List.map_append]; rfl
    rw [e3]
    have x3 : Sx T (ownC c A) H2 _ := sx_upd (o := .lst ((s.poured ++ [s.loads.getD (s.row.length - 1) 0]).map V.int)) h2.pr rfl (by simp [ownC])
    have h3 : ChAt K CC _ c A (pourS s) := h3
    refine ⟨_, rfl, c, _, _, rfl, h3.ins, fl_no (by decide +kernel), c, A, pourS s, rfl, h3, n8, ?_⟩
    try dsimp only [gName]
    have sdp : Side (pourS s) := ⟨ll, ls, n8, gi.sd.ld⟩
    have elv : lvV (pourS s) = lvV s := rfl
    rw [elv]
    refine seq_if (fun σ' H4 => ∃ (m : Ch) (us : List V), (0 < m.loads.length ∧ 0 < m.spots.length) ∧ popS m = turnG s ∧ Sx T (ownC c A) H H4 ∧ ChAt K CC H4 c A m ∧ H4 p = some (.lst us) ∧ DpAll K H4 us ((rowsG s).map gwD) ∧ ∃ x2, σ' = [some (.ref c), some (.ref p), x2]) (fun σ' H4 pp => ?_) (fun k => ?_)
    · obtain ⟨m, us, ⟨m0, m1⟩, em, x4, h4, e4, d4, x2, rfl⟩ := pp
      have e5 : (m.loads.map V.int)[(m.loads.map V.int).length - 1]? = some (.int (m.loads.getD (m.loads.length - 1) 0)) := by rw [List.length_map, List.getElem?_map, last_at (by omega)]; rfl
      refine ⟨_, rfl, c, _, _, _, rfl, h4.ins, fl_ld, .inl ⟨rfl, _, SqL.of h4.ld⟩, A.ld, _, _, rfl, rfl, h4.ld, e5, ?_⟩
      have h5 := h4.set_ld m.loads.dropLast
      have e6 : (m.loads.map V.int).dropLast = m.loads.dropLast.map V.int := by rw [List.map_dropLast]
      rw [e6]
      have x5 := x4.step (sx_upd (o := .lst (m.loads.dropLast.map V.int)) h4.ld rfl (by simp [ownC]))
      have y5 : Sx T (ownC c A) H4 _ := sx_upd (o := .lst (m.loads.dropLast.map V.int)) h4.ld rfl (by simp [ownC])
      obtain ⟨ps, p1, p2⟩ := h5.sp
      have lps : ps.length = m.spots.length := p2.len
      refine ⟨_, rfl, c, _, _, _, rfl, h5.ins, fl_sp, .inl ⟨rfl, _, SqL.of p1⟩, A.sp, ps, _, rfl, rfl, p1, last_at (d := V.non) (by omega), ?_⟩
      have h6 := h5.set_sp p2.dropLast
      have y6 : Sx T (ownC c A) _ (upd (upd H4 A.ld (.lst (m.loads.dropLast.map V.int))) A.sp (.lst ps.dropLast)) := sx_upd (o := .lst ps.dropLast) p1 rfl (by simp [ownC])
      have y := y5.step y6
      refine ⟨_, rfl, q p _ us (x4.step y) ?_ hp0 (y.lst e4 npo) (y.dps 3 _ _ (noL_gw _) d4)⟩
      rw [← em]
      exact h6
    · have ep3 := x3.lst ep npo
      have d3 := x3.dp 3 _ _ rfl d2
      cases hv : lvI s with
      | none =>
        have ev : lvV s = .non := by unfold lvV; rw [hv]
        rw [ev]
        refine ⟨_, rfl, rfl, _, rfl, iteT ?_⟩
        refine ⟨_, rfl, c, _, _, rfl, h3.ins, fl_no (by decide +kernel), D, c, A, pourS s, 0, rfl, h3, sdp, gi.ln, fun m hm => by have := sz'.mm m hm; omega, Nat.zero_le _, fun H4 x4 h4 => ?_⟩
        obtain ⟨mk, em, lm⟩ := markR_eq (pourS s) 0 s.row.length
        have h4 : ChAt K CC H4 c A (markR (pourS s) 0 s.row.length) := h4
        refine ⟨_, rfl, c, _, _, rfl, h4.ins, fl_no (by decide +kernel), c, A, _, rfl, h4, ⟨?_, ?_, ?_⟩, fun H5 x5 h5 => k _ _ ⟨takeS (markR (pourS s) 0 s.row.length), [.ref t], ⟨Nat.succ_pos _, Nat.succ_pos _⟩, ?_, (s2.sx.step x3).step (x4.step x5), h5, ?_, ?_, _, rfl⟩⟩
        · have := sz'.ml
          rw [em]
          show mk.length < _
          rw [lm]
          show s.marks.length < _
          omega
        · rw [em]; show s.loads.length < _; omega
        · rw [em]; show s.spots.length < _; omega
        · unfold turnG
          rw [hv]
        · exact (x4.step x5).lst ep3 npo
        · have er : rowsG s = [(s.now, some (s.loads.getD (s.row.length - 1) 0), s.row.getD (s.row.length - 1) "")] := by
            unfold rowsG
            rw [hv]
          rw [er]
          exact .cons ((x4.step x5).dp 3 _ _ rfl d3) .nil
      | some i =>
        have ev : lvV s = .int (i : Nat) := by unfold lvV; rw [hv]
        obtain ⟨hi, him, _⟩ := lvI_some hv
        rw [ev]
        refine ⟨_, rfl, rfl, _, rfl, iteF ?_⟩
        refine ⟨_, rfl, c, _, _, rfl, h3.ins, fl_no (by decide +kernel), _, rfl, D, c, A, pourS s, i, rfl, h3, sdp, gi.ln, fun m hm => by have := sz'.mm m hm; omega, Nat.le_of_lt hi, fun H4 x4 h4 => ?_⟩
        obtain ⟨mk, em, lm⟩ := markR_eq (pourS s) i (s.row.length - i)
        have h4 : ChAt K CC H4 c A (markR (pourS s) i (s.row.length - i)) := h4
        rw [em] at h4
        have ep4 := x4.lst ep3 npo
        have d4 := x4.dp 3 _ _ rfl d3
        have gr : (s.row.map V.str)[i]? = some (.str (s.row.getD i "")) := by rw [List.getElem?_map, getD_lt hi, List.getElem?_eq_getElem hi]; rfl
        refine ⟨_, rfl, .inl ⟨rfl, _, SqL.of ep4⟩, _, rfl, c, _, _, _, rfl, h4.ins, fl_nw, _, rfl, c, _, _, _, rfl, h4.ins, fl_rw, _, rfl, A.rw, _, _, _, rfl, rfl, SqL.of h4.rw, at_of (j := i) rfl gr, by show 3 ≤ sizeLine; decide, fun t5 nt5 => ?_⟩
        have u5 := same_upd (T := T) (o := .tup [.ref A.nw, .str "left", .str (s.row.getD i "")]) nt5
        have h5 := h4.sm u5
        have d5 : Dp K _ (.ref t5) (gwD (s.now, none, s.row.getD i "")) := Dp.tup (K := K) (H := upd H4 t5 (.tup [.ref A.nw, .str "left", .str (s.row.getD i "")])) (SqT.of upd_same) (.cons (amD_dp h5.nw) (.cons (.str _) (.cons (.str _) .nil)))
        refine ⟨p, _, _, rfl, rfl, u5.k ep4, by show 1 < sizeLine; decide, ?_⟩
        have xo : Sx T [p] _ (upd (upd H4 t5 (.tup [.ref A.nw, .str "left", .str (s.row.getD i "")])) p (.lst ([.ref t] ++ [.ref t5]))) := sx_upd (u5.k ep4) rfl List.mem_cons_self
        have h6 := h5.sx xo fun y hy z => npo (by rw [← List.mem_singleton.mp z]; exact hy)
        obtain ⟨pq, hpq, _⟩ := gi.tp _ (getD_mem (d := ("" : Str)) hi)
        refine ⟨_, rfl, c, _, _, rfl, h6.ins, fl_no (by decide +kernel), _, rfl, c, A, _, i, rfl, h6, hi, n8, him, ⟨pq, hpq⟩, fun H7 x7 h7 => k _ _ ⟨leaveS (markR (pourS s) i (s.row.length - i)) i, _, ⟨?_, ?_⟩, ?_, ?_, ?_, x7.lst upd_same npo, ?_, _, rfl⟩⟩
        · rw [em]; show 0 < s.loads.length; omega
        · rw [em]; show 0 < s.spots.length; omega
        · unfold turnG
          rw [hv]
        · have a : Sx T (ownC c A) H _ := ((s2.sx.step x3).step x4).sm' u5
          exact (a.trans xo fun y hy => .inr (by rw [List.mem_singleton.mp hy]; exact hp0)).step x7
        · rw [em]
          exact h7
        · have er : rowsG s = [(s.now, some (s.loads.getD (s.row.length - 1) 0), s.row.getD (s.row.length - 1) ""), (s.now, none, s.row.getD i "")] := by
            unfold rowsG
            rw [hv]
          rw [er]
          exact x7.dps 3 _ _ (noL_gw _) (xo.dps 3 _ _ (noL_gw _) (.cons (u5.sx (S := []) |>.dp 3 _ _ rfl d4) (.cons d5 .nil)))
def sp_p_Chain_turns (K : PySem.W.Frag) (T : Tb) (CC : Addr) : Sp := fun vs H Q _ => ∃ (D : Int) (c : Addr) (A : Ad) (s : Ch), vs = [.ref c] ∧ ChAt K CC H c A s ∧ Gi D s ∧ (s.marks.length < 2900 ∧ (∀ m ∈ s.marks, m.length ≤ 2900) ∧ s.poured.length < 2900) ∧
  ∀ p H' us s' rows n, Sx T (ownC c A) H H' → ChAt K CC H' c A s' → TnG s n s' rows → (s'.row ≠ [] → s'.spots.getD (s'.row.length - 1) 0 ≠ (s'.fire : Rat)) → H p = none → H' p = some (.lst us) → DpAll K H' us (rows.map gwD) → Q (.ref p) H'
theorem ok_p_Chain_turns {f : Addr} {fd : FuncData} (F : Fun K "turns" "Chain.turns" s_p_Chain_turns f fd) {CC : Addr} (TC : Kl K CC) (M_turn : Mt P w K mg base CC 3 "turn" ["self"] (sp_p_Chain_turn K T CC)) : FnOk P w K mg base CX0 4 f fd ["self"] (sp_p_Chain_turns K T CC) := by
  refine F.ok sc_p_Chain_turns (fun vs H Q E h => ?_) (fun cdv A outer s H vs Q E hr h => ?_)
  · obtain ⟨D, c, A, s, rfl, _⟩ := h
    rfl
  · obtain ⟨D, c, A, s, rfl, h, gi, ⟨z1, z2, z3⟩, q⟩ := h
    refine ⟨_, (pss_cons (ps_set (i := 1) sc_p_Chain_turns.nd rfl (.inl rfl) (pe_lst pa_nil))
      (pss_cons (ps_while PassesOwn.never (PW.pt (pw_and (pt_truth (pe_fc TC.cl (TC.no "row" (by decide +kernel)) (pv 0)) (by intro _; rfl)) (pw_and1 (pt_cmpR (op_eqD hr.units) (pe_ix ix_list (pe_fc TC.cl (TC.no "spots" (by decide +kernel)) (pv 0)) (pe_un un_neg pe_int) (fun _ _ => rfl)) (pe_tup (pa_cons (pe_fc TC.cl (TC.no "fire" (by decide +kernel)) (pv 0)) (pa_cons pe_int pa_nil))) (nomark _))))) (pss_one (ps_expr (pe_bm PySem.F.plainAttrs_list PySem.F.slot_list_extend PySem.F.type_list_extend mt_extend (pv 1) (pa_cons (pe_mt0 M_turn TC.cl (hr.mono (by decide)) (pv 0) ) pa_nil)))))
      (pss_one (ps_ret (pv 1))))), ?_⟩
    have c8 := cntF_le gi
    refine ⟨Nat.zero_le _, fun o no => ?_⟩
    have u0 := same_upd (T := T) (o := .lst []) no
    have noo := h.new no
    refine ⟨fun m σ H3 => ∃ n s' rows us, m = cntF s' ∧ TnG s n s' rows ∧ Sx T (ownC c A) H H3 ∧ ChAt K CC H3 c A s' ∧ σ = [some (.ref c), some (.ref o)] ∧ H3 o = some (.lst us) ∧ DpAll K H3 us (rows.map gwD), ⟨_, 0, s, [], [], rfl, .refl, u0.sx, h.sm u0, rfl, upd_same, .nil⟩, ?_⟩
    rintro m σ H3 ⟨n, s', rows, us, rfl, t, x3, h3, rfl, eo, du⟩
    have f := tnG_facts t gi
    have fcn := f.cn
    have frl := f.rl
    have fpo := f.po
    have fpm := f.gi.pm
    have gpm := gi.pm
    have fin : ∀ H4, Sm T H3 H4 → (s'.row ≠ [] → s'.spots.getD (s'.row.length - 1) 0 ≠ (s'.fire : Rat)) → Q (.ref o) H4 := fun H4 s4 hn => q o H4 us s' rows n (x3.sm' s4) (h3.sm s4) t hn no (s4.k eo) (dpa_same s4 _ _ du)
    refine ⟨_, rfl, c, _, _, _, rfl, h3.ins, fl_rw, _, .inl ⟨_, SqL.of h3.rw, rfl⟩, ?_⟩
    by_cases hne : s'.row = []
    · rw [hne]
      exact iteF (iteF ⟨_, rfl, fin H3 Sm.refl fun z => absurd hne z⟩)
    · have hb : ((s'.row.map V.str).isEmpty) = false := by
        cases hs : s'.row with
        | nil => exact absurd hs hne
        | cons a l => rfl
      rw [hb]
      refine iteT ?_
      obtain ⟨ps, p1, p2⟩ := h3.sp
      have hr : 0 < s'.row.length := List.length_pos_iff.mpr hne
      have hls := f.gi.sd.ls
      have n8 := f.gi.sd.n8
      have lps := p2.len
      obtain ⟨bl, gl, ql⟩ := p2.at (i := s'.row.length - 1) (by omega)
      refine ⟨_, rfl, c, _, _, _, rfl, h3.ins, fl_sp, 1, rfl, A.sp, ps, _, .ref bl, rfl, rfl, SqL.of p1, at_neg1 (by omega) (by rw [lps, hls]; exact gl), ?_⟩
      refine ⟨_, rfl, c, _, _, _, rfl, h3.ins, fl_fire, by show 2 ≤ sizeLine; decide, fun tt ntt => ?_⟩
      have ut := same_upd (T := T) (o := .tup [.int s'.fire, .int 1]) ntt
      refine ⟨amD (am (s'.spots.getD (s'.row.length - 1) 0)), amD (s'.fire, 1), amD_dp (same_tup ut ql), amD_dp (x := (s'.fire, 1)) (SqT.of upd_same), shaped_am _, shaped_am (s'.fire, 1), _, rfl, ?_⟩
      rw [eqv_am]
      by_cases hl : s'.spots.getD (s'.row.length - 1) 0 = (s'.fire : Rat)
      · rw [decide_eq_true (by rw [hl, am_int])]
        refine iteT ⟨fun σ' H' => ∃ m', m' < cntF s' ∧ ∃ n s2 rows us, m' = cntF s2 ∧ TnG s n s2 rows ∧ Sx T (ownC c A) H H' ∧ ChAt K CC H' c A s2 ∧ σ' = [some (.ref c), some (.ref o)] ∧ H' o = some (.lst us) ∧ DpAll K H' us (rows.map gwD), fun _ _ z => z, ?_⟩
        have h4 := h3.sm ut
        have eo4 := ut.k eo
        have c' := cnt_turnG f.gi hne hl
        refine ⟨_, rfl, .inl ⟨rfl, _, SqL.of eo4⟩, _, rfl, c, _, _, rfl, h4.ins, fl_no (by decide +kernel), D, c, A, s', rfl, h4, f.gi, ⟨by omega, fun m hm => by have := f.mm _ z2 m hm; omega, by omega⟩, hne, fun p H5 us5 x5 h5 np ep dp => ?_⟩
        have eo5 := x5.lst eo4 noo
        have lus : us.length = rows.length := by rw [dpa_len du, List.length_map]
        have lus5 : us5.length = (rowsG s').length := by rw [dpa_len dp, List.length_map]
        have r2 := (rowsG_len s').2
        refine ⟨o, p, us, us5, rfl, rfl, eo5, ep, sz (by omega), ?_⟩
        have xo : Sx T [o] H5 (upd H5 o (.lst (us ++ us5))) := sx_upd eo5 rfl List.mem_cons_self
        have h6 := h5.sx xo fun y hy z => noo (by rw [← List.mem_singleton.mp z]; exact hy)
        refine ⟨_, by omega, n + 1, turnG s', rows ++ rowsG s', us ++ us5, rfl, .step t hne hl, ?_, h6, rfl, upd_same, ?_⟩
        · refine ((x3.sm' ut).step x5).trans xo fun y hy => .inr ?_
          rw [List.mem_singleton.mp hy]
          exact no
        · rw [List.map_append]
          exact xo.dps 3 _ _ (by rw [List.all_append, noL_gw, noL_gw]; rfl) (dpa_app (x5.dps 3 _ _ (noL_gw _) (dpa_same ut _ _ du)) dp)
      · rw [decide_eq_false (fun z => hl (am_inj (z.trans (am_int _).symm)))]
        exact iteF ⟨_, rfl, fin _ ut fun _ => hl⟩

theorem Wk.scale {D L : Int} {ns : List Int} {ps : List Rat} (w : Wk D L ns ps) (hD : 0 < D) {k : Int} (hk : 1 ≤ k) : Wk (D * k) L ns ps := ⟨w.eq, w.n8, w.pace, w.rise, w.nn, w.fire, fun p hp => (w.fr p hp).scale (by omega) (by omega)⟩
theorem Ok6.scale {D : Int} {r : Rat} (h : Ok6 D r) (hD : 0 < D) {k : Int} (hk : 1 ≤ k) : Ok6 (D * k) r := ⟨h.1.scale (by omega) (by omega), h.2⟩
theorem d_scale {D k : Int} (hD : 0 < D) (hk : 1 ≤ k) (h12 : k ≤ 12) (h : (D * 12).natAbs < 2 ^ 6550) : 0 < D * k ∧ (D * k).natAbs < 2 ^ 6550 := by
  refine ⟨Int.mul_pos hD (by omega), Nat.lt_of_le_of_lt ?_ h⟩
  rw [Int.natAbs_mul, Int.natAbs_mul]
  exact Nat.mul_le_mul_left _ (by omega)
theorem WOk.scale {D : Int} {s : Ch} (w : WOk D s) {k : Int} (hk : 1 ≤ k) (h12 : k ≤ 12) (hd : (D * 12).natAbs < 2 ^ 6550) : WOk (D * k) s :=
  ⟨w.wk.scale w.hD.1 hk, d_scale w.hD.1 hk h12 hd, w.f1, w.nd, w.tp, fun n hn => by
    obtain ⟨x, hx, o1, o2, o3⟩ := w.lg n hn
    exact ⟨x, hx, o1.scale w.hD.1 hk, o2.scale w.hD.1 hk, o3.scale w.hD.1 hk⟩, w.ll, w.now.scale w.hD.1 hk⟩
theorem meet_ok {D : Int} {s : Ch} (w : WOk D s) (hne : s.row ≠ []) : ∃ k : Int, 1 ≤ k ∧ k ≤ 12 ∧ Fr (D * k) (meetS s) ∧ 0 ≤ meetS s ∧ meetS s ≤ 1000 := by
  have hn : 0 < (pcs s).length := by rw [pcs_len]; exact List.length_pos_iff.mpr hne
  obtain ⟨k, k1, k2, k3, k4, k5⟩ := meetF_ok w.wk (by have := w.hD.1; omega) hn (Nat.le_refl _)
  exact ⟨k, k1, k2, k3, k4, Rat.le_trans k5 (Rat.le_trans (Rat.intCast_le_intCast.mpr w.f1.2) (by decide +kernel))⟩
theorem Gi.wok {D : Int} {s : Ch} (g : Gi D s) (hD : 0 < D ∧ D.natAbs < 2 ^ 6550) (hn : s.now ≤ 1000000) (gl : s.ledgers.length ≤ 1000) : WOk D s := by
  refine ⟨g.wk, hD, ⟨g.f1.1, by have := g.f1.2; omega⟩, g.nd, fun n hn => by obtain ⟨p, hp, _⟩ := g.tp n hn; rw [hp]; rfl, fun n hn' => ?_, gl, ⟨g.fn, g.n0, Rat.le_trans hn (by decide)⟩⟩
  obtain ⟨a, ha⟩ := getL_key (g.lr n hn')
  have l := g.lg _ (getL_mem ha)
  have n0 := g.n0
  refine ⟨a, ha, ⟨l.1.1, l.1.2.1, ?_⟩, ⟨l.2.1.1, l.2.1.2.1, ?_⟩, ⟨l.2.2.1, l.2.2.2.1, ?_⟩⟩
  · have := l.1.2.2; grind
  · have := l.2.1.2.2; grind
  · have := l.2.2.2.2; grind
/-- few enough -/
structure Num (k0 i goal : Nat) (s0 : Ch) : Prop where
  k : 18 * k0 + 30 * i ≤ 23720 ∨ (goal = 1 ∧ 18 * k0 + 30 * i ≤ 32380)
  i : i ≤ 100
  p : s0.poured.length ≤ 1000
  g : goal ≤ 60
theorem Gb.big {k i : Nat} {D : Int} {s : Ch} (b : Gb k i D s) (hk : 18 * k + 30 * i ≤ 32650) : D.natAbs < 2 ^ 6540 ∧ s.now ≤ 1000000 := by
  refine ⟨pw5_to b.hD.2 (by omega), Rat.le_trans b.nw ?_⟩
  have : ((490 * k + 60 * i : Nat) : Int) ≤ 1000000 := by omega
  exact Rat.intCast_le_intCast (b := 1000000) |>.mpr this
structure RdG (D : Int) (s0 s : Ch) : Prop where
  w : WOk D s
  d12 : (D * 12).natAbs < 2 ^ 6550
  ml : s.marks.length < 2800
  mm : ∀ m ∈ s.marks, m.length ≤ 2800
  pl : s.poured.length < 2800
theorem RnF.rdy {k0 i : Nat} {s0 : Ch} {goal : Nat} {h0 : Option Rat} {k : Nat} {s : Ch} {l : Option Rat} {rows : List Gw} {D : Int} (f : RnF k0 i s0 goal h0 k s l rows D) (n : Num k0 i goal s0) (hz : h0 ≠ none → goal = 0) : RdG D s0 s ∧ k ≤ 496 ∧ rows.length ≤ 200 ∧ capG goal h0 ≤ 68 := by
  have hc : capG goal h0 ≤ 68 := by
    cases h0 with
    | none => show goal + 7 ≤ 68; have := n.g; omega
    | some h => exact Nat.le_refl _
  have hk : k ≤ 496 := by
    have a := f.mz
    have b : mzG s0 s0 goal h0 ≤ 496 := by
      cases h0 with
      | none => show 8 * _ + _ ≤ _; have := n.g; omega
      | some h => show (if h = 0 then 0 else 1) + 8 * _ + _ ≤ _; split <;> omega
    omega
  have hk1 : goal = 1 → k ≤ 15 := fun g1 => by
    have a := f.mz
    have b : mzG s0 s0 goal h0 ≤ 15 := by
      cases h0 with
      | none => show 8 * _ + _ ≤ _; omega
      | some h => have := hz (fun z => nomatch z); omega
    omega
  obtain ⟨b1, b2⟩ := f.gb.big (n.k.elim (fun z => by omega) fun z => by have := hk1 z.1; omega)
  have p := f.po
  have np := n.p
  have ni := n.i
  have gl := f.gb.gl
  have n8 := f.gi.sd.n8
  have pm := f.gi.pm
  have rl := f.rl
  refine ⟨⟨f.gi.wok ⟨f.gb.hD.1, pw_le b1 (by decide)⟩ b2 (by omega), ?_, by omega, fun m hm => by have := f.gb.mm m hm; omega, by omega⟩, hk, by omega, hc⟩
  have := pw4 (D := D) (k := 12) b1 (by decide) (by decide)
  exact pw_le this (by decide)
theorem seq_wh {c : TT} {tb u : TS} {D : Ends} {σ : L2.St} {H : Hp} (P : L2.St → Hp → Prop) (hu : ∀ σ' H', P σ' H' → u D σ' H') (h : (∀ σ' H', P σ' H' → u D σ' H') → tSeq (tWhile c tb) u D σ H) : tSeq (tWhile c tb) u D σ H := h hu
/-- a chain that may go -/
structure StG (k0 i : Nat) (D : Int) (s : Ch) : Prop where
  gi : Gi D s
  lt : Lt s
  gb : Gb k0 i D s
theorem pour0 {s : Ch} {k0 i : Nat} {D : Int} (st : StG k0 i D s) (goal : Nat) (h : Option Rat) (hl : LeftOk D s s h h) {k : Nat} {s' : Ch} {l : Option Rat} {rows : List Gw} (r : RnG s goal h k s' l rows) : ∃ D', RnF k0 i s goal h k s' l rows D' := rnG_facts st.gi st.lt st.gb hl r
def sp_p_Chain_walk_for (K : PySem.W.Frag) (T : Tb) (CP CC : Addr) : Sp := fun vs H Q E => ∃ (c : Addr) (A : Ad) (s0 : Ch) (hp : Addr) (h0 : Rat) (k0 i : Nat) (D : Int), vs = [.ref c, .ref hp] ∧ ChAt K CC H c A s0 ∧ SqT K H hp (tv (am h0)) ∧ StG k0 i D s0 ∧ (Fr D h0 ∧ 0 ≤ h0 ∧ h0 ≤ 60) ∧ Num k0 i 0 s0 ∧
  (∀ k s l rows, RnG s0 0 (some h0) k s (some l) rows → s.poured.length ≤ s0.poured.length + 60 → (s.row = [] ∨ ¬ 0 < l) → ∀ H' A' p us, Sx T (ownC c A) H H' → ChAt K CC H' c A' { s with now := s.now + l } → (∀ x ∈ ownC c A', x ∈ ownC c A ∨ H x = none) → p ∉ ownC c A' → H p = none → H' p = some (.lst us) → DpAll K H' us (rows.map gwD) → Q (.ref p) H') ∧
  (∀ k s l rows, RnG s0 0 (some h0) k s (some l) rows → s0.poured.length + 60 < s.poured.length → ∀ cls d H', Sx T (ownC c A) H H' → Rf K CP "too long" cls d H' → E cls d H')
theorem ok_p_Chain_walk_for {f : Addr} {fd : FuncData} {u_MOST_OUTS : Value} {a_NOUGHT : Addr} (F : Fun K "walk_for" "Chain.walk_for" s_p_Chain_walk_for f fd) (B : Bn mg) (C_MOST_OUTS : RelV (.int 60) u_MOST_OUTS ∧ mg "MOST_OUTS" = some u_MOST_OUTS) (g_NOUGHT : mg "NOUGHT" = some (.ref a_NOUGHT)) (s_NOUGHT : ∀ H, SqT K H a_NOUGHT [.int 0, .int 1]) {CP : Addr} (R_TooLong : Err P w K mg base CP "TooLong" "too long") {CC : Addr} (TC : Kl K CC) (F_p_plus : Fn P w K mg base 3 "plus" ["one", "other"] (sp_p_plus K T)) (F_p_minus : Fn P w K mg base 3 "minus" ["one", "other"] (sp_p_minus K T)) (F_p_below : Fn P w K mg base 1 "below" ["one", "other"] (sp_p_below K T)) (F_p_lesser : Fn P w K mg base 2 "lesser" ["one", "other"] (sp_p_lesser K T)) (M_till_meeting : Mt P w K mg base CC 6 "till_meeting" ["self"] (sp_p_Chain_till_meeting K T CC)) (M_walk : Mt P w K mg base CC 5 "walk" ["self", "hours"] (sp_p_Chain_walk K T CC)) (M_turns : Mt P w K mg base CC 4 "turns" ["self"] (sp_p_Chain_turns K T CC)) : FnOk P w K mg base (L2.CX P w) 7 f fd ["self", "hours"] (sp_p_Chain_walk_for K T CP CC) := by
  obtain ⟨⟨tM, rfl⟩, gM⟩ := id C_MOST_OUTS
  refine F.okX sc_p_Chain_walk_for (fun vs H Q E h => ?_) (fun cdv A outer s H vs Q E hr h => ?_)
  · obtain ⟨c, A, s0, hp, h0, k0, i0, D0, rfl, _⟩ := h
    rfl
  · obtain ⟨c, A, s0, hp, h0, k0, i0, D0, rfl, h, hh, st, ⟨f0, p0, p60⟩, nm, je, jx⟩ := h
    refine ⟨_, (pss_cons (ps_set (i := 2) sc_p_Chain_walk_for.nd rfl (.inl rfl) (pe_lst pa_nil))
      (pss_cons (ps_set (i := 3) sc_p_Chain_walk_for.nd rfl (.inl rfl) (pe_op op_add (pe_callB call_len_seq (by rfl) B.len_ (by decide +kernel) (pa_cons (pe_fc TC.cl (TC.no "poured" (by decide +kernel)) (pv 0)) pa_nil)) (pe_glob (by rfl) C_MOST_OUTS.2 C_MOST_OUTS.1)))
      (pss_cons (ps_set (i := 4) sc_p_Chain_walk_for.nd rfl (.inl rfl) (pv 1))
      (pss_cons (ps_while (passes_of rfl) (PW.pt (pw_and (pt_truth (pe_fc TC.cl (TC.no "row" (by decide +kernel)) (pv 0)) (by intro _; rfl)) (pw_and1 (pt_val (pe_fn F_p_below (hr.mono (by decide)) (pa_cons (pe_glob (v := .ref a_NOUGHT) (by rfl) g_NOUGHT rfl) (pa_cons (pv 4) pa_nil))))))) (pss_cons (ps_set (i := 5) sc_p_Chain_walk_for.nd rfl (.inl rfl) (pe_fn F_p_lesser (hr.mono (by decide)) (pa_cons (pv 4) (pa_cons (pe_mt0 M_till_meeting TC.cl (hr.mono (by decide)) (pv 0) ) pa_nil))))
      (pss_cons (ps_expr (pe_mt M_walk TC.cl (hr.mono (by decide)) (pv 0) (pa_cons (pv 5) pa_nil)))
      (pss_cons (ps_set (i := 4) sc_p_Chain_walk_for.nd rfl (.inl rfl) (pe_fn F_p_minus (hr.mono (by decide)) (pa_cons (pv 4) (pa_cons (pv 5) pa_nil))))
      (pss_cons (ps_expr (pe_bm PySem.F.plainAttrs_list PySem.F.slot_list_extend PySem.F.type_list_extend mt_extend (pv 2) (pa_cons (pe_mt0 M_turns TC.cl (hr.mono (by decide)) (pv 0) ) pa_nil)))
      (pss_one (ps_if (pt_cmpR op_gt (pe_callB call_len_seq (by rfl) B.len_ (by decide +kernel) (pa_cons (pe_fc TC.cl (TC.no "poured" (by decide +kernel)) (pv 0)) pa_nil)) (pv 3) (nomark _)) (pss_one (ps_raise rfl (takes_of rfl rfl rfl rfl) (pmk_err R_TooLong (hr.mono (by decide)) (by rfl)))) pss_nil)))))))
      (pss_cons (ps_fc TC.cl (TC.no "now" (by decide +kernel)) (pv 0) (pe_fn F_p_plus (hr.mono (by decide)) (pa_cons (pe_fc TC.cl (TC.no "now" (by decide +kernel)) (pv 0)) (pa_cons (pv 4) pa_nil))))
      (pss_one (ps_ret (pv 2)))))))), ?_⟩
    have lo0 : LeftOk D0 s0 s0 (some h0) (some h0) := ⟨f0, p0, p60, rfl⟩
    refine ⟨Nat.zero_le _, fun o no => ?_⟩
    have u0 := same_upd (T := T) (o := .lst []) no
    have h1 := h.sm u0
    refine ⟨_, rfl, c, _, _, _, rfl, h1.ins, fl_pr, A.pr, _, rfl, .inl (SqL.of h1.pr), _, _, rfl, rfl, ?_⟩
    rw [List.length_map]
    refine ⟨_, rfl, ?_⟩
    try dsimp only [gName]
    have bds : ∀ k s l rows, RnG s0 0 (some h0) k s (some l) rows → ∃ D, RnF k0 i0 s0 0 (some h0) k s (some l) rows D ∧ RdG D s0 s ∧ rows.length ≤ 200 ∧ Bd 6650 (am s.now) ∧ Bd 6650 (am l) ∧ Fr D l ∧ 0 ≤ l ∧ l ≤ 60 := fun k s l rows r => by
      obtain ⟨D, f⟩ := rnG_facts st.gi st.lt st.gb lo0 r
      obtain ⟨rd, _, rl, _⟩ := f.rdy nm (fun _ => rfl)
      have lo : Fr D l ∧ 0 ≤ l ∧ l ≤ 60 ∧ s.now + l = s0.now + h0 := f.lo
      exact ⟨D, f, rd, rl, ok6_bd rd.w.hD rd.w.now, bdL rd.w.hD.1 rd.w.hD.2 lo.1 lo.2.1 (Rat.le_trans lo.2.2.1 (by decide)), lo.1, lo.2.1, lo.2.2.1⟩
    refine seq_wh (fun σ' H3 => ∃ s l rows us A3 lp x5 k, RnG s0 0 (some h0) k s (some l) rows ∧ s.poured.length ≤ s0.poured.length + 60 ∧ (s.row = [] ∨ ¬ 0 < l) ∧ Sx T (ownC c A) H H3 ∧ ChAt K CC H3 c A3 s ∧ (∀ x ∈ ownC c A3, x ∈ ownC c A ∨ H x = none) ∧ o ∉ ownC c A3 ∧ σ' = [some (.ref c), some (.ref hp), some (.ref o), some (.int ((s0.poured.length : Int) + 60)), some (.ref lp), x5] ∧ SqT K H3 lp (tv (am l)) ∧ H3 o = some (.lst us) ∧ DpAll K H3 us (rows.map gwD)) (fun σ' H3 pp => ?_) (fun kx => ?_)
    · obtain ⟨s, l, rows, us, A3, lp, x5, k, r, h60, hz, x3, h3, fr3, no3, rfl, hl, eo, du⟩ := pp
      obtain ⟨_, _, _, _, bn, bl, _⟩ := bds k s l rows r
      refine ⟨_, rfl, c, _, _, _, rfl, h3.ins, fl_nw, _, rfl, A3.nw, lp, _, _, rfl, h3.nw, hl, ⟨bn, bl⟩, ⟨am_pos _, am_pos _⟩, fun p4 H4 s4 n4 e4 => ?_⟩
      rw [plus_am] at e4
      have h4 := h3.sm s4
      refine ⟨_, rfl, c, _, _, rfl, h4.ins, by show 11 < 1000; decide, ?_⟩
      rw [pf_nw]
      have h5 := h4.re_nw (SqT.of e4)
      have z5 := sx_upd (T := T) (S := ownC c A3) (o := .ins CC A3.dx (flds s.fire { A3 with nw := p4 })) h4.ins rfl (by simp [ownC])
      have x5' := (x3.sm' s4).trans z5 fr3
      have ez : ownC c { A3 with nw := p4 } = ownC c A3 := rfl
      refine ⟨_, rfl, je k s l rows r h60 hz _ { A3 with nw := p4 } o us x5' h5 (by rw [ez]; exact fr3) (by rw [ez]; exact no3) no (z5.lst (s4.k eo) no3) (z5.dps 3 _ _ (noL_gw _) (dpa_same s4 _ _ du))⟩
    refine ⟨fun n σ H3 => ∃ s l rows us A3 lp x5 k, n = mzG s0 s0 0 (some h0) - k ∧ RnG s0 0 (some h0) k s (some l) rows ∧ s.poured.length ≤ s0.poured.length + 60 ∧ Sx T (ownC c A) H H3 ∧ ChAt K CC H3 c A3 s ∧ (∀ x ∈ ownC c A3, x ∈ ownC c A ∨ H x = none) ∧ o ∉ ownC c A3 ∧ σ = [some (.ref c), some (.ref hp), some (.ref o), some (.int ((s0.poured.length : Int) + 60)), some (.ref lp), x5] ∧ SqT K H3 lp (tv (am l)) ∧ H3 o = some (.lst us) ∧ DpAll K H3 us (rows.map gwD),
      ⟨_, s0, h0, [], [], A, hp, _, 0, rfl, .refl, Nat.le_add_right _ _, u0.sx, h1, fun _ h => .inl h, h.new no, rfl, same_tup u0 hh, upd_same, .nil⟩, ?_⟩
    rintro n σ H3 ⟨s, l, rows, us, A3, lp, x5, k, rfl, r, h60, x3, h3, fr3, no3, rfl, hl, eo, du⟩
    obtain ⟨D, f, rd, r200, bn, bl, lf0, l0, l60⟩ := bds k s l rows r
    refine ⟨_, rfl, c, _, _, _, rfl, h3.ins, fl_rw, _, .inl ⟨_, SqL.of h3.rw, rfl⟩, ?_⟩
    by_cases hne : s.row = []
    · rw [hne]
      exact iteF (iteF (kx _ _ ⟨s, l, rows, us, A3, lp, _, k, r, h60, .inl hne, x3, h3, fr3, no3, rfl, hl, eo, du⟩))
    have hb : ((s.row.map V.str).isEmpty) = false := by
      cases hs : s.row with
      | nil => exact absurd hs hne
      | cons a l => rfl
    rw [hb]
    refine iteT ?_
    refine ⟨_, rfl, a_NOUGHT, lp, (0, 1), am l, rfl, s_NOUGHT H3, hl, ⟨bd_int (small (by decide)), bl⟩, _, rfl, ?_⟩
    rw [← am_zero, below_am]
    by_cases hpos : ¬ 0 < l
    · rw [decide_eq_false hpos]
      exact iteF (kx _ _ ⟨s, l, rows, us, A3, lp, _, k, r, h60, .inr hpos, x3, h3, fr3, no3, rfl, hl, eo, du⟩)
    have hpos : 0 < l := Classical.not_not.mp hpos
    rw [decide_eq_true hpos]
    refine iteT ⟨fun σ' H' => ∃ m', m' < mzG s0 s0 0 (some h0) - k ∧ ∃ s l rows us A3 lp x5 k, m' = mzG s0 s0 0 (some h0) - k ∧ RnG s0 0 (some h0) k s (some l) rows ∧ s.poured.length ≤ s0.poured.length + 60 ∧ Sx T (ownC c A) H H' ∧ ChAt K CC H' c A3 s ∧ (∀ x ∈ ownC c A3, x ∈ ownC c A ∨ H x = none) ∧ o ∉ ownC c A3 ∧ σ' = [some (.ref c), some (.ref hp), some (.ref o), some (.int ((s0.poured.length : Int) + 60)), some (.ref lp), x5] ∧ SqT K H' lp (tv (am l)) ∧ H' o = some (.lst us) ∧ DpAll K H' us (rows.map gwD), fun _ _ z => z, ?_⟩
    obtain ⟨q, k1, k12, kf, m0, m1⟩ := meet_ok rd.w hne
    have hDk := d_scale rd.w.hD.1 k1 k12 rd.d12
    have wk' := rd.w.scale k1 k12 rd.d12
    have lf : Fr (D * q) l := lf0.scale (by have := rd.w.hD.1; omega) (by omega)
    have bm : Bd 6650 (am (meetS s)) := bdL hDk.1 hDk.2 kf m0 (Rat.le_trans m1 (by decide))
    have mf : Fr (D * q) (mnR l (meetS s)) ∧ 0 ≤ mnR l (meetS s) ∧ mnR l (meetS s) ≤ 50000 := by
      rcases mnR_or l (meetS s) with e | e
      · rw [e]; exact ⟨lf, l0, Rat.le_trans l60 (by decide)⟩
      · rw [e]; exact ⟨kf, m0, Rat.le_trans m1 (by decide)⟩
    have gw : Gi (D * q) (walkS s (mnR l (meetS s))) := (f.gi.scale f.gb.hD.1 k1).walk (by omega) hne mf.1 mf.2.1 (mnR_le_r _ _)
    refine ⟨_, rfl, _, rfl, c, _, _, rfl, h3.ins, fl_no (by decide +kernel), D, c, A3, s, rfl, h3, rd.w, hne, fun pm H4 s4 hpm => ?_⟩
    have hl4 := same_tup s4 hl
    refine ⟨lp, pm, _, _, rfl, hl4, hpm, ⟨bl, bm⟩, ?_⟩
    have hsm := lesser_sq hl4 hpm
    have h4 := h3.sm s4
    generalize (if belowA (am l) (am (meetM s.fire (pcs s) s.spots)) = true then lp else pm) = ps at *
    refine ⟨_, rfl, c, _, _, rfl, h4.ins, fl_no (by decide +kernel), _, rfl, D * q, c, A3, s, ps, mnR l (meetS s), rfl, h4, wk', hsm, mf, fun H5 A5 x5' fr5 h5 => ?_⟩
    have eo4 := s4.k eo
    have no5 : o ∉ ownC c A5 := fun z => (fr5 o z).elim no3 fun z' => by rw [eo4] at z'; cases z'
    have eo5 := x5'.lst eo4 no3
    have x05 := (x3.sm' s4).trans x5' fr3
    have fr05 : ∀ x ∈ ownC c A5, x ∈ ownC c A ∨ H x = none := fun x hx => (fr5 x hx).elim (fr3 x) fun z => .inr (x3.free _ (s4.free _ z))
    refine ⟨_, rfl, _, rfl, lp, ps, _, _, rfl, x5'.tup hl4, x5'.tup hsm, ⟨bl, bdL hDk.1 hDk.2 mf.1 mf.2.1 (Rat.le_trans mf.2.2 (by decide))⟩, ⟨am_pos _, am_pos _⟩, fun p6 H6 s6 n6 e6 => ?_⟩
    rw [minus_am] at e6
    have h6 := h5.sm s6
    have eo6 := s6.k eo5
    refine ⟨_, rfl, .inl ⟨rfl, _, SqL.of eo6⟩, _, rfl, c, _, _, rfl, h6.ins, fl_no (by decide +kernel), D * q, c, A5, _, rfl, h6, gw, ⟨by have := rd.ml; show s.marks.length < _; omega, fun m hm => by have := rd.mm m hm; omega, by have := rd.pl; show s.poured.length < _; omega⟩, fun p7 H7 us7 s' rows' n7 x7 h7 tn nl np7 ep7 du7 => ?_⟩
    have it : ItG s (partG s (some l)) s' rows' := ⟨n7, tn, nl⟩
    have r2 := r.step hne (show MoreG s0 s 0 (some l) from ⟨hpos, h60⟩) it
    obtain ⟨D2, f2, rd2, r202, _⟩ := bds (k + 1) s' _ _ r2
    have eo7 := x7.lst eo6 no5
    have du6 := x7.dps 3 _ _ (noL_gw _) (dpa_same s6 _ _ (x5'.dps 3 _ _ (noL_gw _) (dpa_same s4 _ _ du)))
    have lus : us.length = rows.length := by rw [dpa_len du, List.length_map]
    have lus7 : us7.length = rows'.length := by rw [dpa_len du7, List.length_map]
    rw [List.length_append] at r202
    refine ⟨o, p7, us, us7, rfl, rfl, eo7, ep7, sz (by omega), ?_⟩
    have xo : Sx T [o] H7 (upd H7 o (.lst (us ++ us7))) := sx_upd eo7 rfl List.mem_cons_self
    have h8 := h7.sx xo fun y hy z => no5 (by rw [← List.mem_singleton.mp z]; exact hy)
    have x08 : Sx T (ownC c A) H (upd H7 o (.lst (us ++ us7))) := ((x05.sm' s6).trans x7 fr05).trans xo fun y hy => .inr (by rw [List.mem_singleton.mp hy]; exact no)
    have du8 : DpAll K (upd H7 o (.lst (us ++ us7))) (us ++ us7) ((rows ++ rows').map gwD) := by
      rw [List.map_append]
      exact xo.dps 3 _ _ (by rw [List.all_append, noL_gw, noL_gw]; rfl) (dpa_app du6 du7)
    have hl8 : SqT K (upd H7 o (.lst (us ++ us7))) p6 (tv (am (l - mnR l (meetS s)))) := xo.tup (x7.tup (SqT.of e6))
    have eo8 : upd H7 o (.lst (us ++ us7)) o = some (.lst (us ++ us7)) := upd_same
    generalize upd H7 o (.lst (us ++ us7)) = H8 at *
    refine ⟨_, rfl, c, _, _, _, rfl, h8.ins, fl_pr, A5.pr, _, rfl, .inl (SqL.of h8.pr), _, rfl, _, _, rfl, rfl, _, rfl, ?_⟩
    rw [List.length_map]
    refine ite2 (fun e => ?_) (fun e => ?_)
    · have hg : s0.poured.length + 60 < s'.poured.length := by
        have := of_decide_eq_true e
        omega
      exact fun cls dd hn rf => jx (k + 1) s' _ _ r2 hg cls (some dd) _ (x08.sm' (same_upd hn)) rf
    · have hg : s'.poured.length ≤ s0.poured.length + 60 := by
        have : ¬ (s'.poured.length : Int) > ((s0.poured.length : Int) + 60) := fun z => e (decide_eq_true z)
        omega
      have mz := f2.mz
      exact ⟨_, by omega, s', _, rows ++ rows', us ++ us7, A5, p6, _, k + 1, rfl, r2, hg, x08, h8, fr05, no5, rfl, hl8, eo8, du8⟩

/-- a chain as it stands at the end of a going by hours -/
def goneG (s : Ch) (l : Rat) : Ch := { s with now := s.now + l }
/-- what a going by hours comes to -/
def GoR (s0 : Ch) (h0 : Rat) (s : Ch) (rows : List Gw) : Prop := ∃ k s1 l, RnG s0 0 (some h0) k s1 (some l) rows ∧ s1.poured.length ≤ s0.poured.length + 60 ∧ (s1.row = [] ∨ ¬ 0 < l) ∧ s = goneG s1 l
def GoX (s0 : Ch) (h0 : Rat) : Prop := ∃ k s1 l rows, RnG s0 0 (some h0) k s1 (some l) rows ∧ s0.poured.length + 60 < s1.poured.length
theorem more_not {s0 s : Ch} {l : Rat} (h : s.row = [] ∨ ¬ 0 < l) : EndG s0 s 0 (some l) := h.imp id fun z y => z y.1
theorem more_far {s0 s : Ch} {l : Rat} (h : s0.poured.length + 60 < s.poured.length) : EndG s0 s 0 (some l) := .inr fun y => by have := y.2; omega
theorem goR_det {s0 s s' : Ch} {h0 : Rat} {r r' : List Gw} (a : GoR s0 h0 s r) (b : GoR s0 h0 s' r') : s = s' ∧ r = r' := by
  obtain ⟨k, s1, l, ra, _, ea, rfl⟩ := a
  obtain ⟨k', s2, l', rb, _, eb, rfl⟩ := b
  obtain ⟨e1, e2, e3⟩ := rnG_end ra (more_not ea) rb (more_not eb)
  subst e1
  cases e2
  exact ⟨rfl, e3⟩
theorem goR_x {s0 s : Ch} {h0 : Rat} {r : List Gw} (a : GoR s0 h0 s r) (b : GoX s0 h0) : False := by
  obtain ⟨k, s1, l, ra, pa, ea, rfl⟩ := a
  obtain ⟨k', s2, l', r', rb, pb⟩ := b
  obtain ⟨e1, e2, e3⟩ := rnG_end ra (more_not ea) rb (more_far pb)
  subst e1
  omega
/-- what stands behind a going by hours -/
structure GoF (k0 i : Nat) (s0 : Ch) (h0 : Rat) (s : Ch) (rows : List Gw) : Prop where
  st : ∃ k D, StG k i D s ∧ k ≤ k0 + 8 * (s.poured.length - s0.poured.length) + 8
  fi : s.fire = s0.fire
  wy : s.way = s0.way
  po : s0.poured.length ≤ s.poured.length ∧ s.poured.length ≤ s0.poured.length + 60
  rl : rows.length ≤ 2 * (s.poured.length - s0.poured.length)
  nw : s.now = s0.now + h0
theorem Gi.later {D : Int} {s : Ch} (g : Gi D s) {l : Rat} (fl : Fr D l) (l0 : 0 ≤ l) : Gi D (goneG s l) :=
  ⟨g.f1, ⟨g.sd.ll, g.sd.ls, g.sd.n8, g.sd.ld⟩, g.nd, g.tp, g.sp, g.srt, fun y hy => (g.lg y hy).mono (by show s.now ≤ s.now + l; grind), g.lk, g.lr, g.ln, g.lv, g.lvn, g.pm, g.mkk, g.fn.add fl, by have := g.n0; show 0 ≤ s.now + l; grind⟩
theorem goR_same {k0 i : Nat} {D : Int} {s0 s : Ch} {h0 : Rat} {rows : List Gw} (st : StG k0 i D s0) (hh : Fr D h0 ∧ 0 ≤ h0 ∧ h0 ≤ 60) (a : GoR s0 h0 s rows) : s.fire = s0.fire ∧ s.way = s0.way := by
  obtain ⟨k, s1, l, ra, pa, ea, rfl⟩ := a
  have lo0 : LeftOk D s0 s0 (some h0) (some h0) := ⟨hh.1, hh.2.1, hh.2.2, rfl⟩
  obtain ⟨D', f⟩ := rnG_facts st.gi st.lt st.gb lo0 ra
  exact ⟨f.fi, f.wy⟩
theorem goR_facts {k0 i : Nat} {D : Int} {s0 s : Ch} {h0 : Rat} {rows : List Gw} (st : StG k0 (i + 1) D s0) (hn : s0.now ≤ (((490 * k0 + 60 * i : Nat) : Int) : Rat)) (hh : Fr D h0 ∧ 0 ≤ h0 ∧ h0 ≤ 60) (a : GoR s0 h0 s rows) : GoF k0 (i + 1) s0 h0 s rows := by
  obtain ⟨k, s1, l, ra, pa, ea, rfl⟩ := a
  have lo0 : LeftOk D s0 s0 (some h0) (some h0) := ⟨hh.1, hh.2.1, hh.2.2, rfl⟩
  obtain ⟨D', f⟩ := rnG_facts st.gi st.lt st.gb lo0 ra
  have lo : Fr D' l ∧ 0 ≤ l ∧ l ≤ 60 ∧ s1.now + l = s0.now + h0 := f.lo
  have kb : k ≤ 8 * (s1.poured.length - s0.poured.length) + 8 := by
    have mz := f.mz
    have a : mzG s0 s0 0 (some h0) ≤ 8 * 61 + 8 := by
      show (if h0 = 0 then 0 else 1) + 8 * (s0.poured.length + 61 - s0.poured.length) + (7 - _) ≤ _
      split <;> omega
    have b : 8 * (s0.poured.length + 61 - s1.poured.length) ≤ mzG s0 s1 0 (some l) := by
      show _ ≤ (if l = 0 then 0 else 1) + 8 * (s0.poured.length + 61 - s1.poured.length) + (7 - _)
      omega
    have := f.po
    omega
  have b := f.gb
  refine ⟨⟨k0 + k, D', ⟨f.gi.later lo.1 lo.2.1, f.lt, ⟨b.hD, ?_, b.mm, b.gl, b.tl⟩⟩, by show _ ≤ k0 + 8 * (s1.poured.length - _) + 8; omega⟩, f.fi, f.wy, ⟨f.po.1, pa⟩, f.rl, lo.2.2.2⟩
  show s1.now + l ≤ _
  rw [lo.2.2.2]
  have e : (((490 * k0 + 60 * i : Nat) : Int) : Rat) + ((60 : Int) : Rat) ≤ (((490 * (k0 + k) + 60 * (i + 1) : Nat) : Int) : Rat) := by
    rw [← Rat.intCast_add]
    exact Rat.intCast_le_intCast.mpr (by omega)
  have d : ((60 : Int) : Rat) = 60 := rfl
  have c2 := hh.2.2
  grind
def sp_p_Chain_go (K : PySem.W.Frag) (T : Tb) (CP CC : Addr) : Sp := fun vs H Q E => ∃ (c : Addr) (A : Ad) (s0 : Ch) (hp : Addr) (x : Int × Int), vs = [.ref c, .ref hp] ∧ ChAt K CC H c A s0 ∧ SqT K H hp (tv x) ∧ Bd 6650 x ∧ Ok T H ∧ wayB s0.way = true ∧ s0.fire = labourM s0.way ∧
  (hoursB x = false → ∀ cls d H', Sm T H H' → Rf K CP "bad time" cls d H' → E cls d H') ∧
  (hoursB x = true → ∃ (h0 : Rat) (k0 i : Nat) (D : Int), x = am h0 ∧ StG k0 i D s0 ∧ (Fr D h0 ∧ 0 ≤ h0 ∧ h0 ≤ 60) ∧ Num k0 i 0 s0 ∧
    (∀ s rows, GoR s0 h0 s rows → ∀ H' A' p us, Sx T [c] H H' → ChAt K CC H' c A' s → (∀ x ∈ ownC c A', x = c ∨ H x = none) → p ∉ ownC c A' → H p = none → H' p = some (.lst us) → DpAll K H' us (rows.map gwD) → Q (.ref p) H') ∧
    (GoX s0 h0 → ∀ cls d H', Sm T H H' → Rf K CP "too long" cls d H' → E cls d H'))
theorem ok_p_Chain_go {f : Addr} {fd : FuncData} (F : Fun K "go" "Chain.go" s_p_Chain_go f fd) {CP : Addr} {CC : Addr} (TC : Kl K CC) (M_stand_as : Mt P w K mg base CC 1 "stand_as" ["self", "other"] (sp_p_Chain_stand_as K T CC)) (M_twin : Mt P w K mg base CC 8 "twin" ["self"] (sp_p_Chain_twin K T CC)) (F_p_check_hours : Fx P w K mg base 4 "check_hours" ["hours"] (sp_p_check_hours K T CP)) (M_walk_for : Mx P w K mg base CC 7 "walk_for" ["self", "hours"] (sp_p_Chain_walk_for K T CP CC)) : FnOk P w K mg base (L2.CX P w) 9 f fd ["self", "hours"] (sp_p_Chain_go K T CP CC) := by
  refine F.okX sc_p_Chain_go (fun vs H Q E h => ?_) (fun cdv A outer s H vs Q E hr h => ?_)
  · obtain ⟨c, A, s0, hp, x, rfl, _⟩ := h
    rfl
  · obtain ⟨c, A, s0, hp, x, rfl, h, hh, bx, hok, hw, hf, kb, kk⟩ := h
    refine ⟨_, (pss_cons (ps_expr (pe_fx F_p_check_hours (hr.mono (by decide)) (takes_of rfl rfl rfl rfl) (pa_cons (pv 1) pa_nil)))
      (pss_cons (ps_set (i := 2) sc_p_Chain_go.nd rfl (.inl rfl) (pe_mt0 M_twin TC.cl (hr.mono (by decide)) (pv 0) ))
      (pss_cons (ps_set (i := 3) sc_p_Chain_go.nd rfl (.inl rfl) (pe_mx M_walk_for TC.cl (hr.mono (by decide)) (takes_of rfl rfl rfl rfl) (pv 2) (pa_cons (pv 1) pa_nil)))
      (pss_cons (ps_expr (pe_mt M_stand_as TC.cl (hr.mono (by decide)) (pv 0) (pa_cons (pv 2) pa_nil)))
      (pss_one (ps_ret (pv 3))))))), ?_⟩
    refine ⟨_, rfl, hp, x, rfl, hh, bx, fun hz H1 s1 => ?_, fun hz cls d H' s1 rf => kb hz cls d H' s1 rf⟩
    obtain ⟨h0, k0, i0, D0, ex, st, hrs, nm, je, jx⟩ := kk hz
    subst ex
    have h1 := h.sm s1
    refine ⟨_, rfl, c, _, _, rfl, h1.ins, fl_no (by decide +kernel), c, A, s0, rfl, h1, hw, hf, s1.ok hok, fun t H2 G s2 h2 fr2 => ?_⟩
    have h12 := h1.sm s2
    have fg : ∀ y ∈ ownC t G, H y = none := fun y hy => s1.free _ (fr2 y hy)
    have s02 := s1.trans s2
    refine ⟨_, rfl, t, _, _, rfl, h2.ins, fl_no (by decide +kernel), _, rfl, t, G, s0, hp, h0, k0, i0, D0, rfl, h2, same_tup s02 hh, st, hrs, nm, fun k s l rows r h60 hz' H3 A3 p us x3 h3 fr3 np3 np ep du => ?_, fun k s l rows r hg cls d H3 x3 rf => ?_⟩
    · have x03 : Sx T [] H H3 := (s02.sx (S := [])).trans x3 fun y hy => .inr (fg y hy)
      have hc3 := h.sm x03.sm
      have nct : c ∉ ownC t A3 := fun z => by
        have hc := h12.ins
        rcases fr3 c z with z' | z'
        · have := fg c z'; rw [h.ins] at this; cases this
        · rw [hc] at z'; cases z'
      refine ⟨_, rfl, c, _, _, rfl, hc3.ins, fl_no (by decide +kernel), _, rfl, c, t, A, A3, s0, _, rfl, hc3, h3, nct, fun H4 A4 x4 h4 fr4 => ?_⟩
      have npc : p ∉ [c] := fun z => by
        rw [List.mem_singleton.mp z] at np
        rw [h12.ins] at np
        cases np
      have np4 : p ∉ ownC c A4 := fun z => by
        rcases fr4 p z with z' | z'
        · exact npc (by rw [z']; exact List.mem_cons_self)
        · rw [ep] at z'; cases z'
      have gr : GoR s0 h0 (goneG s l) rows := ⟨k, s, l, r, h60, hz', rfl⟩
      have gf := goR_same st hrs gr
      have ec : copyS s0 { s with now := s.now + l } = goneG s l := by
        show ({ goneG s l with fire := s0.fire, way := s0.way } : Ch) = _
        rw [← gf.1, ← gf.2]
      rw [ec] at h4
      refine ⟨_, rfl, je _ rows gr H4 A4 p us ?_ h4 (fun y hy => (fr4 y hy).imp id fun z => x03.free _ z) np4 (s02.free _ np) (x4.lst ep npc) (x4.dps 3 _ _ (noL_gw _) du)⟩
      exact (x03.mono fun _ z => nomatch z).step x4
    · exact jx ⟨k, s, l, rows, r, hg⟩ cls d H3 (Sx.sm ((s02.sx (S := [])).trans x3 fun y hy => .inr (fg y hy))) rf

def outsB (n : Int) : Bool := decide (1 ≤ n) && decide (n ≤ 60)
/-- what a going by pails comes to -/
def OuR (s0 : Ch) (goal : Nat) (s : Ch) (rows : List Gw) : Prop := ∃ k, RnG s0 goal none k s none rows ∧ EndG s0 s goal none
theorem ouR_det {s0 s s' : Ch} {g : Nat} {r r' : List Gw} (a : OuR s0 g s r) (b : OuR s0 g s' r') : s = s' ∧ r = r' := by
  obtain ⟨k, ra, ea⟩ := a
  obtain ⟨k', rb, eb⟩ := b
  obtain ⟨e1, _, e3⟩ := rnG_end ra ea rb eb
  exact ⟨e1, e3⟩
structure OuF (k0 i : Nat) (s0 : Ch) (goal : Nat) (s : Ch) (rows : List Gw) : Prop where
  st : ∃ k D, StG k i D s ∧ k ≤ k0 + 8 * (s.poured.length - s0.poured.length) + 8 ∧ k ≤ k0 + 8 * goal + 7
  fi : s.fire = s0.fire
  wy : s.way = s0.way
  po : s0.poured.length ≤ s.poured.length ∧ s.poured.length ≤ s0.poured.length + goal + 7
  rl : rows.length ≤ 2 * (s.poured.length - s0.poured.length)
  nf : ∃ k D, (0 < D ∧ D.natAbs ^ 5 < 2 ^ (18 * k + 30 * i + 50)) ∧ k ≤ k0 + 8 * goal + 7 ∧ Fr D s.now ∧ Fr D s0.now ∧ s0.now ≤ s.now ∧ s.now ≤ (((490 * k + 60 * i : Nat) : Int) : Rat)
theorem ouR_facts {k0 i : Nat} {D : Int} {s0 s : Ch} {goal : Nat} {rows : List Gw} (st : StG k0 i D s0) (a : OuR s0 goal s rows) : OuF k0 i s0 goal s rows := by
  obtain ⟨k, ra, ea⟩ := a
  obtain ⟨D', f⟩ := rnG_facts st.gi st.lt st.gb (h0 := none) trivial ra
  have kg : k ≤ 8 * goal + 7 := by
    have mz := f.mz
    have a : mzG s0 s0 goal none ≤ 8 * goal + 7 := by
      show 8 * (s0.poured.length + goal - s0.poured.length) + (7 - _) ≤ _
      omega
    omega
  have kb : k ≤ 8 * (s.poured.length - s0.poured.length) + 8 := by
    have mz := f.mz
    have a : mzG s0 s0 goal none ≤ 8 * goal + 7 := by
      show 8 * (s0.poured.length + goal - s0.poured.length) + (7 - _) ≤ _
      omega
    have b : 8 * (s0.poured.length + goal - s.poured.length) ≤ mzG s0 s goal none := by
      show _ ≤ 8 * (s0.poured.length + goal - s.poured.length) + (7 - _)
      omega
    have := f.po
    omega
  have p2 : s.poured.length ≤ s0.poured.length + (goal + 7) := f.po.2
  exact ⟨⟨k0 + k, D', ⟨f.gi, f.lt, f.gb⟩, by omega, by omega⟩, f.fi, f.wy, ⟨f.po.1, by omega⟩, f.rl, ⟨k0 + k, D', f.gb.hD, by omega, f.gi.fn, f.nf, f.mn, f.gb.nw⟩⟩

def mixF (c : Int) : Int := if c < 10 ^ 18 then
    (let one := (c * 48271 + 11) % 2147483647
     let two := (one * one + 40692 * one + c) % 2147483399
     let six := (two * 69621 + one) % 1000000007
     two + 2147483399 * (six + 1000000007 * one)) else c - 10 ^ 18
def drF : Int → List Int → List Int
  | _, [] => []
  | c, q :: qs => c % q :: drF (c / q) qs
def cuF : Int → List Int → Int
  | c, [] => c
  | c, q :: qs => cuF (c / q) qs
theorem drF_snoc : ∀ (c : Int) (qs : List Int) (q : Int), drF c (qs ++ [q]) = drF c qs ++ [cuF c qs % q]
  | _, [], _ => rfl
  | c, a :: qs, q => by
    show c % a :: drF (c / a) (qs ++ [q]) = c % a :: drF (c / a) qs ++ [_]
    rw [drF_snoc]
    rfl
theorem cuF_snoc : ∀ (c : Int) (qs : List Int) (q : Int), cuF c (qs ++ [q]) = cuF c qs / q
  | _, [], _ => rfl
  | c, a :: qs, q => cuF_snoc (c / a) qs q
theorem drF_len : ∀ (c : Int) (qs : List Int), (drF c qs).length = qs.length
  | _, [] => rfl
  | c, _ :: qs => congrArg (· + 1) (drF_len _ qs)
theorem drF_drawn : ∀ (c : Int) (qs : List Int), (∀ q ∈ qs, 0 < q) → Drawn (drF c qs) qs
  | _, [], _ => trivial
  | c, a :: qs, h => ⟨⟨Int.emod_nonneg _ (by have := h a List.mem_cons_self; omega), Int.emod_lt_of_pos _ (h a List.mem_cons_self)⟩, drF_drawn _ qs fun q hq => h q (List.mem_cons_of_mem _ hq)⟩
def sp_l_draws_f (K : PySem.W.Frag) (T : Tb) : Sp := fun vs H Q _ => ∃ (c : Int) (a : Addr) (qs : List Int), vs = [.int c, .ref a] ∧ SqL K H a (qs.map V.int) ∧ qs.length ≤ 1000 ∧ (∀ q ∈ qs, 0 < q ∧ q.natAbs < 2 ^ 100) ∧
  ∀ p H', Sm T H H' → H p = none → H' p = some (.lst ((drF (mixF c) qs).map V.int)) → Q (.ref p) H'
theorem ok_l_draws_f {f : Addr} {fd : FuncData} (F : Fun K "_law_draws" "_law_draws" s_l_draws_f f fd) : FnOk P w K mg base CX0 1 f fd ["_law_cell_here", "_law_parts"] (sp_l_draws_f K T) := by
  refine F.ok sc_l_draws_f (fun vs H Q E h => ?_) (fun cdv A outer s H vs Q E hr h => ?_)
  · obtain ⟨c, a, qs, rfl, _⟩ := h
    rfl
  · obtain ⟨c, a, qs, rfl, hS, hlen, hpos, q⟩ := h
    refine ⟨_, (pss_cons (ps_if (pt_cmpR op_lt (pv 0) (pe_op op_pow pe_int pe_int) (nomark _)) (pss_cons (ps_set (i := 2) sc_l_draws_f.nd rfl (.inl rfl) (pe_op op_mod (pe_op op_add (pe_op op_mul (pv 0) pe_int) pe_int) pe_int))
      (pss_cons (ps_set (i := 3) sc_l_draws_f.nd rfl (.inl rfl) (pe_op op_mod (pe_op op_add (pe_op op_add (pe_op op_mul (pv 2) (pv 2)) (pe_op op_mul pe_int (pv 2))) (pv 0)) pe_int))
      (pss_cons (ps_set (i := 4) sc_l_draws_f.nd rfl (.inl rfl) (pe_op op_mod (pe_op op_add (pe_op op_mul (pv 3) pe_int) (pv 2)) pe_int))
      (pss_one (ps_set (i := 0) sc_l_draws_f.nd rfl (.inl rfl) (pe_op op_add (pv 3) (pe_op op_mul pe_int (pe_op op_add (pv 4) (pe_op op_mul pe_int (pv 2)))))))))) (pss_one (ps_set (i := 0) sc_l_draws_f.nd rfl (.inl rfl) (pe_op op_sub (pv 0) (pe_op op_pow pe_int pe_int)))))
      (pss_cons (ps_set (i := 5) sc_l_draws_f.nd rfl (.inl rfl) (pe_lst pa_nil))
      (pss_cons (ps_for PassesOwn.never rfl (pi_list (pv 1)) (pg_name (i := 6) sc_l_draws_f.nd rfl (.inl rfl))
      (pss_cons (ps_expr (pe_bm PySem.F.plainAttrs_list PySem.F.slot_list_append PySem.F.type_list_append mt_append (pv 5) (pa_cons (pe_op op_mod (pv 0) (pv 6)) pa_nil)))
      (pss_one (ps_set (i := 0) sc_l_draws_f.nd rfl (.inl rfl) (pe_op op_fdivW (pv 0) (pv 6))))))
      (pss_one (ps_ret (pv 5)))))), ?_⟩
    refine seq_if (fun σ' H' => H' = H ∧ ∃ (c1 : Int) (x2 x3 x4 : Option V), σ' = [some (.int c1), some (.ref a), x2, x3, x4, none, none] ∧ mixF c = c1) (fun σ' H' p => ?_) (fun k => ?_)
    · obtain ⟨rfl, c1, x2, x3, x4, rfl, ec⟩ := p
      rw [ec] at q
      refine ⟨Nat.zero_le _, fun o no => ?_⟩
      refine ⟨_, rfl, a, rfl, ⟨_, (same_upd (T := T) no).seq hS⟩, for_list (K := K) (a := a) (xs := qs.map V.int)
        (fun i σ H3 => ∃ (x6 : Option V), σ = [some (.int (cuF c1 (qs.take i))), some (.ref a), x2, x3, x4, some (.ref o), x6] ∧ Sm T H' H3 ∧ H3 o = some (.lst ((drF c1 (qs.take i)).map V.int)))
        ⟨none, rfl, same_upd no, upd_same⟩ (fun i σ H3 _ ⟨_, _, sm, _⟩ => sm.seq hS) ?_ ?_⟩
      · rintro i y σ H3 hi ⟨x6, rfl, sm, eo⟩
        rw [List.getElem?_map] at hi
        obtain ⟨qi, hq, rfl⟩ : ∃ qi, qs[i]? = some qi ∧ V.int qi = y := Option.map_eq_some_iff.mp hi
        have hqm := hpos qi (List.mem_of_getElem? hq)
        have hil : i < qs.length := (List.getElem?_eq_some_iff.mp hq).1
        refine ⟨_, rfl, .inl ⟨rfl, _, SqL.of eo⟩, _, rfl, _, rfl, _, _, rfl, rfl, hqm.1, o, _, _, rfl, rfl, eo, ?_, ?_⟩
        · rw [List.length_map, drF_len, List.length_take]
          exact szl (by omega)
        · refine ⟨_, rfl, _, rfl, _, _, rfl, rfl, wide_div hqm.1 hqm.2 (by decide) (by decide), ?_⟩
          refine ⟨some (.int qi), ?_, same_mut sm no eo, ?_⟩
          · rw [List.take_add_one, hq]
            show _ = [some (V.int (cuF c1 (qs.take i ++ [qi]))), _, _, _, _, _, _]
            rw [cuF_snoc]
            rfl
          · rw [upd_same, List.take_add_one, hq]
            show _ = some (HO.lst ((drF c1 (qs.take i ++ [qi])).map V.int))
            rw [drF_snoc, List.map_append]
            rfl
      · rintro σ H3 ⟨x6, rfl, sm, eo⟩
        rw [List.length_map, List.take_length] at eo
        exact ⟨_, rfl, q o H3 sm no eo⟩
    · have b1 := Int.emod_nonneg (c * 48271 + 11) (show (2147483647 : Int) ≠ 0 by decide)
      have b2 := Int.emod_lt_of_pos (c * 48271 + 11) (show (0 : Int) < 2147483647 by decide)
      refine ⟨_, rfl, _, _, rfl, rfl, ⟨by decide, by decide, by decide⟩, _, _, rfl, rfl, _, rfl, ite2 (fun e => ?_) (fun e => ?_)⟩
      · have ec : c < 10 ^ 18 := of_decide_eq_true e
        refine ⟨_, rfl, _, _, rfl, rfl, .inr ⟨by decide, by decide⟩, _, _, rfl, rfl, _, _, rfl, rfl, (by show (0 : Int) < 2147483647; decide), ?_⟩
        refine ⟨_, rfl, _, rfl, _, _, rfl, rfl, .inl ⟨by omega, by omega⟩, ?_⟩
        refine ⟨_, rfl, _, _, rfl, rfl, .inl ⟨by decide, by decide⟩, _, _, rfl, rfl, _, rfl, _, _, rfl, rfl, _, _, rfl, rfl, (by show (0 : Int) < 2147483399; decide), ?_⟩
        refine ⟨_, rfl, _, _, rfl, rfl, .inr ⟨by decide, by decide⟩, _, rfl, _, _, rfl, rfl, _, _, rfl, rfl, (by show (0 : Int) < 1000000007; decide), ?_⟩
        refine ⟨_, rfl, _, rfl, _, rfl, _, _, rfl, rfl, .inl ⟨by decide, by decide⟩, _, _, rfl, rfl, _, _, rfl, rfl, .inl ⟨by decide, by decide⟩, _, _, rfl, rfl, ?_⟩
        refine k _ _ ⟨rfl, _, _, _, _, rfl, ?_⟩
        unfold mixF
        rw [if_pos ec]
      · have ec : ¬ c < 10 ^ 18 := fun z => e (decide_eq_true z)
        refine ⟨_, rfl, _, _, rfl, rfl, ⟨by decide, by decide, by decide⟩, _, _, rfl, rfl, ?_⟩
        refine k _ _ ⟨rfl, _, _, _, _, rfl, ?_⟩
        unfold mixF
        rw [if_neg ec]
        rfl

/-- a text times a number -/
theorem op_repS {X : Cx} : OpR X (binaryOp .Mult) (fun x y H Q => ∃ i n, x = .str i ∧ y = .int n ∧ MulOk i n ∧ Q (.str (Txt.mul i n)) H) := by
  intro pins s σ H x y v u Q I rx ry h
  obtain ⟨i, n, rfl, rfl, hk, q⟩ := h
  obtain ⟨t, rfl⟩ := rx
  obtain ⟨t', rfl⟩ := ry
  exact SB.mul hk (fun t' k => ⟨.str _, H, I.tok _, ⟨_, rfl⟩, q⟩)

def ABC : Str := "abcdefghijklmnopqrstuvwxyz"
def chF (i : Int) : Str := ⟨#[97 + i.toNat]⟩
theorem abc_at {i : Int} (h0 : 0 ≤ i) (h1 : i < 26) : atI ABC.cps.toList i = some (97 + i.toNat) := by
  have h : ∀ n : Fin 26, atI ABC.cps.toList ((n.val : Nat) : Int) = some (97 + n.val) := by decide +kernel
  have := h ⟨i.toNat, by omega⟩
  rw [show (((⟨i.toNat, by omega⟩ : Fin 26).val : Nat) : Int) = i from by show ((i.toNat : Nat) : Int) = i; omega] at this
  exact this
theorem abc_len : ABC.length ≤ sizeLine := by decide +kernel
theorem ch_len (i : Int) : (chF i).length = 1 := rfl
theorem mul_ok {i n : Int} (h0 : 0 ≤ n) (h1 : n < 4) : MulOk (chF i) n := by
  refine ⟨by rw [decide_eq_false (by omega), decide_eq_false (by omega)]; rfl, fun h _ z => ?_, fun h _ => ?_⟩
  · rw [ch_len] at z
    rcases (by omega : n = 1 ∨ n = 2 ∨ n = 3) with rfl | rfl | rfl <;> exact absurd z (by decide)
  · rw [ch_len]
    rcases (by omega : n = 1 ∨ n = 2 ∨ n = 3) with rfl | rfl | rfl <;> decide
theorem mul_cps {i n : Int} (h0 : 0 ≤ n) (h1 : n < 4) : (Txt.mul (chF i) n).cps.toList = List.replicate n.toNat (97 + i.toNat) := by
  rcases (by omega : n = 0 ∨ n = 1 ∨ n = 2 ∨ n = 3) with rfl | rfl | rfl | rfl <;> rfl
def nmF (a b c d : Int) (k : Nat) : Str := Txt.mul (chF c) a ++ (chF ((7 * (k : Int) + d) % 26) ++ chF ((d + (k : Int) / 26) % 26)) ++ Txt.mul (chF c) b
def nameF (k : Nat) (salt : Int) : Str := match drF (mixF salt) [4, 4, 26, 26] with
  | [a, b, c, d] => nmF a b c d k
  | _ => ""
theorem name_dr (salt : Int) : ∃ a b c d, drF (mixF salt) [4, 4, 26, 26] = [a, b, c, d] ∧ (0 ≤ a ∧ a < 4) ∧ (0 ≤ b ∧ b < 4) ∧ (0 ≤ c ∧ c < 26) ∧ (0 ≤ d ∧ d < 26) := by
  have hd := drF_drawn (mixF salt) [4, 4, 26, 26] (by decide)
  generalize drF (mixF salt) [4, 4, 26, 26] = ds at hd
  obtain ⟨d1, r1, rfl, h10, h11, hd⟩ := hd.cons
  obtain ⟨d2, r2, rfl, h20, h21, hd⟩ := hd.cons
  obtain ⟨d3, r3, rfl, h30, h31, hd⟩ := hd.cons
  obtain ⟨d4, r4, rfl, h40, h41, hd⟩ := hd.cons
  obtain rfl := hd.nil
  exact ⟨d1, d2, d3, d4, rfl, ⟨h10, h11⟩, ⟨h20, h21⟩, ⟨h30, h31⟩, ⟨h40, h41⟩⟩
theorem str_app (x y : Str) : (x ++ y).cps.toList = x.cps.toList ++ y.cps.toList := by
  show (x.cps ++ y.cps).toList = _
  exact Array.toList_append
theorem nm_cps {a b c d : Int} {k : Nat} (ha : 0 ≤ a ∧ a < 4) (hb : 0 ≤ b ∧ b < 4) : (nmF a b c d k).cps.toList = List.replicate a.toNat (97 + c.toNat) ++ ([97 + ((7 * (k : Int) + d) % 26).toNat, 97 + ((d + (k : Int) / 26) % 26).toNat] ++ List.replicate b.toNat (97 + c.toNat)) := by
  unfold nmF
  rw [str_app, str_app, str_app, mul_cps ha.1 ha.2, mul_cps hb.1 hb.2, List.append_assoc]
  rfl
theorem str_len (x : Str) : x.length = x.cps.toList.length := rfl
theorem name_ok (k : Nat) (salt : Int) : nameB (nameF k salt) = true ∧ (nameF k salt).length ≤ 8 := by
  obtain ⟨a, b, c, d, e, ha, hb, hc, hd⟩ := name_dr salt
  unfold nameF
  rw [e]
  show nameB (nmF a b c d k) = true ∧ (nmF a b c d k).length ≤ 8
  have hl : (nmF a b c d k).length = a.toNat + (2 + b.toNat) := by
    rw [str_len, nm_cps ha hb, List.length_append, List.length_append, List.length_replicate, List.length_replicate]
    rfl
  have let_ : ∀ n : Fin 26, letB (97 + n.val) = true := by decide +kernel
  have l1 : ∀ z : Int, 0 ≤ z → z < 26 → letB (97 + z.toNat) = true := fun z h0 h1 => let_ ⟨z.toNat, by omega⟩
  refine ⟨?_, by omega⟩
  unfold nameB
  rw [decide_eq_true (by omega), decide_eq_true (by omega), nm_cps ha hb, List.all_append, List.all_append, List.all_replicate, List.all_replicate, l1 c hc.1 hc.2]
  have m1 := l1 _ (Int.emod_nonneg (7 * (k : Int) + d) (show (26 : Int) ≠ 0 by decide)) (Int.emod_lt_of_pos _ (by decide))
  have m2 := l1 _ (Int.emod_nonneg (d + (k : Int) / 26) (show (26 : Int) ≠ 0 by decide)) (Int.emod_lt_of_pos _ (by decide))
  simp [m1, m2]
theorem name_inj {k l : Nat} {salt : Int} (hk : k < 26) (hl : l < 26) (h : nameF k salt = nameF l salt) : k = l := by
  obtain ⟨a, b, c, d, e, ha, hb, hc, hd⟩ := name_dr salt
  unfold nameF at h
  rw [e] at h
  have h : nmF a b c d k = nmF a b c d l := h
  have h2 : (nmF a b c d k).cps.toList = (nmF a b c d l).cps.toList := by rw [h]
  rw [nm_cps ha hb, nm_cps ha hb] at h2
  have h3 := List.append_cancel_left h2
  have h4 : 97 + ((7 * (k : Int) + d) % 26).toNat = 97 + ((7 * (l : Int) + d) % 26).toNat := (List.cons.inj h3).1
  omega
def sp_l_name (K : PySem.W.Frag) (T : Tb) : Sp := fun vs H Q _ => ∃ (k : Nat) (salt : Int), vs = [.int k, .int salt] ∧ k ≤ 1000 ∧ ∀ H', Sm T H H' → Q (.str (nameF k salt)) H'
theorem ok_l_name {f : Addr} {fd : FuncData} (F : Fun K "_law_name" "_law_name" s_l_name f fd) (F_l_draws_f : Fn P w K mg base 1 "_law_draws" ["_law_cell_here", "_law_parts"] (sp_l_draws_f K T)) : FnOk P w K mg base CX0 2 f fd ["_law_k", "_law_salt"] (sp_l_name K T) := by
  refine F.ok sc_l_name (fun vs H Q E h => ?_) (fun cdv A outer s H vs Q E hr h => ?_)
  · obtain ⟨k, salt, rfl, _⟩ := h
    rfl
  · obtain ⟨k, salt, rfl, hk, q⟩ := h
    refine ⟨_, (pss_cons (ps_set (i := 2) sc_l_name.nd rfl (.inl rfl) pe_str)
      (pss_cons (ps_asg (pe_fn F_l_draws_f (hr.mono (by decide)) (pa_cons (pv 1) (pa_cons (pe_lst (pa_cons pe_int (pa_cons pe_int (pa_cons pe_int (pa_cons pe_int pa_nil))))) pa_nil))) (pg_unl rfl (pgs_cons (pg_name (i := 3) sc_l_name.nd rfl (.inl rfl)) (pgs_cons (pg_name (i := 4) sc_l_name.nd rfl (.inl rfl)) (pgs_cons (pg_name (i := 5) sc_l_name.nd rfl (.inl rfl)) (pgs_cons (pg_name (i := 6) sc_l_name.nd rfl (.inl rfl)) pgs_nil))))))
      (pss_cons (ps_set (i := 7) sc_l_name.nd rfl (.inl rfl) (pe_op op_add_str (pe_ix ix_str (pv 2) (pe_op op_mod (pe_op op_add (pe_op op_mul pe_int (pv 0)) (pv 6)) pe_int) (fun _ _ => rfl)) (pe_ix ix_str (pv 2) (pe_op op_mod (pe_op op_add (pv 6) (pe_op op_fdivW (pv 0) pe_int)) pe_int) (fun _ _ => rfl))))
      (pss_one (ps_ret (pe_op op_add_str (pe_op op_add_str (pe_op op_repS (pe_ix ix_str (pv 2) (pv 5) (fun _ _ => rfl)) (pv 3)) (pv 7)) (pe_op op_repS (pe_ix ix_str (pv 2) (pv 5) (fun _ _ => rfl)) (pv 4)))))))), ?_⟩
    obtain ⟨a, b, c, d, ed, ha, hb, hc, hd⟩ := name_dr salt
    refine ⟨_, rfl, by show 4 ≤ sizeLine; decide, fun l1 n1 => ?_⟩
    have u1 := same_upd (T := T) (o := .lst [.int 4, .int 4, .int 26, .int 26]) n1
    refine ⟨salt, l1, [4, 4, 26, 26], rfl, SqL.of upd_same, by decide, by decide, fun p2 H2 s2 np2 e2 => ?_⟩
    rw [ed] at e2
    refine ⟨p2, _, rfl, SqL.of e2, rfl, _, _, rfl, _, _, rfl, _, _, rfl, _, _, rfl, rfl, ?_⟩
    have m1 := Int.emod_nonneg (7 * (k : Int) + d) (show (26 : Int) ≠ 0 by decide)
    have m2 := Int.emod_lt_of_pos (7 * (k : Int) + d) (show (0 : Int) < 26 by decide)
    have m3 := Int.emod_nonneg (d + (k : Int) / 26) (show (26 : Int) ≠ 0 by decide)
    have m4 := Int.emod_lt_of_pos (d + (k : Int) / 26) (show (0 : Int) < 26 by decide)
    have q' : Q (.str (nmF a b c d k)) H2 := by
      have := q H2 (u1.trans s2)
      unfold nameF at this
      rw [ed] at this
      exact this
    have z1 : (Txt.mul (chF c) a).length ≤ 3 := by rw [str_len, mul_cps ha.1 ha.2, List.length_replicate]; omega
    have z2 : (Txt.mul (chF c) b).length ≤ 3 := by rw [str_len, mul_cps hb.1 hb.2, List.length_replicate]; omega
    have z3 : ∀ x y : Str, (x ++ y).length = x.length + y.length := fun x y => by rw [str_len, str_app, List.length_append]; rfl
    refine ⟨_, rfl, _, rfl, _, _, rfl, rfl, .inl ⟨by decide, by decide⟩, _, rfl, _, _, rfl, rfl, _, _, rfl, rfl, (by show (0 : Int) < 26; decide), ABC, _, _, rfl, rfl, abc_len, abc_at m1 m2, ?_⟩
    refine ⟨_, rfl, _, rfl, _, rfl, _, _, rfl, rfl, wide_div (b := 100) (by decide) (by decide) (by decide) (by decide), _, _, rfl, rfl, _, _, rfl, rfl, (by show (0 : Int) < 26; decide), ABC, _, _, rfl, rfl, abc_len, abc_at m3 m4, _, _, rfl, rfl, by show 2 ≤ sizeLine; decide, ?_⟩
    refine ⟨_, rfl, _, rfl, ABC, _, _, rfl, rfl, abc_len, abc_at hc.1 hc.2, _, rfl, chF c, a, rfl, rfl, mul_ok ha.1 ha.2, _, rfl, _, _, rfl, rfl, sz (by rw [z3]; show (Txt.mul (chF c) a).length + 2 ≤ _; omega), ?_⟩
    refine ⟨_, rfl, _, rfl, ABC, _, _, rfl, rfl, abc_len, abc_at hc.1 hc.2, _, rfl, chF c, b, rfl, rfl, mul_ok hb.1 hb.2, _, _, rfl, rfl, sz (by rw [z3, z3]; show (Txt.mul (chF c) a).length + 2 + (Txt.mul (chF c) b).length ≤ _; omega), q'⟩

def sp_l_same_n (n : Nat) (K : PySem.W.Frag) (T : Tb) : Sp := fun vs H Q _ => ∃ x y d, vs = [x, y] ∧ Dp K H x d ∧ Dp K H y d ∧ depOk n d = true ∧ ∀ H', Sm T H H' → Q (.bl true) H'
abbrev sp_l_same (K : PySem.W.Frag) (T : Tb) : Sp := sp_l_same_n 5 K T
theorem ok_l_same_n {f : Addr} {fd : FuncData} (F : Fun K "_law_same" "_law_same" s_l_same f fd) (B : Bn mg) (g : mg "_law_same" = some (.ref f)) (b : Binds K fd ["_law_found", "_law_due"] []) :
    ∀ n, FnOk P w K mg base CX0 (n + 1) f fd ["_law_found", "_law_due"] (sp_l_same_n n K T)
  | 0 => by
    refine F.ok sc_l_same (fun vs H Q E h => ?_) (fun cdv A outer s H vs Q E hr h => ?_)
    · obtain ⟨x, y, d, rfl, _⟩ := h
      rfl
    · obtain ⟨x, y, d, rfl, hx, hy, hd, q⟩ := h
      have tx := tyx_of hx
      have ty := tyx_of hy
      have q0 := q H Sm.refl
      refine ⟨_, (pss_cons (ps_if (pt_cmpR op_isN (pv 1) pe_non (nomark _)) (pss_one (ps_ret (pe_cmpR op_isN (pv 0) pe_non (nomark _)))) pss_nil)
      (pss_cons (ps_if (PW.pt (pw_or (pt_val (pe_callB call_isi (by rfl) B.isinstance_ (by decide +kernel) (pa_cons (pv 1) (pa_cons (pe_bltn (v := .ty "bool") (by rfl) B.bool_ (by decide +kernel) rfl) pa_nil)))) (pw_or1 (pt_val (pe_callB call_isi (by rfl) B.isinstance_ (by decide +kernel) (pa_cons (pv 0) (pa_cons (pe_bltn (v := .ty "bool") (by rfl) B.bool_ (by decide +kernel) rfl) pa_nil))))))) (pss_one (ps_ret (pe_and (pe_callB call_isi (by rfl) B.isinstance_ (by decide +kernel) (pa_cons (pv 1) (pa_cons (pe_bltn (v := .ty "bool") (by rfl) B.bool_ (by decide +kernel) rfl) pa_nil))) (pe_and (pe_callB call_isi (by rfl) B.isinstance_ (by decide +kernel) (pa_cons (pv 0) (pa_cons (pe_bltn (v := .ty "bool") (by rfl) B.bool_ (by decide +kernel) rfl) pa_nil))) (pe_one (pe_cmpR op_eq (pv 0) (pv 1) (nomark _))))))) pss_nil)
      (pss_cons (ps_if (pt_val (pe_callB call_isi (by rfl) B.isinstance_ (by decide +kernel) (pa_cons (pv 1) (pa_cons (pe_bltn (v := .ty "int") (by rfl) B.int_ (by decide +kernel) rfl) pa_nil)))) (pss_one (ps_ret (pe_and (pe_callB call_isi (by rfl) B.isinstance_ (by decide +kernel) (pa_cons (pv 0) (pa_cons (pe_bltn (v := .ty "int") (by rfl) B.int_ (by decide +kernel) rfl) pa_nil))) (pe_one (pe_cmpR op_eq (pv 0) (pv 1) (nomark _)))))) pss_nil)
      (pss_cons (ps_if (pt_val (pe_callB call_isi (by rfl) B.isinstance_ (by decide +kernel) (pa_cons (pv 1) (pa_cons (pe_bltn (v := .ty "str") (by rfl) B.str_ (by decide +kernel) rfl) pa_nil)))) (pss_one (ps_ret (pe_and (pe_callB call_isi (by rfl) B.isinstance_ (by decide +kernel) (pa_cons (pv 0) (pa_cons (pe_bltn (v := .ty "str") (by rfl) B.str_ (by decide +kernel) rfl) pa_nil))) (pe_one (pe_cmpR op_eq (pv 0) (pv 1) (nomark _)))))) pss_nil)
      (pss_cons (ps_if (PW.pt (pw_or (pt_cmpR op_ne (pe_callB call_isi (by rfl) B.isinstance_ (by decide +kernel) (pa_cons (pv 1) (pa_cons (pe_bltn (v := .ty "tuple") (by rfl) B.tuple_ (by decide +kernel) rfl) pa_nil))) (pe_callB call_isi (by rfl) B.isinstance_ (by decide +kernel) (pa_cons (pv 0) (pa_cons (pe_bltn (v := .ty "tuple") (by rfl) B.tuple_ (by decide +kernel) rfl) pa_nil))) (nomark _)) (pw_or1 (pt_cmpR op_ne (pe_callB call_isi (by rfl) B.isinstance_ (by decide +kernel) (pa_cons (pv 1) (pa_cons (pe_bltn (v := .ty "list") (by rfl) B.list_ (by decide +kernel) rfl) pa_nil))) (pe_callB call_isi (by rfl) B.isinstance_ (by decide +kernel) (pa_cons (pv 0) (pa_cons (pe_bltn (v := .ty "list") (by rfl) B.list_ (by decide +kernel) rfl) pa_nil))) (nomark _))))) (pss_one (ps_ret pe_bl)) pss_nil)
      (pss_one ps_never)))))), ?_⟩
      cases d with
      | none =>
        cases hx; cases hy
        exact ⟨_, rfl, rfl, _, rfl, iteT ⟨_, rfl, rfl, q0⟩⟩
      | bool b =>
        cases hx; cases hy
        refine ⟨_, rfl, rfl, _, rfl, iteF ?_⟩
        refine ⟨_, rfl, _, _, _, _, true, rfl, .ty "bool", ty, kit_ty kb_bool_bool, _, rfl, iteT (iteT ?_)⟩
        refine ⟨_, rfl, _, _, _, _, true, rfl, .ty "bool", ty, kit_ty kb_bool_bool, _, rfl, iteT ?_⟩
        refine ⟨_, rfl, _, _, _, _, true, rfl, .ty "bool", tx, kit_ty kb_bool_bool, _, rfl, iteT ?_⟩
        refine ⟨_, rfl, _, rfl, rfl, ?_⟩
        rw [decide_eq_true rfl]
        exact q0
      | int i =>
        cases hx; cases hy
        refine ⟨_, rfl, rfl, _, rfl, iteF ?_⟩
        refine ⟨_, rfl, _, _, _, _, false, rfl, .ty "bool", ty, kit_ty kb_int_bool, _, rfl, iteF ?_⟩
        refine ⟨_, rfl, _, _, _, _, false, rfl, .ty "bool", tx, kit_ty kb_int_bool, _, rfl, iteF ?_⟩
        refine ⟨_, rfl, _, _, _, _, true, rfl, .ty "int", ty, kit_ty kb_int_int, _, rfl, iteT ?_⟩
        refine ⟨_, rfl, _, _, _, _, true, rfl, .ty "int", tx, kit_ty kb_int_int, _, rfl, iteT ?_⟩
        refine ⟨_, rfl, _, rfl, rfl, ?_⟩
        rw [decide_eq_true rfl]
        exact q0
      | str z =>
        cases hx; cases hy
        refine ⟨_, rfl, rfl, _, rfl, iteF ?_⟩
        refine ⟨_, rfl, _, _, _, _, false, rfl, .ty "bool", ty, kit_ty kb_str_bool, _, rfl, iteF ?_⟩
        refine ⟨_, rfl, _, _, _, _, false, rfl, .ty "bool", tx, kit_ty kb_str_bool, _, rfl, iteF ?_⟩
        refine ⟨_, rfl, _, _, _, _, false, rfl, .ty "int", ty, kit_ty kb_str_int, _, rfl, iteF ?_⟩
        refine ⟨_, rfl, _, _, _, _, true, rfl, .ty "str", ty, kit_ty kb_str_str, _, rfl, iteT ?_⟩
        refine ⟨_, rfl, _, _, _, _, true, rfl, .ty "str", tx, kit_ty kb_str_str, _, rfl, iteT ?_⟩
        refine ⟨_, rfl, _, rfl, rfl, ?_⟩
        rw [decide_eq_true rfl]
        exact q0
      | list ds => cases hd
      | tuple ds => cases hd
      | dict _ => cases hd
  | n + 1 => by
    have F_l_same : Fn P w K mg base (n + 1) "_law_same" ["_law_found", "_law_due"] (sp_l_same_n n K T) := Fn.mk' (ok_l_same_n F B g b n) g F.kp b
    refine F.ok sc_l_same (fun vs H Q E h => ?_) (fun cdv A outer s H vs Q E hr h => ?_)
    · obtain ⟨x, y, d, rfl, _⟩ := h
      rfl
    · obtain ⟨x, y, d, rfl, hx, hy, hd, q⟩ := h
      have tx := tyx_of hx
      have ty := tyx_of hy
      have q0 := q H Sm.refl
      refine ⟨_, (pss_cons (ps_if (pt_cmpR op_isN (pv 1) pe_non (nomark _)) (pss_one (ps_ret (pe_cmpR op_isN (pv 0) pe_non (nomark _)))) pss_nil)
      (pss_cons (ps_if (PW.pt (pw_or (pt_val (pe_callB call_isi (by rfl) B.isinstance_ (by decide +kernel) (pa_cons (pv 1) (pa_cons (pe_bltn (v := .ty "bool") (by rfl) B.bool_ (by decide +kernel) rfl) pa_nil)))) (pw_or1 (pt_val (pe_callB call_isi (by rfl) B.isinstance_ (by decide +kernel) (pa_cons (pv 0) (pa_cons (pe_bltn (v := .ty "bool") (by rfl) B.bool_ (by decide +kernel) rfl) pa_nil))))))) (pss_one (ps_ret (pe_and (pe_callB call_isi (by rfl) B.isinstance_ (by decide +kernel) (pa_cons (pv 1) (pa_cons (pe_bltn (v := .ty "bool") (by rfl) B.bool_ (by decide +kernel) rfl) pa_nil))) (pe_and (pe_callB call_isi (by rfl) B.isinstance_ (by decide +kernel) (pa_cons (pv 0) (pa_cons (pe_bltn (v := .ty "bool") (by rfl) B.bool_ (by decide +kernel) rfl) pa_nil))) (pe_one (pe_cmpR op_eq (pv 0) (pv 1) (nomark _))))))) pss_nil)
      (pss_cons (ps_if (pt_val (pe_callB call_isi (by rfl) B.isinstance_ (by decide +kernel) (pa_cons (pv 1) (pa_cons (pe_bltn (v := .ty "int") (by rfl) B.int_ (by decide +kernel) rfl) pa_nil)))) (pss_one (ps_ret (pe_and (pe_callB call_isi (by rfl) B.isinstance_ (by decide +kernel) (pa_cons (pv 0) (pa_cons (pe_bltn (v := .ty "int") (by rfl) B.int_ (by decide +kernel) rfl) pa_nil))) (pe_one (pe_cmpR op_eq (pv 0) (pv 1) (nomark _)))))) pss_nil)
      (pss_cons (ps_if (pt_val (pe_callB call_isi (by rfl) B.isinstance_ (by decide +kernel) (pa_cons (pv 1) (pa_cons (pe_bltn (v := .ty "str") (by rfl) B.str_ (by decide +kernel) rfl) pa_nil)))) (pss_one (ps_ret (pe_and (pe_callB call_isi (by rfl) B.isinstance_ (by decide +kernel) (pa_cons (pv 0) (pa_cons (pe_bltn (v := .ty "str") (by rfl) B.str_ (by decide +kernel) rfl) pa_nil))) (pe_one (pe_cmpR op_eq (pv 0) (pv 1) (nomark _)))))) pss_nil)
      (pss_cons (ps_if (PW.pt (pw_or (pt_cmpR op_ne (pe_callB call_isi (by rfl) B.isinstance_ (by decide +kernel) (pa_cons (pv 1) (pa_cons (pe_bltn (v := .ty "tuple") (by rfl) B.tuple_ (by decide +kernel) rfl) pa_nil))) (pe_callB call_isi (by rfl) B.isinstance_ (by decide +kernel) (pa_cons (pv 0) (pa_cons (pe_bltn (v := .ty "tuple") (by rfl) B.tuple_ (by decide +kernel) rfl) pa_nil))) (nomark _)) (pw_or1 (pt_cmpR op_ne (pe_callB call_isi (by rfl) B.isinstance_ (by decide +kernel) (pa_cons (pv 1) (pa_cons (pe_bltn (v := .ty "list") (by rfl) B.list_ (by decide +kernel) rfl) pa_nil))) (pe_callB call_isi (by rfl) B.isinstance_ (by decide +kernel) (pa_cons (pv 0) (pa_cons (pe_bltn (v := .ty "list") (by rfl) B.list_ (by decide +kernel) rfl) pa_nil))) (nomark _))))) (pss_one (ps_ret pe_bl)) pss_nil)
      (pss_one (ps_ret (pe_and (pe_cmpR op_eq (pe_callB call_len_seq (by rfl) B.len_ (by decide +kernel) (pa_cons (pv 0) pa_nil)) (pe_callB call_len_seq (by rfl) B.len_ (by decide +kernel) (pa_cons (pv 1) pa_nil)) (nomark _)) (pe_one (pe_callB (cr_all rfl) (by rfl) B.all_ (by decide +kernel) (pa_cons (pe_lc (own := [("_law_k", 2)]) (g := (gName 2)) (tt := tYes) (by rfl) sc_l_same.nd (pi_range1 (by rfl) B.range_ (pa_cons (pe_callB call_len_seq (by rfl) B.len_ (by decide +kernel) (pa_cons (pv 1) pa_nil)) pa_nil)) (blkOk_by (own := [("_law_k", 2)]) (N := ["_law_found", "_law_due", "_law_k"]) (sc := (defScope s_l_same)) (by decide +kernel)) (fun _ _ _ _ _ => (pg_name (i := 2) sc_l_same.nd rfl (.inl rfl))) (fun _ _ _ _ _ => pts_nil) (fun _ _ _ _ _ => (pe_fn F_l_same hr (pa_cons (pe_ix (r := rIx K) ix_seq (pv 0) (pv 2) (fun _ _ => rfl)) (pa_cons (pe_ix (r := rIx K) ix_seq (pv 1) (pv 2) (fun _ _ => rfl)) pa_nil))))) pa_nil))))))))))), ?_⟩
      cases d with
      | none =>
        cases hx; cases hy
        exact ⟨_, rfl, rfl, _, rfl, iteT ⟨_, rfl, rfl, q0⟩⟩
      | bool b =>
        cases hx; cases hy
        refine ⟨_, rfl, rfl, _, rfl, iteF ?_⟩
        refine ⟨_, rfl, _, _, _, _, true, rfl, .ty "bool", ty, kit_ty kb_bool_bool, _, rfl, iteT (iteT ?_)⟩
        refine ⟨_, rfl, _, _, _, _, true, rfl, .ty "bool", ty, kit_ty kb_bool_bool, _, rfl, iteT ?_⟩
        refine ⟨_, rfl, _, _, _, _, true, rfl, .ty "bool", tx, kit_ty kb_bool_bool, _, rfl, iteT ?_⟩
        refine ⟨_, rfl, _, rfl, rfl, ?_⟩
        rw [decide_eq_true rfl]
        exact q0
      | int i =>
        cases hx; cases hy
        refine ⟨_, rfl, rfl, _, rfl, iteF ?_⟩
        refine ⟨_, rfl, _, _, _, _, false, rfl, .ty "bool", ty, kit_ty kb_int_bool, _, rfl, iteF ?_⟩
        refine ⟨_, rfl, _, _, _, _, false, rfl, .ty "bool", tx, kit_ty kb_int_bool, _, rfl, iteF ?_⟩
        refine ⟨_, rfl, _, _, _, _, true, rfl, .ty "int", ty, kit_ty kb_int_int, _, rfl, iteT ?_⟩
        refine ⟨_, rfl, _, _, _, _, true, rfl, .ty "int", tx, kit_ty kb_int_int, _, rfl, iteT ?_⟩
        refine ⟨_, rfl, _, rfl, rfl, ?_⟩
        rw [decide_eq_true rfl]
        exact q0
      | str z =>
        cases hx; cases hy
        refine ⟨_, rfl, rfl, _, rfl, iteF ?_⟩
        refine ⟨_, rfl, _, _, _, _, false, rfl, .ty "bool", ty, kit_ty kb_str_bool, _, rfl, iteF ?_⟩
        refine ⟨_, rfl, _, _, _, _, false, rfl, .ty "bool", tx, kit_ty kb_str_bool, _, rfl, iteF ?_⟩
        refine ⟨_, rfl, _, _, _, _, false, rfl, .ty "int", ty, kit_ty kb_str_int, _, rfl, iteF ?_⟩
        refine ⟨_, rfl, _, _, _, _, true, rfl, .ty "str", ty, kit_ty kb_str_str, _, rfl, iteT ?_⟩
        refine ⟨_, rfl, _, _, _, _, true, rfl, .ty "str", tx, kit_ty kb_str_str, _, rfl, iteT ?_⟩
        refine ⟨_, rfl, _, rfl, rfl, ?_⟩
        rw [decide_eq_true rfl]
        exact q0
      | list ds =>
        cases hx with
        | @lst ax xs _ sx ax_ =>
        cases hy with
        | @lst ay ys _ sy ay_ =>
        refine ⟨_, rfl, rfl, _, rfl, iteF ?_⟩
        refine ⟨_, rfl, _, _, _, _, false, rfl, .ty "bool", ty, kit_ty kb_list_bool, _, rfl, iteF ?_⟩
        refine ⟨_, rfl, _, _, _, _, false, rfl, .ty "bool", tx, kit_ty kb_list_bool, _, rfl, iteF ?_⟩
        refine ⟨_, rfl, _, _, _, _, false, rfl, .ty "int", ty, kit_ty kb_list_int, _, rfl, iteF ?_⟩
        refine ⟨_, rfl, _, _, _, _, false, rfl, .ty "str", ty, kit_ty kb_list_str, _, rfl, iteF ?_⟩
        refine ⟨_, rfl, _, _, _, _, false, rfl, .ty "tuple", ty, kit_ty kb_list_tuple, _, rfl, _, _, _, _, false, rfl, .ty "tuple", tx, kit_ty kb_list_tuple, rfl, _, rfl, iteF ?_⟩
        refine ⟨_, rfl, _, _, _, _, true, rfl, .ty "list", ty, kit_ty kb_list_list, _, rfl, _, _, _, _, true, rfl, .ty "list", tx, kit_ty kb_list_list, rfl, _, rfl, iteF ?_⟩
        have hd' : (decide (ds.length ≤ 9000) && ds.all (depOk n)) = true := hd
        rw [Bool.and_eq_true] at hd'
        have hle : ds.length ≤ 9000 := of_decide_eq_true hd'.1
        have lx := dpa_len ax_
        have ly := dpa_len ay_
        refine ⟨_, rfl, ax, xs, rfl, .inl sx, _, rfl, ay, ys, rfl, .inl sy, rfl, _, rfl, ?_⟩
        rw [lx, ly, decide_eq_true rfl]
        refine iteT ?_
        refine ⟨_, rfl, ay, ys, rfl, .inl sy, _, rfl, by rw [ly]; omega, by rw [ly]; omega, fun D hD => lc_range (lo := 0) (n := ys.length)
          (Qd := _) (fun i H' => Sm T H H' ∧ H' D = some (.lst (List.replicate i (V.bl true)))) ⟨same_upd hD, upd_same⟩ ?_ ?_⟩
        · rintro i H' hi ⟨sm, eD⟩
          rw [ly] at hi
          obtain ⟨vx, ex, dx⟩ := dpa_get ax_ (List.getElem?_eq_getElem hi)
          obtain ⟨vy, ey, dy⟩ := dpa_get ay_ (List.getElem?_eq_getElem hi)
          refine ⟨rfl, tyes_i ?_⟩
          refine ⟨_, rfl, _, rfl, .inl ⟨ax, xs, _, vx, rfl, rfl, sm.seq sx, at_of (j := i) (by omega) ex, ?_⟩⟩
          refine ⟨_, rfl, _, rfl, .inl ⟨ay, ys, _, vy, rfl, rfl, sm.seq sy, at_of (j := i) (by omega) ey, ?_⟩⟩
          refine ⟨vx, vy, ds[i], rfl, dp_same sm _ _ dx, dp_same sm _ _ dy, List.all_eq_true.mp hd'.2 _ (List.getElem_mem hi), fun H2 s2 => ⟨_, s2.k eD, ?_, same_mut (sm.trans s2) hD (s2.lst eD), ?_⟩⟩
          · rw [List.length_replicate]
            exact szl (by omega)
          · rw [upd_same, ← List.replicate_succ']
        · rintro H' ⟨sm, eD⟩
          rw [ly] at eD
          refine ⟨D, List.replicate ds.length true, rfl, SqL.of (by rw [eD, List.map_replicate]), ?_⟩
          rw [rep_all]
          exact q H' sm
      | tuple ds =>
        cases hx with
        | @tup ax xs _ sx ax_ =>
        cases hy with
        | @tup ay ys _ sy ay_ =>
        refine ⟨_, rfl, rfl, _, rfl, iteF ?_⟩
        refine ⟨_, rfl, _, _, _, _, false, rfl, .ty "bool", ty, kit_ty kb_tuple_bool, _, rfl, iteF ?_⟩
        refine ⟨_, rfl, _, _, _, _, false, rfl, .ty "bool", tx, kit_ty kb_tuple_bool, _, rfl, iteF ?_⟩
        refine ⟨_, rfl, _, _, _, _, false, rfl, .ty "int", ty, kit_ty kb_tuple_int, _, rfl, iteF ?_⟩
        refine ⟨_, rfl, _, _, _, _, false, rfl, .ty "str", ty, kit_ty kb_tuple_str, _, rfl, iteF ?_⟩
        refine ⟨_, rfl, _, _, _, _, true, rfl, .ty "tuple", ty, kit_ty kb_tuple_tuple, _, rfl, _, _, _, _, true, rfl, .ty "tuple", tx, kit_ty kb_tuple_tuple, rfl, _, rfl, iteF ?_⟩
        refine ⟨_, rfl, _, _, _, _, false, rfl, .ty "list", ty, kit_ty kb_tuple_list, _, rfl, _, _, _, _, false, rfl, .ty "list", tx, kit_ty kb_tuple_list, rfl, _, rfl, iteF ?_⟩
        have hd' : (decide (ds.length ≤ 9000) && ds.all (depOk n)) = true := hd
        rw [Bool.and_eq_true] at hd'
        have hle : ds.length ≤ 9000 := of_decide_eq_true hd'.1
        have lx := dpa_len ax_
        have ly := dpa_len ay_
        refine ⟨_, rfl, ax, xs, rfl, .inr sx, _, rfl, ay, ys, rfl, .inr sy, rfl, _, rfl, ?_⟩
        rw [lx, ly, decide_eq_true rfl]
        refine iteT ?_
        refine ⟨_, rfl, ay, ys, rfl, .inr sy, _, rfl, by rw [ly]; omega, by rw [ly]; omega, fun D hD => lc_range (lo := 0) (n := ys.length)
          (Qd := _) (fun i H' => Sm T H H' ∧ H' D = some (.lst (List.replicate i (V.bl true)))) ⟨same_upd hD, upd_same⟩ ?_ ?_⟩
        · rintro i H' hi ⟨sm, eD⟩
          rw [ly] at hi
          obtain ⟨vx, ex, dx⟩ := dpa_get ax_ (List.getElem?_eq_getElem hi)
          obtain ⟨vy, ey, dy⟩ := dpa_get ay_ (List.getElem?_eq_getElem hi)
          refine ⟨rfl, tyes_i ?_⟩
          refine ⟨_, rfl, _, rfl, .inr (.inl ⟨ax, xs, _, vx, rfl, rfl, same_tup sm sx, at_of (j := i) (by omega) ex, ?_⟩)⟩
          refine ⟨_, rfl, _, rfl, .inr (.inl ⟨ay, ys, _, vy, rfl, rfl, same_tup sm sy, at_of (j := i) (by omega) ey, ?_⟩)⟩
          refine ⟨vx, vy, ds[i], rfl, dp_same sm _ _ dx, dp_same sm _ _ dy, List.all_eq_true.mp hd'.2 _ (List.getElem_mem hi), fun H2 s2 => ⟨_, s2.k eD, ?_, same_mut (sm.trans s2) hD (s2.lst eD), ?_⟩⟩
          · rw [List.length_replicate]
            exact szl (by omega)
          · rw [upd_same, ← List.replicate_succ']
        · rintro H' ⟨sm, eD⟩
          rw [ly] at eD
          refine ⟨D, List.replicate ds.length true, rfl, SqL.of (by rw [eD, List.map_replicate]), ?_⟩
          rw [rep_all]
          exact q H' sm
      | dict _ => cases hd
theorem ok_l_same {f : Addr} {fd : FuncData} (F : Fun K "_law_same" "_law_same" s_l_same f fd) (B : Bn mg) (g : mg "_law_same" = some (.ref f)) (b : Binds K fd ["_law_found", "_law_due"] []) :
    FnOk P w K mg base CX0 6 f fd ["_law_found", "_law_due"] (sp_l_same K T) := ok_l_same_n F B g b 5

def sp_l_split (K : PySem.W.Frag) (T : Tb) : Sp := fun vs H Q _ => ∃ (c : Int) (n : Nat), vs = [.int c, .int n] ∧ n ≤ 100 ∧
  ∀ p H' (zs : List Int), Sm T H H' → H p = none → H' p = some (.lst (zs.map V.int)) → zs.length = n → Q (.ref p) H'
theorem ok_l_split {f : Addr} {fd : FuncData} (F : Fun K "_law_split" "_law_split" s_l_split f fd) (B : Bn mg) : FnOk P w K mg base CX0 1 f fd ["_law_cell_here", "_law_many_here"] (sp_l_split K T) := by
  refine F.ok sc_l_split (fun vs H Q E h => ?_) (fun cdv A outer s H vs Q E hr h => ?_)
  · obtain ⟨c, n, rfl, _⟩ := h
    rfl
  · obtain ⟨c, n, rfl, hn, q⟩ := h
    refine ⟨_, (pss_cons (ps_set (i := 2) sc_l_split.nd rfl (.inl rfl) (pe_lst pa_nil))
      (pss_cons (ps_set (i := 3) sc_l_split.nd rfl (.inl rfl) (pe_cmpR op_ge (pv 0) (pe_op op_pow pe_int pe_int) (nomark _)))
      (pss_cons (ps_for PassesOwn.never rfl (pi_range1 (by rfl) B.range_ (pa_cons (pv 1) pa_nil)) (pg_name (i := 4) sc_l_split.nd rfl (.inl rfl))
      (pss_one (ps_if (pt_val (pv 3)) (pss_cons (ps_expr (pe_bm PySem.F.plainAttrs_list PySem.F.slot_list_append PySem.F.type_list_append mt_append (pv 2) (pa_cons (pe_op op_add (pe_op op_pow pe_int pe_int) (pe_op op_mod (pv 0) (pe_op op_pow pe_int pe_int))) pa_nil)))
      (pss_one (ps_set (i := 0) sc_l_split.nd rfl (.inl rfl) (pe_op op_fdivW (pv 0) (pe_op op_pow pe_int pe_int))))) (pss_one (ps_expr (pe_bm PySem.F.plainAttrs_list PySem.F.slot_list_append PySem.F.type_list_append mt_append (pv 2) (pa_cons (pe_op op_add (pe_op op_mul (pv 0) (pe_op op_add (pe_op op_mul pe_int (pv 4)) pe_int)) (pe_op op_mul pe_int (pv 4))) pa_nil)))))))
      (pss_one (ps_ret (pv 2)))))), ?_⟩
    refine ⟨Nat.zero_le _, fun o no => ?_⟩
    refine ⟨_, rfl, _, _, rfl, rfl, ⟨by decide, by decide, by decide⟩, _, _, rfl, rfl, ?_⟩
    refine ⟨_, rfl, n, rfl, by omega, by omega, for_range (lo := 0) (n := n)
      (fun i σ H3 => ∃ (c : Int) (b : Bool) (x4 : Option V) (zs : List Int), σ = [some (.int c), some (.int n), some (.ref o), some (.bl b), x4] ∧ Sm T H H3 ∧ H3 o = some (.lst (zs.map V.int)) ∧ zs.length = i)
      ⟨c, _, none, [], rfl, same_upd no, upd_same, rfl⟩ ?_ ?_⟩
    · rintro i σ H3 hi ⟨c, b, x4, zs, rfl, sm, eo, hl⟩
      have hs : (zs.map V.int).length < sizeLine := by
        rw [List.length_map]
        exact szl (by omega)
      refine ⟨_, rfl, _, rfl, ?_⟩
      cases b with
      | true =>
        refine iteT ?_
        refine ⟨_, rfl, .inl ⟨rfl, _, SqL.of eo⟩, _, _, rfl, rfl, ⟨by decide, by decide, by decide⟩, _, rfl, _, _, rfl, rfl, ⟨by decide, by decide, by decide⟩, _, _, rfl, rfl, (by show (0 : Int) < 10 ^ 30; decide), _, _, rfl, rfl, o, _, _, rfl, rfl, eo, hs, ?_⟩
        refine ⟨_, rfl, _, _, rfl, rfl, ⟨by decide, by decide, by decide⟩, _, _, rfl, rfl, wide_div (b := 200) (by show (0 : Int) < 10 ^ 30; decide) (by decide) (by decide) (by decide), ?_⟩
        refine ⟨_, true, _, zs ++ [10 ^ (18 : Int).toNat + c % 10 ^ (30 : Int).toNat], rfl, same_mut sm no eo, ?_, ?_⟩
        · rw [upd_same, List.map_append]
          rfl
        · rw [List.length_append, hl]
          rfl
      | false =>
        refine iteF ?_
        refine ⟨_, rfl, .inl ⟨rfl, _, SqL.of eo⟩, _, rfl, _, rfl, _, _, rfl, rfl, .inl ⟨by decide, by decide⟩, _, _, rfl, rfl, _, _, rfl, rfl, .inr ⟨by omega, by omega⟩, _, rfl, _, _, rfl, rfl, .inl ⟨by decide, by decide⟩, _, _, rfl, rfl, o, _, _, rfl, rfl, eo, hs, ?_⟩
        refine ⟨_, false, _, zs ++ [c * (2 * (0 + (i : Int)) + 3) + 7919 * (0 + (i : Int))], rfl, same_mut sm no eo, ?_, ?_⟩
        · rw [upd_same, List.map_append]
          rfl
        · rw [List.length_append, hl]
          rfl
    · rintro σ H3 ⟨c, b, x4, zs, rfl, sm, eo, hl⟩
      exact ⟨_, rfl, q o H3 zs sm no eo hl⟩

def sp_l_way (K : PySem.W.Frag) (T : Tb) : Sp := fun vs H Q _ => ∃ c : Int, vs = [.int c] ∧ ∀ o H' us qs, Sm T H H' → H o = none → H' o = some (.lst us) → DpAll K H' us (qs.map amD) → wayB qs = true → Q (.ref o) H'
theorem ok_l_way {f : Addr} {fd : FuncData} (F : Fun K "_law_way" "_law_way" s_l_way f fd) (B : Bn mg) (F_l_draws : Fn P w K mg base 1 "_law_draws" ["_law_cell_here", "_law_parts"] (sp_l_draws K T)) : FnOk P w K mg base CX0 2 f fd ["_law_cell_here"] (sp_l_way K T) := by
  refine F.ok sc_l_way (fun vs H Q E h => ?_) (fun cdv A outer s H vs Q E hr h => ?_)
  · obtain ⟨c, rfl, _⟩ := h
    rfl
  · obtain ⟨c, rfl, q⟩ := h
    refine ⟨_, (pss_cons (ps_set (i := 1) sc_l_way.nd rfl (.inr rfl) (pe_fn F_l_draws (hr.mono (by decide)) (pa_cons (pv 0) (pa_cons (pe_op op_cat (pe_lst (pa_cons pe_int (pa_cons pe_int (pa_cons pe_int pa_nil)))) (pe_lc (own := [("_law_k", 4)]) (g := (gName 4)) (tt := tYes) (by rfl) sc_l_way.nd (pi_range1 (by rfl) B.range_ (pa_cons pe_int pa_nil)) (blkOk_by (own := [("_law_k", 4)]) (N := ["_law_cell_here", "_law_drawn", "_law_cap", "_law_many_here", "_law_k"]) (sc := (defScope s_l_way)) (by decide +kernel)) (fun _ _ _ _ _ => (pg_name (i := 4) sc_l_way.nd rfl (.inl rfl))) (fun _ _ _ _ _ => pts_nil) (fun _ _ _ _ _ => pe_int))) pa_nil))))
      (pss_cons (ps_set (i := 2) sc_l_way.nd rfl (.inr rfl) (pe_ix ix_list (pe_lst (pa_cons pe_int (pa_cons pe_int (pa_cons pe_int pa_nil)))) (pe_ix ix_list (pv 1) pe_int (fun _ _ => rfl)) (fun _ _ => rfl)))
      (pss_cons (ps_set (i := 3) sc_l_way.nd rfl (.inl rfl) (pe_ix ix_list (pe_lst (pa_cons (pe_op op_add (pe_ix ix_list (pv 1) pe_int (fun _ _ => rfl)) pe_int) (pa_cons pe_int (pa_cons (pe_op op_add pe_int (pe_op op_mod (pe_ix ix_list (pv 1) pe_int (fun _ _ => rfl)) pe_int)) pa_nil)))) (pe_ix ix_list (pv 1) pe_int (fun _ _ => rfl)) (fun _ _ => rfl)))
      (pss_one (ps_ret (pe_lc (own := [("_law_k", 4)]) (g := (gName 4)) (tt := tYes) (by rfl) sc_l_way.nd (pi_range1 (by rfl) B.range_ (pa_cons (pv 3) pa_nil)) (blkOk_by (own := [("_law_k", 4)]) (N := ["_law_cell_here", "_law_drawn", "_law_cap", "_law_many_here", "_law_k"]) (sc := (defScope s_l_way)) (by decide +kernel)) (fun _ _ _ _ _ => (pg_name (i := 4) sc_l_way.nd rfl (.inl rfl))) (fun _ _ _ _ _ => pts_nil) (fun _ _ _ _ _ => (pe_tup (pa_cons (pe_op op_add pe_int (pe_op op_mod (pe_ix (r := rIxL K) ix_list (pv 1) (pe_op op_add pe_int (pe_op op_mul pe_int (pv 4))) (fun _ _ => rfl)) (pv 2))) (pa_cons (pe_op op_add pe_int (pe_op op_mod (pe_ix (r := rIxL K) ix_list (pv 1) (pe_op op_add pe_int (pe_op op_mul pe_int (pv 4))) (fun _ _ => rfl)) (pv 2))) pa_nil)))))))))), ?_⟩
    refine ⟨_, rfl, by show 3 ≤ sizeLine; decide, fun l1 nl1 => ?_⟩
    refine ⟨_, rfl, by decide, by decide, fun D hD => lc_range (lo := 0) (n := 12) (Qd := _) (fun i H' => Sm T (upd H l1 (.lst [.int 6, .int 3, .int 3])) H' ∧ H' D = some (.lst (List.replicate i (V.int 9)))) ⟨same_upd hD, upd_same⟩ ?_ ?_⟩
    · rintro i H' hi ⟨sm, eD⟩
      refine ⟨rfl, tyes_i ?_⟩
      refine ⟨_, eD, by rw [List.length_replicate]; exact szl (by omega), same_mut sm hD eD, ?_⟩
      rw [upd_same, ← List.replicate_succ']
    · rintro H1 ⟨s1, e1⟩
      refine ⟨l1, D, _, _, rfl, rfl, s1.k upd_same, e1, by show 15 ≤ sizeLine; decide, fun l2 nl2 => ?_⟩
      refine ⟨c, l2, [6, 3, 3, 9, 9, 9, 9, 9, 9, 9, 9, 9, 9, 9, 9], rfl, SqL.of upd_same, by decide, by decide, fun p3 H3 ds s3 np3 e3 hd => ?_⟩
      have s03 : Sm T H H3 := (same_upd nl1).trans (s1.trans ((same_upd nl2).trans s3))
      obtain ⟨d0, g0, h00, h01⟩ := hd.get (i := 0) rfl
      obtain ⟨d1, g1, h10, h11⟩ := hd.get (i := 1) rfl
      obtain ⟨d2, g2, h20, h21⟩ := hd.get (i := 2) rfl
      refine ⟨by show 3 ≤ sizeLine; decide, fun l4 nl4 => ?_⟩
      have e4 := (same_upd (T := T) (o := HO.lst [V.int 9, V.int 3, V.int 5]) nl4).k e3
      have hcap : ∃ cap : Int, 1 ≤ cap ∧ cap ≤ 9 ∧ atI [V.int 9, V.int 3, V.int 5] d1 = some (.int cap) := by
        rcases (by omega : d1 = 0 ∨ d1 = 1 ∨ d1 = 2) with rfl | rfl | rfl
        · exact ⟨9, by omega, by omega, atI_nat (j := 0) rfl⟩
        · exact ⟨3, by omega, by omega, atI_nat (j := 1) rfl⟩
        · exact ⟨5, by omega, by omega, atI_nat (j := 2) rfl⟩
      obtain ⟨cap, c1, c9, hcap⟩ := hcap
      refine ⟨_, rfl, p3, _, 1, .int d1, rfl, rfl, SqL.of e4, at_map (i := 1) rfl g1, l4, _, _, _, rfl, rfl, SqL.of upd_same, hcap, ?_⟩
      refine ⟨_, rfl, p3, _, 0, .int d0, rfl, rfl, SqL.of e4, at_map (i := 0) rfl g0, _, _, rfl, rfl, ?_⟩
      refine ⟨_, rfl, p3, _, 0, .int d0, rfl, rfl, SqL.of e4, at_map (i := 0) rfl g0, _, _, rfl, rfl, (by show (0 : Int) < 3; decide), _, _, rfl, rfl, ?_⟩
      refine ⟨by show 3 ≤ sizeLine; decide, fun l5 nl5 => ?_⟩
      have e5 := (same_upd (T := T) (o := HO.lst [V.int (d0 + 1), V.int 1, V.int (1 + d0 % 3)]) nl5).k e4
      have hm : ∃ m : Nat, 1 ≤ m ∧ m ≤ 6 ∧ atI [V.int (d0 + 1), V.int 1, V.int (1 + d0 % 3)] d2 = some (.int (m : Int)) := by
        rcases (by omega : d2 = 0 ∨ d2 = 1 ∨ d2 = 2) with rfl | rfl | rfl
        · refine ⟨(d0 + 1).toNat, by omega, by omega, ?_⟩
          rw [Int.toNat_of_nonneg (by omega)]
          exact atI_nat (j := 0) rfl
        · exact ⟨1, by omega, by omega, atI_nat (j := 1) rfl⟩
        · refine ⟨(1 + d0 % 3).toNat, by omega, by omega, ?_⟩
          rw [Int.toNat_of_nonneg (by omega)]
          exact atI_nat (j := 2) rfl
      obtain ⟨m, m1, m6, hm⟩ := hm
      refine ⟨_, rfl, p3, _, 2, .int d2, rfl, rfl, SqL.of e5, at_map (i := 2) rfl g2, l5, _, _, _, rfl, rfl, SqL.of upd_same, hm, ?_⟩
      have s05 : Sm T H (upd (upd H3 l4 (.lst [V.int 9, V.int 3, V.int 5])) l5 (.lst [V.int (d0 + 1), V.int 1, V.int (1 + d0 % 3)])) := s03.trans ((same_upd nl4).trans (same_upd nl5))
      refine ⟨_, rfl, m, rfl, by omega, by omega, fun D2 hD2 => lc_range (lo := 0) (n := m) (Qd := _) (fun i H' => Sm T (upd (upd H3 l4 (.lst [V.int 9, V.int 3, V.int 5])) l5 (.lst [V.int (d0 + 1), V.int 1, V.int (1 + d0 % 3)])) H' ∧ ∃ us qs, H' D2 = some (.lst us) ∧ DpAll K H' us (qs.map amD) ∧ qs.length = i ∧ qs.all wOk = true) ⟨same_upd hD2, [], [], upd_same, .nil, rfl, rfl⟩ ?_ ?_⟩
      · rintro i H' hi ⟨sm, us, qs, eD2, hd2, hl, ha⟩
        have e6 : H' p3 = some (.lst (ds.map V.int)) := sm.k e5
        have hx : ∃ x, ds[3 + 2 * i]? = some x ∧ 0 ≤ x ∧ x < 9 := hd.get (q := 9) (by rcases (by omega : i = 0 ∨ i = 1 ∨ i = 2 ∨ i = 3 ∨ i = 4 ∨ i = 5) with rfl | rfl | rfl | rfl | rfl | rfl <;> rfl)
        have hy : ∃ x, ds[4 + 2 * i]? = some x ∧ 0 ≤ x ∧ x < 9 := hd.get (q := 9) (by rcases (by omega : i = 0 ∨ i = 1 ∨ i = 2 ∨ i = 3 ∨ i = 4 ∨ i = 5) with rfl | rfl | rfl | rfl | rfl | rfl <;> rfl)
        obtain ⟨x, gx, x0, x9⟩ := hx
        obtain ⟨y, gy, y0, y9⟩ := hy
        have hx0 := Int.emod_nonneg x (show cap ≠ 0 by omega)
        have hx1 := Int.emod_lt_of_pos x (show 0 < cap by omega)
        have hy0 := Int.emod_nonneg y (show cap ≠ 0 by omega)
        have hy1 := Int.emod_lt_of_pos y (show 0 < cap by omega)
        refine ⟨rfl, tyes_i ?_⟩
        refine ⟨_, rfl, _, rfl, _, _, rfl, rfl, .inl ⟨by decide, by decide⟩, _, _, rfl, rfl, p3, _, _, .int x, rfl, rfl, SqL.of e6, at_map (i := 3 + 2 * i) (by omega) gx, _, rfl, _, _, rfl, rfl, (by omega), _, _, rfl, rfl, ?_⟩
        refine ⟨_, rfl, _, rfl, _, _, rfl, rfl, .inl ⟨by decide, by decide⟩, _, _, rfl, rfl, p3, _, _, .int y, rfl, rfl, SqL.of e6, at_map (i := 4 + 2 * i) (by omega) gy, _, rfl, _, _, rfl, rfl, (by omega), _, _, rfl, rfl, ?_⟩
        refine ⟨by show 2 ≤ sizeLine; decide, fun t nt => ?_⟩
        have st := same_upd (T := T) (o := HO.tup (tv (1 + x % cap, 1 + y % cap))) nt
        have eD3 := st.k eD2
        have lu : us.length = i := by rw [dpa_len hd2, List.length_map, hl]
        refine ⟨us, eD3, szl (by omega), same_mut (sm.trans st) hD2 eD3, us ++ [.ref t], qs ++ [(1 + x % cap, 1 + y % cap)], upd_same, ?_, ?_, ?_⟩
        · refine pds_mut eD3 ?_
          rw [List.map_append]
          exact dpa_app (dpa_same st _ _ hd2) (.cons (tup_dp upd_same) .nil)
        · rw [List.length_append, hl]
          rfl
        · rw [List.all_append, ha, Bool.true_and, List.all_cons, List.all_nil, Bool.and_true]
          unfold wOk
          simp only [Bool.and_eq_true, decide_eq_true_eq]
          omega
      · rintro H6 ⟨s6, us, qs, eD2, hd2, hl, ha⟩
        have free : H D2 = none := s05.free _ hD2
        refine q D2 H6 us qs (s05.trans s6) free eD2 hd2 ?_
        unfold wayB
        rw [ha, hl, Bool.and_true, Bool.and_eq_true]
        exact ⟨decide_eq_true m1, decide_eq_true m6⟩

/-! ### the end of a law whose program raises, with tables of code objects -/
theorem walk_tabs {l : PySem.W.OpenLaw} {n k : Nat} {q : Program} {loose : List Str} {XP : (Str → Option Value) → Heap → Prop} {YP : World → Heap → Prop} {d : DefRec} {K : Params → PySem.W.Frag} {CX : World → CXT} {x : Str}
    (hn : l.most = some n) (hn2 : n ≤ sizeLine) (hdf : d.params.defaults = []) (hr : Room k callerA) (hY : ∀ (w : World) (h : Heap), YP w h → (K w.params).In h)
    (F : ∀ (w : World) (mg : Str → Option Value) (fa : Addr) (h : Heap), YP w h → (K w.params).In h → h.Ns mainGlobals mg → mg d.name = some (.ref fa) →
      (∀ (y : Str) (c P : Addr), ((recsOf q).any fun e => e.name == y) = true → PySem.W.tabIn (K w.params) y = some (c, P) → PySem.W.CodeHd h c P ∧ h.get? P = some { cls := .none, data := .fields #[] }) → LamX.LawAtS l w (K w.params) (CX w) k n x mg fa h)
    (hCX : ∀ (w : World) (H : Hp) (s : Shared) (e : Value) (s' : Shared), CX w [] H s (fun _ _ _ => False) e s' → False) :
    PySem.W.WalkO q loose XP YP l.row.toRowW d [] (fun f vs => PySem.call f vs) := by
  refine Att.attach_callB hn hdf fun w s₀ s₁ mg mb fa o pm cd doc a vs ns G Y ho hd hcd hmg hobj hints hlen hbits hg => ?_
  have KX := hY w _ Y
  have tabs : ∀ (y : Str) (c P : Addr), ((recsOf q).any fun e => e.name == y) = true → PySem.W.tabIn (K w.params) y = some (c, P) → PySem.W.CodeHd s₁.heap c P ∧ s₁.heap.get? P = some { cls := .none, data := .fields #[] } := fun y c P ha ht => by
    cases hf : (recsOf q).find? (fun e => e.name == y) with
    | none =>
      obtain ⟨e, he, hy⟩ := List.any_eq_true.mp ha
      exact absurd hy (List.find?_eq_none.mp hf e he)
    | some e => exact PySem.W.tab_of G.T KX hf ht
  obtain ⟨fd, cs, sp, hT, nT, C, hb, hsp, hF⟩ := F w mg fa _ Y KX G.T.g hmg tabs
  exact LamX.law_callTs KX G.T.g G.T.b G.T.builtins G.T.nolimit hg hT nT C G.T.bmain hobj hints (Nat.le_trans hlen hn2) hr hF hb (fun H hH hS => hsp H a ns hlen hbits hH hS) fun H e s' => hCX w H s₁ e s'
theorem tab_in {K : PySem.W.Frag} {y : Str} {f c P : Addr} {o : Obj} {fd : FuncData} {e : Value} {dd : Option Addr} {vs : Array Value} {sl : Array (Option Value)} (h1 : PySem.W.nsIn K mainGlobals y = some (some (.ref f))) (h2 : K.lookup f = some o) (h3 : o.data = .func fd) (h4 : fd.code = .ref c)
    (h5 : K.lookup c = some ⟨e, dd, .fields vs, sl⟩) (h6 : vs[11]? = some (.ref P)) : PySem.W.tabIn K y = some (c, P) := by
  obtain ⟨o1, o2, o3, o4⟩ := o
  obtain rfl : o3 = .func fd := h3
  unfold PySem.W.tabIn
  simp only [h1, h2, h4, h5, h6]
theorem okG0 {H : Hp} {P : Addr} (h : H P = some (.tbl #[])) : OkP H (P, none) := ⟨#[], h, by first | trivial | constructor⟩
theorem okS0 {H : Hp} {P : Addr} {q : Str} (h : H P = some (.tbl #[])) : OkP H (P, some q) := ⟨#[], h, by first | trivial | constructor, fun pos cv e => by cases e⟩
theorem tup_const {K : PySem.W.Frag} {a : Addr} {od : Option Addr} {xs : List V} {its : Array Value} {n : Nat} {sl : Array (Option Value)} (h : K.lookup a = some ⟨.type "tuple", od, .seq its n, sl⟩) (hs : its.size ≤ sizeLine) (hv : Vals xs its.toList) : ∀ H, SqT K H a xs := fun _ => .inr ⟨_, its, n, h, rfl, rfl, hs, hv⟩
theorem gx_lam {base : Heap} {mg : Str → Option Value} {c P : Addr} (h : LamX.TabB base mg c P) : GxR.TabB base mg c P := ⟨h.code, h.bm, h.gP⟩

theorem num_of {K : PySem.W.Frag} {f : Addr} {fd : FuncData} (F : Fun K "is_number" "is_number" s_p_is_number f fd) : NumAt K f := by
  obtain ⟨oc, od, kV, doc, pm, an, cdv, ct, osl, rfl, lk, hcg⟩ := F.ex
  exact ⟨oc, od, kV, doc, pm, an, cdv, ct, osl, _, _, _, _, _, _, _, _, _, _, _, _, lk, hcg⟩
theorem with_of {K : PySem.W.Frag} {f : Addr} {fd : FuncData} (F : Fun K "is_within" "is_within" s_p_is_within f fd) : WithAt K f := by
  obtain ⟨oc, od, kV, doc, pm, an, cdv, ct, osl, rfl, lk, hcg⟩ := F.ex
  exact ⟨oc, od, kV, doc, pm, an, cdv, ct, osl, _, _, _, _, _, _, _, _, _, _, _, _, lk, hcg⟩

def sp_l_gcd (K : PySem.W.Frag) (T : Tb) : Sp := fun vs H Q _ => ∃ a b : Nat, vs = [.int a, .int b] ∧ Q (.int (Nat.gcd a b : Nat)) H
theorem ok_l_gcd {f : Addr} {fd : FuncData} (F : Fun K "_law_gcd" "_law_gcd" s_l_gcd f fd) : FnOk P w K mg base CX0 1 f fd ["_law_one", "_law_other"] (sp_l_gcd K T) := by
  refine F.ok sc_l_gcd (fun vs H Q E h => ?_) (fun cdv A outer s H vs Q E hr h => ?_)
  · obtain ⟨a, b, rfl, _⟩ := h
    rfl
  · obtain ⟨a, b, rfl, q⟩ := h
    refine ⟨_, (pss_cons (ps_while PassesOwn.never (pt_cmpR op_gt (pv 1) pe_int (nomark _)) (pss_one (ps_par (i := 0) (j := 1) (by rfl) sc_l_gcd.nd rfl rfl (by decide) rfl rfl (pa_cons (pv 1) (pa_cons (pe_op op_mod (pv 0) (pv 1)) pa_nil)) (by rfl))))
      (pss_one (ps_ret (pv 0)))), ?_⟩
    refine while_by (fun σ H' => ∃ x y : Nat, σ = [some (.int x), some (.int y)] ∧ H' = H ∧ Nat.gcd x y = Nat.gcd a b) (fun σ _ => match σ with | [_, some (.int y)] => y.toNat | _ => 0) ⟨a, b, rfl, rfl, rfl⟩ ?_ ?_
    · rintro σ H' ⟨x, y, rfl, rfl, hg⟩
      refine ⟨_, rfl, _, _, rfl, rfl, _, rfl, ite2 (fun e => ?_) (fun e => ?_)⟩
      · have hy : 0 < y := by
          have : (0 : Int) < (y : Int) := of_decide_eq_true e
          omega
        refine ⟨_, rfl, _, rfl, _, rfl, _, _, rfl, rfl, (by show (0 : Int) < (y : Int); omega), _, _, rfl, ⟨y, x % y, ?_, rfl, ?_⟩, ?_⟩
        · show [some (V.int y), some (V.int ((x : Int) % (y : Int)))] = _
          rw [Int.natCast_emod]
        · rw [← hg, Nat.gcd_comm x y, Nat.gcd_rec y x, Nat.gcd_comm]
        · show ((x : Int) % (y : Int)).toNat < (y : Int).toNat
          rw [← Int.natCast_emod, Int.toNat_natCast, Int.toNat_natCast]
          exact Nat.mod_lt _ hy
      · have hy : y = 0 := by
          have : ¬ (0 : Int) < (y : Int) := fun z => e (decide_eq_true z)
          omega
        subst hy
        refine ⟨_, rfl, ?_⟩
        rw [← hg, Nat.gcd_zero_right] at q
        exact q
    · rintro σ H Q Q' m ⟨v, e, i, j, e1, e2, k, e3, q⟩
      exact ⟨v, e, i, j, e1, e2, k, e3, m _ _ q⟩

def sp_l_amt (K : PySem.W.Frag) (T : Tb) : Sp := fun vs H Q _ => ∃ n d : Int, vs = [.int n, .int d] ∧ 0 < d ∧ d.natAbs < 2 ^ 13500 ∧ n.natAbs < 2 ^ 13500 ∧ ∀ p H', Sm T H H' → H p = none → H' p = some (.tup (tv (amt n d))) → Q (.ref p) H'
theorem ok_l_amt {f : Addr} {fd : FuncData} (F : Fun K "_law_amt" "_law_amt" s_l_amt f fd) (B : Bn mg) (F_l_gcd : Fn P w K mg base 1 "_law_gcd" ["_law_one", "_law_other"] (sp_l_gcd K T)) : FnOk P w K mg base CX0 2 f fd ["_law_num", "_law_den"] (sp_l_amt K T) := by
  refine F.ok sc_l_amt (fun vs H Q E h => ?_) (fun cdv A outer s H vs Q E hr h => ?_)
  · obtain ⟨n, d, rfl, _⟩ := h
    rfl
  · obtain ⟨n, d, rfl, hd, hb, hn, q⟩ := h
    refine ⟨_, (pss_cons (ps_set (i := 2) sc_l_amt.nd rfl (.inl rfl) (pe_fn F_l_gcd (hr.mono (by decide)) (pa_cons (pe_callB call_abs (by rfl) B.abs_ (by decide +kernel) (pa_cons (pv 0) pa_nil)) (pa_cons (pv 1) pa_nil))))
      (pss_one (ps_ret (pe_tup (pa_cons (pe_op op_fdivP (pv 0) (pv 2)) (pa_cons (pe_op op_fdivP (pv 1) (pv 2)) pa_nil)))))), ?_⟩
    have hg : 0 < Nat.gcd n.natAbs d.natAbs := Nat.gcd_pos_of_pos_right _ (by omega)
    have e1 : (if n < 0 then -n else n) = (n.natAbs : Int) := by split <;> omega
    have e2 : d = (d.natAbs : Int) := by omega
    refine ⟨_, rfl, _, rfl, _, rfl, n.natAbs, d.natAbs, ?_, ?_⟩
    · show [V.int (if n < 0 then -n else n), V.int d] ++ [] = _
      rw [e1, ← e2]
      rfl
    · refine ⟨_, rfl, _, rfl, _, _, rfl, rfl, divP (by omega) hn, ?_⟩
      refine ⟨_, rfl, _, rfl, _, _, rfl, rfl, divP (by omega) hb, ?_⟩
      refine ⟨by show 2 ≤ sizeLine; decide, fun p hp => ?_⟩
      refine q p _ (same_upd hp) hp (upd_same.trans ?_)
      show some (HO.tup [V.int (n / ((Nat.gcd n.natAbs d.natAbs : Nat) : Int)), V.int (d / ((Nat.gcd n.natAbs d.natAbs : Nat) : Int))]) = some (HO.tup [V.int ((if d < 0 then -n else n) / ((Nat.gcd n.natAbs d.natAbs : Nat) : Int)), V.int ((d.natAbs : Int) / ((Nat.gcd n.natAbs d.natAbs : Nat) : Int))])
      rw [if_neg (by omega : ¬ d < 0), ← e2]

abbrev sp_l_add : PySem.W.Frag → Tb → Sp := spBin (fun x y => 0 < x.2 ∧ 0 < y.2) plusA
theorem ok_l_add {f : Addr} {fd : FuncData} (F : Fun K "_law_add" "_law_add" s_l_add f fd) (F_l_amt : Fn P w K mg base 2 "_law_amt" ["_law_num", "_law_den"] (sp_l_amt K T)) : FnOk P w K mg base CX0 3 f fd ["_law_one", "_law_other"] (sp_l_add K T) := by
  refine F.ok sc_l_add (fun vs H Q E h => ?_) (fun cdv A outer s H vs Q E hr h => ?_)
  · obtain ⟨a, b, x, y, rfl, _⟩ := h
    rfl
  · obtain ⟨a, b, x, y, rfl, ha, hb, ⟨bx, by_⟩, ⟨hx, hy⟩, q⟩ := h
    refine ⟨_, (pss_one (ps_ret (pe_fn F_l_amt (hr.mono (by decide)) (pa_cons (pe_op op_add (pe_op op_mulW (pe_ix ix_tup (pv 0) pe_int (fun _ _ => rfl)) (pe_ix ix_tup (pv 1) pe_int (fun _ _ => rfl))) (pe_op op_mulW (pe_ix ix_tup (pv 1) pe_int (fun _ _ => rfl)) (pe_ix ix_tup (pv 0) pe_int (fun _ _ => rfl)))) (pa_cons (pe_op op_mulW (pe_ix ix_tup (pv 0) pe_int (fun _ _ => rfl)) (pe_ix ix_tup (pv 1) pe_int (fun _ _ => rfl))) pa_nil))))), ?_⟩
    refine ⟨_, rfl, a, _, 0, .int x.1, rfl, rfl, ha, atI_nat (j := 0) rfl, _, rfl, b, _, 1, .int y.2, rfl, rfl, hb, atI_nat (j := 1) rfl, _, _, rfl, rfl, wm bx.1 by_.2, ?_⟩
    refine ⟨_, rfl, b, _, 0, .int y.1, rfl, rfl, hb, atI_nat (j := 0) rfl, _, rfl, a, _, 1, .int x.2, rfl, rfl, ha, atI_nat (j := 1) rfl, _, _, rfl, rfl, wm by_.1 bx.2, _, _, rfl, rfl, ?_⟩
    refine ⟨_, rfl, a, _, 1, .int x.2, rfl, rfl, ha, atI_nat (j := 1) rfl, _, rfl, b, _, 1, .int y.2, rfl, rfl, hb, atI_nat (j := 1) rfl, _, _, rfl, rfl, wm bx.2 by_.2, ?_⟩
    exact ⟨_, _, rfl, Int.mul_pos hx hy, wl bx.2 by_.2, wl2 bx.1 by_.2 by_.1 bx.2, q⟩

abbrev sp_l_sub : PySem.W.Frag → Tb → Sp := spBin (fun x y => 0 < x.2 ∧ 0 < y.2) minusA
theorem ok_l_sub {f : Addr} {fd : FuncData} (F : Fun K "_law_sub" "_law_sub" s_l_sub f fd) (F_l_amt : Fn P w K mg base 2 "_law_amt" ["_law_num", "_law_den"] (sp_l_amt K T)) : FnOk P w K mg base CX0 3 f fd ["_law_one", "_law_other"] (sp_l_sub K T) := by
  refine F.ok sc_l_sub (fun vs H Q E h => ?_) (fun cdv A outer s H vs Q E hr h => ?_)
  · obtain ⟨a, b, x, y, rfl, _⟩ := h
    rfl
  · obtain ⟨a, b, x, y, rfl, ha, hb, ⟨bx, by_⟩, ⟨hx, hy⟩, q⟩ := h
    refine ⟨_, (pss_one (ps_ret (pe_fn F_l_amt (hr.mono (by decide)) (pa_cons (pe_op op_sub (pe_op op_mulW (pe_ix ix_tup (pv 0) pe_int (fun _ _ => rfl)) (pe_ix ix_tup (pv 1) pe_int (fun _ _ => rfl))) (pe_op op_mulW (pe_ix ix_tup (pv 1) pe_int (fun _ _ => rfl)) (pe_ix ix_tup (pv 0) pe_int (fun _ _ => rfl)))) (pa_cons (pe_op op_mulW (pe_ix ix_tup (pv 0) pe_int (fun _ _ => rfl)) (pe_ix ix_tup (pv 1) pe_int (fun _ _ => rfl))) pa_nil))))), ?_⟩
    refine ⟨_, rfl, a, _, 0, .int x.1, rfl, rfl, ha, atI_nat (j := 0) rfl, _, rfl, b, _, 1, .int y.2, rfl, rfl, hb, atI_nat (j := 1) rfl, _, _, rfl, rfl, wm bx.1 by_.2, ?_⟩
    refine ⟨_, rfl, b, _, 0, .int y.1, rfl, rfl, hb, atI_nat (j := 0) rfl, _, rfl, a, _, 1, .int x.2, rfl, rfl, ha, atI_nat (j := 1) rfl, _, _, rfl, rfl, wm by_.1 bx.2, _, _, rfl, rfl, ?_⟩
    refine ⟨_, rfl, a, _, 1, .int x.2, rfl, rfl, ha, atI_nat (j := 1) rfl, _, rfl, b, _, 1, .int y.2, rfl, rfl, hb, atI_nat (j := 1) rfl, _, _, rfl, rfl, wm bx.2 by_.2, ?_⟩
    exact ⟨_, _, rfl, Int.mul_pos hx hy, wl bx.2 by_.2, wl3 bx.1 by_.2 by_.1 bx.2, q⟩

theorem wlk {i k : Int} (hi : i.natAbs < 2 ^ 6650) (hk : -(2 ^ 64) < k ∧ k < 2 ^ 64) : (i * k).natAbs < 2 ^ 13500 := by
  have h1 : (i * k).natAbs < 2 ^ (6650 + 64) := wide_lt hi (by omega)
  exact Nat.lt_trans h1 (Nat.pow_lt_pow_right (by decide) (by decide))
def sp_l_mul (K : PySem.W.Frag) (T : Tb) : Sp := fun vs H Q _ => ∃ a x k, vs = [.ref a, .int k] ∧ SqT K H a (tv x) ∧ Bd 6650 x ∧ (-(2 ^ 64) < k ∧ k < 2 ^ 64) ∧ 0 < x.2 ∧
  ∀ p H', Sm T H H' → H p = none → H' p = some (.tup (tv (amt (x.1 * k) x.2))) → Q (.ref p) H'
theorem ok_l_mul {f : Addr} {fd : FuncData} (F : Fun K "_law_mul" "_law_mul" s_l_mul f fd) (F_l_amt : Fn P w K mg base 2 "_law_amt" ["_law_num", "_law_den"] (sp_l_amt K T)) : FnOk P w K mg base CX0 3 f fd ["_law_one", "_law_number"] (sp_l_mul K T) := by
  refine F.ok sc_l_mul (fun vs H Q E h => ?_) (fun cdv A outer s H vs Q E hr h => ?_)
  · obtain ⟨a, x, k, rfl, _⟩ := h
    rfl
  · obtain ⟨a, x, k, rfl, ha, bx, hk, hx, q⟩ := h
    refine ⟨_, (pss_one (ps_ret (pe_fn F_l_amt (hr.mono (by decide)) (pa_cons (pe_op op_mul (pe_ix ix_tup (pv 0) pe_int (fun _ _ => rfl)) (pv 1)) (pa_cons (pe_ix ix_tup (pv 0) pe_int (fun _ _ => rfl)) pa_nil))))), ?_⟩
    refine ⟨_, rfl, a, _, 0, .int x.1, rfl, rfl, ha, atI_nat (j := 0) rfl, _, rfl, _, _, rfl, rfl, .inr hk, ?_⟩
    refine ⟨_, rfl, a, _, 1, .int x.2, rfl, rfl, ha, atI_nat (j := 1) rfl, ?_⟩
    exact ⟨_, _, rfl, hx, Nat.lt_trans bx.2 (Nat.pow_lt_pow_right (by decide) (by decide)), wlk bx.1 hk, q⟩

/-! ### deeds -/
inductive Deed
  | enter (n : Str) (p : Int)
  | call (n : Str)
  | stay (n : Str)
  | swap (n : Str)
  | pace (n : Str) (p : Int)
def Deed.nm : Deed → Str
  | .enter n _ | .call n | .stay n | .swap n | .pace n _ => n
def Deed.wd : Deed → Str
  | .enter .. => "enter"
  | .call _ => "call"
  | .stay _ => "stay"
  | .swap _ => "swap"
  | .pace .. => "pace"
def Deed.vs : Deed → List V
  | .enter n p => [.str "enter", .str n, .int p]
  | .call n => [.str "call", .str n]
  | .stay n => [.str "stay", .str n]
  | .swap n => [.str "swap", .str n]
  | .pace n p => [.str "pace", .str n, .int p]
def Deed.no (s : Ch) : Deed → Option Str
  | .enter n p => enterW s n p
  | .call n => callW s n
  | .stay n => stayW s n
  | .swap n => swapW s n
  | .pace n p => paceW s n p
def Deed.to (s : Ch) : Deed → Ch
  | .enter n p => enterS s n p
  | .call n => callS s n
  | .stay n => stayS s n
  | .swap n => swapS s n
  | .pace n p => paceS s n p
theorem swapL_cut {l : List Str} {i : Nat} (h : i + 1 < l.length) : swapL l i = l.take i ++ [l.getD (i + 1) "", l.getD i ""] ++ l.drop (i + 2) := by
  unfold swapL
  apply List.ext_getElem?
  intro j
  rw [List.getElem?_append, List.getElem?_append, List.getElem?_set, List.getElem?_set, List.length_set]
  simp only [List.length_append, List.length_take, List.length_cons, List.length_nil, List.getElem?_drop, List.getElem?_take]
  rcases (by omega : j < i ∨ j = i ∨ j = i + 1 ∨ i + 1 < j) with z | z | z | z
  · rw [if_neg (by omega), if_neg (by omega), if_pos (by omega), if_pos (by omega), if_pos z]
  · subst z
    rw [if_neg (by omega), if_pos rfl, if_pos (by omega), if_pos (by omega), if_neg (by omega), show j - min j l.length = 0 by omega]
    rfl
  · subst z
    rw [if_pos rfl, if_pos (by omega), if_pos (by omega), if_neg (by omega), show i + 1 - min i l.length = 1 by omega]
    rfl
  · rw [if_neg (by omega), if_neg (by omega), if_neg (by omega)]
    congr 1
    omega
theorem mem_swapL {l : List Str} {i : Nat} (h : i + 1 < l.length) {x : Str} (hx : x ∈ swapL l i) : x ∈ l := by
  rw [swapL_cut h, List.mem_append, List.mem_append] at hx
  rcases hx with (z | z) | z
  · exact List.mem_of_mem_take z
  · rcases List.mem_cons.mp z with z | z
    · rw [z]; exact getD_mem (by omega)
    · rw [List.mem_singleton.mp z]; exact getD_mem (by omega)
  · exact List.mem_of_mem_drop z
theorem sN (a b : Str) (h : a ≠ b) : decide (V.str a = V.str b) = false := decide_eq_false fun z => h (V.str.inj z)
theorem mem_gone {l : List Str} (nd : l.Nodup) {n x : Str} : x ∈ l.eraseIdx (l.idxOf n) ↔ x ≠ n ∧ x ∈ l := by
  rw [← List.erase_eq_eraseIdx_of_idxOf rfl]
  exact nd.mem_erase_iff
theorem ifY {b : Bool} {A B : Prop} (h : b = true) (x : A) : if b = true then A else B := by rw [if_pos h]; exact x
theorem ifN {b : Bool} {A B : Prop} (h : b = false) (x : B) : if b = true then A else B := by rw [if_neg (by rw [h]; exact Bool.false_ne_true)]; exact x

/-! ### deeds of all kinds, and what comes of them -/
inductive Deal
  | sm (D : Deed)
  | go (h : Rat)
  | outs (n : Int)
def DealV (K : PySem.W.Frag) (H : Hp) (ws : List V) : Deal → Prop
  | .sm D => ws = Deed.vs D
  | .go h => ∃ hp, ws = [.str "go", .ref hp] ∧ SqT K H hp (tv (am h))
  | .outs n => ws = [.str "outs", .int n]
def DealAt (K : PySem.W.Frag) (H : Hp) (d : Addr) (X : Deal) : Prop := ∃ ws, SqT K H d ws ∧ DealV K H ws X
theorem DealAt.sx {T : Tb} {S : List Addr} {K : PySem.W.Frag} {H H' : Hp} {d : Addr} {X : Deal} (e : Sx T S H H') (h : DealAt K H d X) : DealAt K H' d X := by
  obtain ⟨ws, h1, h2⟩ := h
  refine ⟨ws, e.tup h1, ?_⟩
  cases X with
  | sm D => exact h2
  | outs n => exact h2
  | go h =>
    obtain ⟨hp, e1, e2⟩ := h2
    exact ⟨hp, e1, e.tup e2⟩
/-- a deed that may be asked -/
def DealOk : Deal → Prop
  | .sm D => D.nm.length ≤ 1000
  | .go h => Bd 6650 (am h)
  | .outs _ => True
def DoNo (s : Ch) (wd : Str) : Deal → Prop
  | .sm D => Deed.no s D = some wd
  | .go h => (hoursB (am h) = false ∧ wd = "bad time") ∨ (hoursB (am h) = true ∧ GoX s h ∧ wd = "too long")
  | .outs n => (outsB n = false ∧ wd = "bad count") ∨ (outsB n = true ∧ s.row = [] ∧ wd = "nobody")
def tdS (s : Ch) : Deed → PyData
  | .enter _ _ => .int s.marks.length
  | _ => .none
def DoOk (s s' : Ch) (td : PyData) : Deal → Prop
  | .sm D => Deed.no s D = none ∧ s' = Deed.to s D ∧ td = tdS s D
  | .go h => hoursB (am h) = true ∧ ∃ rows, GoR s h s' rows ∧ td = .list (rows.map gwD) ∧ rows.length ≤ 200
  | .outs n => outsB n = true ∧ s.row ≠ [] ∧ ∃ rows, OuR s n.toNat s' rows ∧ td = .list (rows.map gwD) ∧ rows.length ≤ 200
theorem do_det {s s1 s2 : Ch} {t1 t2 : PyData} {X : Deal} (a : DoOk s s1 t1 X) (b : DoOk s s2 t2 X) : s1 = s2 ∧ t1 = t2 := by
  cases X with
  | sm D => exact ⟨a.2.1.trans b.2.1.symm, a.2.2.trans b.2.2.symm⟩
  | go h =>
    obtain ⟨_, r1, g1, e1, _⟩ := a
    obtain ⟨_, r2, g2, e2, _⟩ := b
    obtain ⟨e3, e4⟩ := goR_det g1 g2
    exact ⟨e3, by rw [e1, e2, e4]⟩
  | outs n =>
    obtain ⟨_, _, r1, g1, e1, _⟩ := a
    obtain ⟨_, _, r2, g2, e2, _⟩ := b
    obtain ⟨e3, e4⟩ := ouR_det g1 g2
    exact ⟨e3, by rw [e1, e2, e4]⟩
theorem do_not {s s1 : Ch} {t1 : PyData} {wd : Str} {X : Deal} (a : DoOk s s1 t1 X) (b : DoNo s wd X) : False := by
  cases X with
  | sm D =>
    have b : Deed.no s D = some wd := b
    rw [a.1] at b
    cases b
  | go h =>
    obtain ⟨a1, r1, g1, _, _⟩ := a
    rcases b with ⟨b1, _⟩ | ⟨b1, b2, _⟩
    · rw [a1] at b1; cases b1
    · exact goR_x g1 b2
  | outs n =>
    obtain ⟨a1, a2, _⟩ := a
    rcases b with ⟨b1, _⟩ | ⟨b1, b2, _⟩
    · rw [a1] at b1; cases b1
    · exact a2 b2
theorem no_det {s : Ch} {w1 w2 : Str} {X : Deal} (a : DoNo s w1 X) (b : DoNo s w2 X) : w1 = w2 := by
  cases X with
  | sm D =>
    have a : Deed.no s D = some w1 := a
    have b : Deed.no s D = some w2 := b
    rw [a] at b
    exact Option.some.inj b
  | go h =>
    rcases a with ⟨a1, a2⟩ | ⟨a1, a2, a3⟩ <;> rcases b with ⟨b1, b2⟩ | ⟨b1, b2, b3⟩
    · rw [a2, b2]
    · rw [a1] at b1; cases b1
    · rw [a1] at b1; cases b1
    · rw [a3, b3]
  | outs n =>
    rcases a with ⟨a1, a2⟩ | ⟨a1, a2, a3⟩ <;> rcases b with ⟨b1, b2⟩ | ⟨b1, b2, b3⟩
    · rw [a2, b2]
    · rw [a1] at b1; cases b1
    · rw [a1] at b1; cases b1
    · rw [a3, b3]
/-- hours that are let by -/
theorem hours_fr {h : Rat} (e : hoursB (am h) = true) : 0 ≤ h ∧ h ≤ 60 ∧ (am h).2 ≤ 60 := by
  unfold hoursB at e
  rw [Bool.and_eq_true, Bool.and_eq_true] at e
  obtain ⟨⟨e1, e2⟩, e3⟩ := e
  rw [← am_zero, below_am] at e1
  have e60 : ((60, 1) : Am) = am 60 := (am_int 60).symm
  rw [e60, below_am] at e2
  refine ⟨?_, ?_, of_decide_eq_true e3⟩
  · exact Rat.not_lt.mp fun z => by rw [decide_eq_true z] at e1; cases e1
  · exact Rat.not_lt.mp fun z => by rw [decide_eq_true z] at e2; cases e2
theorem Gb.up {k i j : Nat} {D : Int} {s : Ch} (b : Gb k i D s) (h : i ≤ j) : Gb k j D s :=
  ⟨⟨b.hD.1, pw5_le b.hD.2 (by omega)⟩, Rat.le_trans b.nw (Rat.intCast_le_intCast.mpr (by omega)), fun m hm => by have := b.mm m hm; omega, Nat.le_trans b.gl h, Nat.le_trans b.tl h⟩
/-- hours told in parts: a greater lower number -/
theorem stg_go {k i : Nat} {D : Int} {s : Ch} {h : Rat} (st : StG k i D s) (e : hoursB (am h) = true) : ∃ D', StG k (i + 1) D' s ∧ Fr D' h ∧ 0 ≤ h ∧ h ≤ 60 := by
  obtain ⟨h0, h60, hd⟩ := hours_fr e
  have hp := am_pos h
  have q1 : 1 ≤ (am h).2 := by omega
  have b := st.gb
  have hD := b.hD.1
  refine ⟨D * (am h).2, ⟨st.gi.scale hD q1, st.lt, ⟨⟨Int.mul_pos hD hp, ?_⟩, Rat.le_trans b.nw (Rat.intCast_le_intCast.mpr (by omega)), fun m hm => by have := b.mm m hm; omega, by have := b.gl; omega, by have := b.tl; omega⟩⟩, ?_, h0, h60⟩
  · exact pw5_le (pw5_mul (m := 63) (c := 30) b.hD.2 (show (am h).2.natAbs ≤ 63 by omega) (by decide)) (by omega)
  · have e2 : Fr (D * (am h).2) (vl (am h)) := Fr.of (n := (am h).1) (by omega) (show D ≠ 0 by omega) (Int.mul_comm _ _)
    rwa [vl_am] at e2
/-- small deeds keep it -/
theorem stg_sm {k i : Nat} {D : Int} {s : Ch} {X : Deed} (st : StG k i D s) (e : Deed.no s X = none) : StG k (i + 1) D (Deed.to s X) ∧ (Deed.to s X).poured = s.poured ∧ (Deed.to s X).fire = s.fire ∧ (Deed.to s X).way = s.way ∧ tsOf (Deed.to s X) = tsOf s ++ (match X with
  | .enter _ _ => [[]]
  | _ => []) := by
  have hD : D ≠ 0 := by have := st.gb.hD.1; omega
  have fin : ∀ s', Kp D s s' → StG k (i + 1) D s' ∧ s'.poured = s.poured ∧ s'.fire = s.fire ∧ s'.way = s.way := fun s' kp => by
    have b := st.gb
    exact ⟨⟨kp.gi, kp.lt st.lt, ⟨⟨b.hD.1, pw5_le b.hD.2 (by omega)⟩, by rw [kp.nw]; exact Rat.le_trans b.nw (Rat.intCast_le_intCast.mpr (by omega)), fun m hm => by have := kp.mm _ b.mm m hm; rw [kp.po]; omega, Nat.le_trans kp.gl (by have := b.gl; omega), Nat.le_trans kp.tl (by have := b.tl; omega)⟩⟩, kp.po, kp.fi, kp.wy⟩
  cases X with
  | enter n p => obtain ⟨kp, et⟩ := st.gi.enter hD e; obtain ⟨a, b, c, d⟩ := fin _ kp; exact ⟨a, b, c, d, et⟩
  | call n => obtain ⟨kp, et⟩ := st.gi.call e; obtain ⟨a, b, c, d⟩ := fin _ kp; exact ⟨a, b, c, d, et.trans (List.append_nil _).symm⟩
  | stay n => obtain ⟨kp, et⟩ := st.gi.stay n; obtain ⟨a, b, c, d⟩ := fin _ kp; exact ⟨a, b, c, d, et.trans (List.append_nil _).symm⟩
  | swap n => obtain ⟨kp, et⟩ := st.gi.swap e; obtain ⟨a, b, c, d⟩ := fin _ kp; exact ⟨a, b, c, d, et.trans (List.append_nil _).symm⟩
  | pace n p => obtain ⟨kp, et⟩ := st.gi.pace e; obtain ⟨a, b, c, d⟩ := fin _ kp; exact ⟨a, b, c, d, et.trans (List.append_nil _).symm⟩
/-- one deed more -/
theorem stg_do {k i : Nat} {D : Int} {s s' : Ch} {td : PyData} {X : Deal} (st : StG k i D s) (ok : DoOk s s' td X) : (∃ k' D', StG k' (i + 1) D' s' ∧ k' ≤ k + 8 * (s'.poured.length - s.poured.length) + 8 ∧ k' ≤ k + 488) ∧ s'.fire = s.fire ∧ s'.way = s.way ∧ s.poured.length ≤ s'.poured.length ∧ s'.poured.length ≤ s.poured.length + 67 := by
  cases X with
  | sm X =>
    obtain ⟨e, rfl, _⟩ := ok
    obtain ⟨a, b, c, d, _⟩ := stg_sm st e
    exact ⟨⟨k, D, a, by omega, by omega⟩, c, d, by rw [b]; exact Nat.le_refl _, by rw [b]; omega⟩
  | go h =>
    obtain ⟨e, rows, g, _, _⟩ := ok
    obtain ⟨D', st', hh⟩ := stg_go st e
    have f := goR_facts st' st.gb.nw hh g
    obtain ⟨k', D2, st2, hk⟩ := f.st
    have po := f.po
    exact ⟨⟨k', D2, st2, hk, by omega⟩, f.fi, f.wy, f.po.1, by omega⟩
  | outs n =>
    obtain ⟨e, hne, rows, g, _, _⟩ := ok
    have f := ouR_facts st g
    obtain ⟨k', D', st', hk, hk2⟩ := f.st
    unfold outsB at e
    rw [Bool.and_eq_true] at e
    have n60 := of_decide_eq_true e.2
    exact ⟨⟨k', D', ⟨st'.gi, st'.lt, st'.gb.up (Nat.le_succ i)⟩, hk, by omega⟩, f.fi, f.wy, f.po.1, by have := f.po.2; omega⟩
/-- room to draw one more deed -/
structure RmD (k i : Nat) (s : Ch) : Prop where
  k : 18 * k + 30 * i ≤ 32300
  i : i ≤ 99
  p : s.poured.length ≤ 1000
/-- room for one more deed -/
structure RmG (X : Deal) (k i : Nat) (s : Ch) : Prop where
  k : (∃ D, X = .sm D) ∨ 18 * k + 30 * i ≤ 23690
  i : i ≤ 99
  p : s.poured.length ≤ 1000

theorem nd_le : ∀ {l r : List Str}, l.Nodup → (∀ x ∈ l, x ∈ r) → l.length ≤ r.length
  | [], _, _, _ => Nat.zero_le _
  | x :: l, r, hn, hs => by
    have hx := hs x List.mem_cons_self
    have := nd_le (l := l) (r := r.erase x) (List.nodup_cons.mp hn).2 fun y hy => (List.mem_erase_of_ne (fun e => (List.nodup_cons.mp hn).1 (by rw [← e]; exact hy))).mpr (hs y (List.mem_cons_of_mem _ hy))
    rw [List.length_erase_of_mem hx] at this
    have : 0 < r.length := List.length_pos_of_mem hx
    show l.length + 1 ≤ _
    omega

/-! ### what is kept together with the common lower number -/
theorem rnf_step {k0 i : Nat} {D1 : Int} {s0 s1 s2 : Ch} {goal : Nat} {h0 l1 : Option Rat} {k1 : Nat} {rows1 rows2 : List Gw} (f : RnF k0 i s0 goal h0 k1 s1 l1 rows1 D1) (hne : s1.row ≠ []) (hm : MoreG s0 s1 goal l1) (it : ItG s1 (partG s1 l1) s2 rows2) : ∃ q : Int, 1 ≤ q ∧ q ≤ 12 ∧ Gi (D1 * q) s1 ∧ 0 < D1 * q ∧ Fr (D1 * q) (partG s1 l1) ∧ 0 < partG s1 l1 ∧ partG s1 l1 ≤ meetS s1 ∧ RnF k0 i s0 goal h0 (k1 + 1) s2 (restG s1 l1) (rows1 ++ rows2) (D1 * q) := by
  obtain ⟨q, q1, q12, mf, mp, m486⟩ := f.gi.meet f.gb.hD.1 hne f.lt
  have hD2 : 0 < D1 * q := Int.mul_pos f.gb.hD.1 (by omega)
  have g2 := f.gi.scale f.gb.hD.1 q1
  have b2 := f.gb.scale q1 q12
  have lo2 := ltOk_scale f.lo f.gb.hD.1 q1
  have pt : Fr (D1 * q) (partG s1 l1) ∧ 0 < partG s1 l1 ∧ partG s1 l1 ≤ meetS s1 := by
    cases l1 with
    | none => exact ⟨mf, mp, Rat.le_refl⟩
    | some l =>
      cases h0 with
      | none => exact f.lo.elim
      | some h0 =>
        show Fr (D1 * q) (mnR l (meetS s1)) ∧ 0 < mnR l (meetS s1) ∧ mnR l (meetS s1) ≤ meetS s1
        rcases mnR_or l (meetS s1) with e | e
        · exact ⟨by rw [e]; exact lo2.1, by rw [e]; exact hm.1, mnR_le_r _ _⟩
        · exact ⟨by rw [e]; exact mf, by rw [e]; exact mp, mnR_le_r _ _⟩
  have x := itG_facts it g2 (by omega) hne pt.1 (Rat.le_of_lt pt.2.1) pt.2.2
  obtain ⟨n, en, n8, rl, _, xmm⟩ := x.po
  have e490 : s2.now ≤ (((490 * (k0 + k1 + 1) + 60 * i : Nat) : Int) : Rat) := by
    rw [x.nw]
    have a := f.gb.nw
    have c := Rat.le_trans pt.2.2 m486
    have e : (((490 * (k0 + k1 + 1) + 60 * i : Nat) : Int) : Rat) = (((490 * (k0 + k1) + 60 * i : Nat) : Int) : Rat) + ((490 : Int) : Rat) := by
      rw [← Rat.intCast_add]
      congr 1
      omega
    rw [e]
    have d : ((490 : Int) : Rat) = 490 := rfl
    grind
  have sb : ∀ s : Ch, s.row.length ≤ 8 → stkN (pcs s) s.spots ≤ 7 := fun s h => by have := stk_le (pcs s) s.spots; rw [pcs_len] at this; omega
  have sb1 := sb s1 f.gi.sd.n8
  have sb2 := sb s2 x.gi.sd.n8
  have fpo := f.po
  have frl := f.rl
  have fmz := f.mz
  refine ⟨q, q1, q12, g2, hD2, pt.1, pt.2.1, pt.2.2, x.gi, x.lt, ⟨b2.hD, e490, fun m hm => ?_, by rw [x.gl]; exact f.gb.gl, Nat.le_trans x.tl f.gb.tl⟩, ?_, ⟨by omega, ?_⟩, by rw [x.fi, f.fi], by rw [x.wy, f.wy], by rw [List.length_append]; omega, ?_, f.nf.scale (by have := f.gb.hD.1; omega) (by omega), by rw [x.nw]; have a := f.mn; have b := Rat.le_of_lt pt.2.1; grind⟩
  · have := xmm _ f.gb.mm m hm
    omega
  · cases l1 with
    | none => cases h0 with
      | none => trivial
      | some h0 => exact f.lo.elim
    | some l => cases h0 with
      | none => exact f.lo.elim
      | some h0 =>
        refine ⟨lo2.1.sub pt.1, ?_, ?_, ?_⟩
        · have := mnR_le_l l (meetS s1); grind
        · have a : 0 ≤ mnR l (meetS s1) := Rat.le_of_lt pt.2.1
          have c := lo2.2.2.1
          grind
        · have c := lo2.2.2.2
          have d : s2.now = s1.now + mnR l (meetS s1) := x.nw
          grind
  · cases l1 with
    | none => cases h0 with
      | none => have hm : s1.poured.length < s0.poured.length + goal := hm; show _ ≤ _ + (goal + 7); omega
      | some h0 => exact f.lo.elim
    | some l => cases h0 with
      | none => exact f.lo.elim
      | some h0 => have hm := hm.2; show _ ≤ _ + 68; omega
  · have dec : mzG s0 s2 goal (restG s1 l1) + 1 ≤ mzG s0 s1 goal l1 := by
      cases l1 with
      | none =>
        have hm : s1.poured.length < s0.poured.length + goal := hm
        have sk := x.sk rfl
        show 8 * (s0.poured.length + goal - s2.poured.length) + (7 - stkN (pcs s2) s2.spots) + 1 ≤ 8 * (s0.poured.length + goal - s1.poured.length) + (7 - stkN (pcs s1) s1.spots)
        omega
      | some l =>
        obtain ⟨hl, hm⟩ := hm
        have ln : l ≠ 0 := fun z => by rw [z] at hl; exact absurd hl (by decide)
        show (if l - mnR l (meetS s1) = 0 then 0 else 1) + 8 * (s0.poured.length + 61 - s2.poured.length) + (7 - stkN (pcs s2) s2.spots) + 1 ≤ (if l = 0 then 0 else 1) + 8 * (s0.poured.length + 61 - s1.poured.length) + (7 - stkN (pcs s1) s1.spots)
        rw [if_neg ln]
        by_cases c : meetS s1 < l
        · have em : mnR l (meetS s1) = meetS s1 := if_pos c
          have sk := x.sk (show partG s1 (some l) = _ from em)
          rw [em]
          split <;> omega
        · have em : mnR l (meetS s1) = l := if_neg c
          rw [em, if_pos (by grind)]
          rcases Nat.eq_zero_or_pos n with z | z
          · have mono : stkN (pcs s1) s1.spots ≤ stkN (pcs s2) s2.spots := by
              obtain ⟨n', en', _, _, e0, _⟩ := x.po
              have e := e0 (by omega)
              rw [e]
              show _ ≤ stkN (pcs s1) (walkM (pcs s1) s1.spots (partG s1 (some l)))
              refine List.countP_mono_left fun j hj hh => stk_keep g2.wk (Rat.le_of_lt pt.2.1) pt.2.2 (by rw [List.mem_range] at hj; omega) hh
            omega
          · omega
    omega
structure InvE (P : Int → Ch → Prop) : Prop where
  scale : ∀ {D : Int} {s : Ch} {k : Int}, 0 < D → 1 ≤ k → P D s → P (D * k) s
  walk : ∀ {D : Int} {s : Ch} {t : Rat}, Gi D s → D ≠ 0 → s.row ≠ [] → Fr D t → 0 < t → t ≤ meetS s → P D s → P D (walkS s t)
  turn : ∀ {D : Int} {s : Ch}, Gi D s → s.row ≠ [] → s.spots.getD (s.row.length - 1) 0 = (s.fire : Rat) → P D s → P D (turnG s)
  gone : ∀ {D : Int} {s : Ch} {l : Rat}, P D s → P D (goneG s l)
  sm : ∀ {k i : Nat} {D : Int} {s : Ch} {X : Deed}, StG k i D s → Deed.no s X = none → P D s → P D (Deed.to s X)
section
variable {P : Int → Ch → Prop}
theorem InvE.tn (I : InvE P) {D : Int} {s s' : Ch} {n : Nat} {rows : List Gw} (h : P D s) (g : Gi D s) (t : TnG s n s' rows) : P D s' := by
  induction t with
  | refl => exact h
  | step t hne hl ih => exact I.turn (tnG_facts t g).gi hne hl ih
theorem InvE.rn (I : InvE P) {k0 i : Nat} {D : Int} {s0 : Ch} {goal : Nat} {h0 : Option Rat} (st : StG k0 i D s0) (hh : LeftOk D s0 s0 h0 h0) (h : P D s0) {k : Nat} {s : Ch} {l : Option Rat} {rows : List Gw} (r : RnG s0 goal h0 k s l rows) : ∃ D', RnF k0 i s0 goal h0 k s l rows D' ∧ P D' s := by
  induction r with
  | refl => exact ⟨D, ⟨st.gi, st.lt, st.gb, hh, ⟨Nat.le_refl _, Nat.le_add_right _ _⟩, rfl, rfl, Nat.zero_le _, by omega, st.gi.fn, Rat.le_refl⟩, h⟩
  | step r hne hm it ih =>
    obtain ⟨D1, f, p⟩ := ih
    obtain ⟨q, q1, q12, g2, hD2, pf, p0, pm, f2⟩ := rnf_step f hne hm it
    refine ⟨D1 * q, f2, ?_⟩
    obtain ⟨n, t, _⟩ := it
    exact I.tn (I.walk g2 (by omega) hne pf p0 pm (I.scale f.gb.hD.1 q1 p)) (g2.walk (by omega) hne pf (Rat.le_of_lt p0) pm) t
theorem InvE.go (I : InvE P) {k i : Nat} {D : Int} {s : Ch} {h : Rat} (st : StG k i D s) (p : P D s) (e : hoursB (am h) = true) : ∃ D', StG k (i + 1) D' s ∧ P D' s ∧ Fr D' h ∧ 0 ≤ h ∧ h ≤ 60 := by
  obtain ⟨h0, h60, hd⟩ := hours_fr e
  have hp := am_pos h
  have q1 : 1 ≤ (am h).2 := by omega
  have b := st.gb
  have hD := b.hD.1
  refine ⟨D * (am h).2, ⟨st.gi.scale hD q1, st.lt, ⟨⟨Int.mul_pos hD hp, ?_⟩, Rat.le_trans b.nw (Rat.intCast_le_intCast.mpr (by omega)), fun m hm => by have := b.mm m hm; omega, by have := b.gl; omega, by have := b.tl; omega⟩⟩, I.scale hD q1 p, ?_, h0, h60⟩
  · exact pw5_le (pw5_mul (m := 63) (c := 30) b.hD.2 (show (am h).2.natAbs ≤ 63 by omega) (by decide)) (by omega)
  · have e2 : Fr (D * (am h).2) (vl (am h)) := Fr.of (n := (am h).1) (by omega) (show D ≠ 0 by omega) (Int.mul_comm _ _)
    rwa [vl_am] at e2
theorem InvE.goR (I : InvE P) {k0 i : Nat} {D : Int} {s0 s : Ch} {h0 : Rat} {rows : List Gw} (st : StG k0 (i + 1) D s0) (p : P D s0) (hn : s0.now ≤ (((490 * k0 + 60 * i : Nat) : Int) : Rat)) (hh : Fr D h0 ∧ 0 ≤ h0 ∧ h0 ≤ 60) (a : GoR s0 h0 s rows) : ∃ k D', StG k (i + 1) D' s ∧ P D' s ∧ k ≤ k0 + 8 * (s.poured.length - s0.poured.length) + 8 := by
  obtain ⟨k, s1, l, ra, pa, ea, rfl⟩ := a
  have lo0 : LeftOk D s0 s0 (some h0) (some h0) := ⟨hh.1, hh.2.1, hh.2.2, rfl⟩
  obtain ⟨D', f, p1⟩ := I.rn st lo0 p ra
  have lo : Fr D' l ∧ 0 ≤ l ∧ l ≤ 60 ∧ s1.now + l = s0.now + h0 := f.lo
  have kb : k ≤ 8 * (s1.poured.length - s0.poured.length) + 8 := by
    have mz := f.mz
    have a : mzG s0 s0 0 (some h0) ≤ 8 * 61 + 8 := by
      show (if h0 = 0 then 0 else 1) + 8 * (s0.poured.length + 61 - s0.poured.length) + (7 - _) ≤ _
      split <;> omega
    have b : 8 * (s0.poured.length + 61 - s1.poured.length) ≤ mzG s0 s1 0 (some l) := by
      show _ ≤ (if l = 0 then 0 else 1) + 8 * (s0.poured.length + 61 - s1.poured.length) + (7 - _)
      omega
    have := f.po
    omega
  have b := f.gb
  refine ⟨k0 + k, D', ⟨f.gi.later lo.1 lo.2.1, f.lt, ⟨b.hD, ?_, b.mm, b.gl, b.tl⟩⟩, I.gone p1, by show _ ≤ k0 + 8 * (s1.poured.length - _) + 8; omega⟩
  show s1.now + l ≤ _
  rw [lo.2.2.2]
  have e : (((490 * k0 + 60 * i : Nat) : Int) : Rat) + ((60 : Int) : Rat) ≤ (((490 * (k0 + k) + 60 * (i + 1) : Nat) : Int) : Rat) := by
    rw [← Rat.intCast_add]
    exact Rat.intCast_le_intCast.mpr (by omega)
  have d : ((60 : Int) : Rat) = 60 := rfl
  have c2 := hh.2.2
  grind
theorem InvE.ouR (I : InvE P) {k0 i : Nat} {D : Int} {s0 s : Ch} {goal : Nat} {rows : List Gw} (st : StG k0 i D s0) (p : P D s0) (a : OuR s0 goal s rows) : ∃ k D', StG k i D' s ∧ P D' s ∧ k ≤ k0 + 8 * (s.poured.length - s0.poured.length) + 8 := by
  obtain ⟨k, ra, ea⟩ := a
  obtain ⟨D', f, p1⟩ := I.rn (h0 := none) st trivial p ra
  have kb : k ≤ 8 * (s.poured.length - s0.poured.length) + 8 := by
    have mz := f.mz
    have a : mzG s0 s0 goal none ≤ 8 * goal + 7 := by
      show 8 * (s0.poured.length + goal - s0.poured.length) + (7 - _) ≤ _
      omega
    have b : 8 * (s0.poured.length + goal - s.poured.length) ≤ mzG s0 s goal none := by
      show _ ≤ 8 * (s0.poured.length + goal - s.poured.length) + (7 - _)
      omega
    have := f.po
    omega
  exact ⟨k0 + k, D', ⟨f.gi, f.lt, f.gb⟩, p1, by omega⟩
theorem InvE.doing (I : InvE P) {k i : Nat} {D : Int} {s s' : Ch} {td : PyData} {X : Deal} (st : StG k i D s) (p : P D s) (ok : DoOk s s' td X) : ∃ k' D', StG k' (i + 1) D' s' ∧ P D' s' ∧ k' ≤ k + 8 * (s'.poured.length - s.poured.length) + 8 := by
  cases X with
  | sm X =>
    obtain ⟨e, rfl, _⟩ := ok
    exact ⟨k, D, (stg_sm st e).1, I.sm st e p, by omega⟩
  | go h =>
    obtain ⟨e, rows, g, _, _⟩ := ok
    obtain ⟨D', st', p', hh⟩ := I.go st p e
    exact I.goR st' p' st.gb.nw hh g
  | outs n =>
    obtain ⟨e, hne, rows, g, _, _⟩ := ok
    obtain ⟨k', D', st', p', hk⟩ := I.ouR st p g
    exact ⟨k', D', ⟨st'.gi, st'.lt, st'.gb.up (Nat.le_succ i)⟩, p', hk⟩
end

/-! ### data that is compared -/
theorem letB_le2 {c : Nat} (h : letB c = true) : c ≤ 122 := by
  unfold letB at h
  rw [Bool.and_eq_true] at h
  obtain ⟨_, h2⟩ := h
  rw [Bool.not_eq_true'] at h2
  have h3 := of_decide_eq_false h2
  refine Nat.not_lt.mp fun z => h3 ?_
  show [122] < [c]
  exact List.Lex.rel z
theorem name_str {n : Str} (h : nameB n = true) : PyData.strOk n = true := by
  unfold nameB at h
  rw [Bool.and_eq_true, List.all_eq_true] at h
  unfold PyData.strOk
  rw [← Array.all_toList, List.all_eq_true]
  intro x hx
  have := h.2 x hx
  have := letB_le2 this
  exact decide_eq_true (by omega)
def Sh (n : Nat) (d : PyData) : Prop := PyData.canLay0 d = true ∧ PyData.depth d ≤ n
theorem lays_all : ∀ {n : Nat} {ds : List PyData}, (∀ d ∈ ds, Sh n d) → PyData.canLayAll0 ds = true ∧ PyData.depthAll ds ≤ n
  | _, [], _ => by simp [PyData.canLayAll0, PyData.depthAll]
  | n, d :: ds, h => by
    obtain ⟨a, b⟩ := lays_all (ds := ds) fun x hx => h x (List.mem_cons_of_mem _ hx)
    obtain ⟨c, e⟩ := h d List.mem_cons_self
    refine ⟨?_, ?_⟩
    · simp only [PyData.canLayAll0, a, c, Bool.and_self]
    · simp only [PyData.depthAll]; omega
theorem Sh.lst {n : Nat} {ds : List PyData} (h : ∀ d ∈ ds, Sh n d) : Sh (n + 1) (.list ds) := by
  obtain ⟨a, b⟩ := lays_all h
  exact ⟨by simp only [PyData.canLay0]; exact a, by simp only [PyData.depth]; omega⟩
theorem Sh.tup {n : Nat} {ds : List PyData} (h : ∀ d ∈ ds, Sh n d) : Sh (n + 1) (.tuple ds) := by
  obtain ⟨a, b⟩ := lays_all h
  exact ⟨by simp only [PyData.canLay0]; exact a, by simp only [PyData.depth]; omega⟩
theorem Sh.mono {n m : Nat} {d : PyData} (h : Sh n d) (hm : n ≤ m) : Sh m d := ⟨h.1, Nat.le_trans h.2 hm⟩
theorem Sh.int {n : Nat} (i : Int) : Sh n (.int i) := ⟨by simp [PyData.canLay0], by simp [PyData.depth]⟩
theorem Sh.bool {n : Nat} (i : Bool) : Sh n (.bool i) := ⟨by simp [PyData.canLay0], by simp [PyData.depth]⟩
theorem Sh.none {n : Nat} : Sh n .none := ⟨by simp [PyData.canLay0], by simp [PyData.depth]⟩
theorem Sh.str {n : Nat} {x : Str} (h : PyData.strOk x = true) : Sh n (.str x) := ⟨by simp only [PyData.canLay0]; exact h, by simp [PyData.depth]⟩
theorem Sh.am {n : Nat} (x : Am) : Sh (n + 1) (amD x) := Sh.tup fun d hd => by
  simp only [List.mem_cons, List.not_mem_nil, or_false] at hd
  rcases hd with rfl | rfl <;> exact Sh.int _
theorem Sh.map {α : Type} {n : Nat} {f : α → PyData} {l : List α} (h : ∀ x ∈ l, Sh n (f x)) : ∀ d ∈ l.map f, Sh n d := fun d hd => by
  obtain ⟨x, hx, rfl⟩ := List.mem_map.mp hd
  exact h x hx
theorem Sh.ok {n : Nat} {d : PyData} (h : Sh n d) (hn : n ≤ 64) : SeqAt.shaped d = true := by
  unfold SeqAt.shaped
  rw [h.1, Bool.true_and]
  exact decide_eq_true (Nat.le_trans h.2 hn)
mutual
theorem eqv_self : ∀ d : PyData, PyData.canLay0 d = true → PyData.eqv d d = true
  | .none, _ => by simp [PyData.eqv]
  | .bool b, _ => by simp [PyData.eqv]
  | .int i, _ => by simp [PyData.eqv]
  | .str x, _ => by simp [PyData.eqv]
  | .list ds, h => by simp only [PyData.eqv]; exact eqvs_self ds (by simpa [PyData.canLay0] using h)
  | .tuple ds, h => by simp only [PyData.eqv]; exact eqvs_self ds (by simpa [PyData.canLay0] using h)
  | .dict kv, h => by simp [PyData.canLay0] at h
theorem eqvs_self : ∀ ds : List PyData, PyData.canLayAll0 ds = true → PyData.eqvAll ds ds = true
  | [], _ => by simp [PyData.eqvAll]
  | d :: ds, h => by
    simp only [PyData.canLayAll0, Bool.and_eq_true] at h
    simp only [PyData.eqvAll, eqv_self d h.1, eqvs_self ds h.2, Bool.and_self]
end
theorem Sh.ne {n : Nat} {d e : PyData} (h : Sh n d) (q : d = e) : (!PyData.eqv d e) = false := by
  rw [← q, eqv_self d h.1]
  rfl
theorem Sh.eq {n : Nat} {d e : PyData} (h : Sh n d) (q : d = e) : PyData.eqv d e = true := by
  rw [← q, eqv_self d h.1]
theorem dpas_strs {K : PySem.W.Frag} {H : Hp} : ∀ l : List Str, DpAll K H (l.map V.str) (l.map PyData.str)
  | [] => .nil
  | x :: l => .cons (.str _) (dpas_strs l)
theorem dpas_ints {K : PySem.W.Frag} {H : Hp} : ∀ l : List Int, DpAll K H (l.map V.int) (l.map PyData.int)
  | [] => .nil
  | x :: l => .cons (.int _) (dpas_ints l)
theorem dp_strL {K : PySem.W.Frag} {H : Hp} {a : Addr} {l : List Str} (h : SqL K H a (l.map V.str)) : Dp K H (.ref a) (.list (l.map PyData.str)) := .lst h (dpas_strs l)
theorem dp_intL {K : PySem.W.Frag} {H : Hp} {a : Addr} {l : List Int} (h : SqL K H a (l.map V.int)) : Dp K H (.ref a) (.list (l.map PyData.int)) := .lst h (dpas_ints l)
theorem Sh.strs {n : Nat} {l : List Str} (h : ∀ x ∈ l, nameB x = true) : Sh (n + 1) (.list (l.map PyData.str)) := Sh.lst (Sh.map fun x hx => Sh.str (name_str (h x hx)))
theorem Sh.ints {n : Nat} (l : List Int) : Sh (n + 1) (.list (l.map PyData.int)) := Sh.lst (Sh.map fun x _ => Sh.int x)

/-! ### dicts by names, of data -/
def DiL {α : Type} (f : α → PyData) (K : PySem.W.Frag) (H : Hp) (kvs : List (L2.Key × V)) (l : List (Str × α)) : Prop := kvs.map (·.1) = l.map (fun x => (Sum.inr x.1 : L2.Key)) ∧ DpAll K H (kvs.map (·.2)) (l.map fun x => f x.2)
section
variable {α : Type} {f : α → PyData} {K : PySem.W.Frag} {H : Hp}
theorem dil_val : ∀ {kvs : List (L2.Key × V)} {l : List (Str × α)}, DiL f K H kvs l → ∀ n : Str,
    (getL l n = none ∧ valV kvs (Sum.inr n) = none) ∨ ∃ x v, getL l n = some x ∧ valV kvs (Sum.inr n) = some v ∧ Dp K H v (f x)
  | [], [], _, n => .inl ⟨rfl, rfl⟩
  | [], _ :: _, h, n => by cases h.1
  | _ :: _, [], h, n => by cases h.1
  | kv :: kvs, x :: l, h, n => by
    obtain ⟨h1, h2⟩ := h
    rw [List.map_cons, List.map_cons] at h1 h2
    have e1 := (List.cons.inj h1).1
    have e2 := (List.cons.inj h1).2
    cases h2 with
    | cons d1 d2 =>
      unfold getL valV
      rw [List.find?_cons, List.find?_cons]
      by_cases hn : x.1 = n
      · rw [decide_eq_true hn, decide_eq_true (by rw [e1, hn])]
        exact .inr ⟨x.2, kv.2, rfl, rfl, d1⟩
      · rw [decide_eq_false hn, decide_eq_false (fun z => by rw [e1] at z; exact hn (inr_eq.mp z))]
        exact dil_val ⟨e2, d2⟩ n
theorem dil_any : ∀ {kvs : List (L2.Key × V)} {l : List (Str × α)}, DiL f K H kvs l → ∀ n : Str, (kvs.any fun kv => decide (kv.1 = Sum.inr n)) = l.any fun x => decide (x.1 = n)
  | [], [], _, n => rfl
  | [], _ :: _, h, n => by cases h.1
  | _ :: _, [], h, n => by cases h.1
  | kv :: kvs, x :: l, h, n => by
    obtain ⟨h1, h2⟩ := h
    rw [List.map_cons, List.map_cons] at h1 h2
    cases h2 with
    | cons d1 d2 =>
      rw [List.any_cons, List.any_cons, dil_any ⟨(List.cons.inj h1).2, d2⟩ n, (List.cons.inj h1).1]
      congr 1
      exact decide_eq_decide.mpr inr_eq
theorem dil_map {n : Str} {v : V} {x : α} (hv : Dp K H v (f x)) : ∀ {kvs : List (L2.Key × V)} {l : List (Str × α)}, DiL f K H kvs l →
    DiL f K H (kvs.map fun kv => if kv.1 = Sum.inr n then (kv.1, v) else kv) (l.map fun y => if y.1 = n then (y.1, x) else y)
  | [], [], _ => ⟨rfl, .nil⟩
  | [], _ :: _, h => by cases h.1
  | _ :: _, [], h => by cases h.1
  | kv :: kvs, y :: l, h => by
    obtain ⟨h1, h2⟩ := h
    rw [List.map_cons, List.map_cons] at h1 h2
    have e1 := (List.cons.inj h1).1
    cases h2 with
    | cons d1 d2 =>
      have ih := dil_map hv (n := n) ⟨(List.cons.inj h1).2, d2⟩
      by_cases hn : y.1 = n
      · have hk : kv.1 = Sum.inr n := by rw [e1, hn]
        refine ⟨?_, ?_⟩
        · rw [List.map_cons, List.map_cons, List.map_cons, List.map_cons, if_pos hk, if_pos hn, ih.1]
          exact congrArg (· :: _) e1
        · simp only [List.map_cons, if_pos hk, if_pos hn]
          exact .cons hv ih.2
      · have hk : kv.1 ≠ Sum.inr n := fun z => hn (inr_eq.mp (e1.symm.trans z))
        refine ⟨?_, ?_⟩
        · rw [List.map_cons, List.map_cons, List.map_cons, List.map_cons, if_neg hk, if_neg hn, ih.1]
          exact congrArg (· :: _) e1
        · simp only [List.map_cons, if_neg hk, if_neg hn]
          exact .cons d1 ih.2
theorem dil_put {kvs : List (L2.Key × V)} {l : List (Str × α)} (h : DiL f K H kvs l) {n : Str} {v : V} {x : α} (hv : Dp K H v (f x)) : DiL f K H (putK kvs (Sum.inr n) v) (putL l n x) := by
  unfold putK putL
  rw [dil_any h]
  split
  · exact dil_map hv h
  · refine ⟨?_, ?_⟩
    · rw [List.map_append, List.map_append, h.1]
      rfl
    · rw [List.map_append, List.map_append]
      exact dpa_app h.2 (.cons hv .nil)
theorem dil_len {kvs : List (L2.Key × V)} {l : List (Str × α)} (h : DiL f K H kvs l) : kvs.length = l.length := by
  have := congrArg List.length h.1
  rw [List.length_map, List.length_map] at this
  exact this
theorem DiL.sx {T : Tb} {S : List Addr} {H' : Hp} {n : Nat} (hn : ∀ x, noL n (f x) = true) (e : Sx T S H H') {kvs : List (L2.Key × V)} {l : List (Str × α)} (h : DiL f K H kvs l) : DiL f K H' kvs l := ⟨h.1, e.dps n _ _ (by rw [List.all_map]; exact List.all_eq_true.mpr fun x _ => hn x.2) h.2⟩
theorem DiL.sm {T : Tb} {H' : Hp} (e : Sm T H H') {kvs : List (L2.Key × V)} {l : List (Str × α)} (h : DiL f K H kvs l) : DiL f K H' kvs l := ⟨h.1, dpa_same e _ _ h.2⟩
end
theorem putL_len2 {α : Type} (l : List (Str × α)) (n : Str) (a : α) : l.length ≤ (putL l n a).length := by
  unfold putL
  split
  · rw [List.length_map]; exact Nat.le_refl _
  · rw [List.length_append]; omega

/-! ### ledgers while a chain goes -/
structure LedW (s0 s : Ch) (rows : List Gw) : Prop where
  keys : s.ledgers.map (·.1) = s0.ledgers.map (·.1)
  sub : ∀ n ∈ s.row, n ∈ s0.row
  no : ∀ n, n ∉ s0.row → getL s.ledgers n = getL s0.ledgers n ∧ ∀ r ∈ rows, r.2.1 = none → r.2.2 ≠ n
  yes : ∀ n ∈ s0.row, ∀ x0 p, getL s0.ledgers n = some x0 → getL s0.tempos n = some p → ∃ x, getL s.ledgers n = some x ∧ x.2.1 + x.2.2 - (x0.2.1 + x0.2.2) = (p : Rat) * (x.1 - x0.1) ∧ (n ∈ s.row → getL s.tempos n = some p ∧ x.1 - x0.1 = s.now - s0.now ∧ ∀ r ∈ rows, r.2.1 = none → r.2.2 ≠ n) ∧ (n ∉ s.row → ∃ t, (∃ r ∈ rows, r.2.1 = none ∧ r.2.2 = n) ∧ (∀ r ∈ rows, r.2.1 = none → r.2.2 = n → r.1 = t) ∧ x.1 - x0.1 = t - s0.now)
theorem LedW.refl (s : Ch) : LedW s s [] := ⟨rfl, fun _ h => h, fun n _ => ⟨rfl, fun _ h => nomatch h⟩, fun n hn x0 p e1 e2 => ⟨x0, e1, by grind, fun _ => ⟨e2, by grind, fun _ h => nomatch h⟩, fun z => absurd hn z⟩⟩
theorem LedW.walk {D : Int} {s0 s : Ch} {rows : List Gw} {t : Rat} (h : LedW s0 s rows) (g : Gi D s) : LedW s0 (walkS s t) rows := by
  refine ⟨(ledN_keys g.lr _ (Nat.le_refl _)).trans h.keys, h.sub, fun n hn => ?_, fun n hn x0 p e1 e2 => ?_⟩
  · have a := h.no n hn
    refine ⟨?_, a.2⟩
    have := ledN_get (s := s) (h := t) g.nd _ (Nat.le_refl _) n (fun j hj z => hn (h.sub n (by rw [← z]; exact getD_mem hj)))
    exact this.trans a.1
  · obtain ⟨x, ex, ed, ey, en⟩ := h.yes n hn x0 p e1 e2
    by_cases hm : n ∈ s.row
    · obtain ⟨j, hj, rfl⟩ := List.getElem_of_mem hm
      have a := ledN_at (s := s) (h := t) g.nd (Nat.le_refl _) (j := j) hj
      obtain ⟨ep, et, er⟩ := ey hm
      rw [getD_lt hj, ex] at a
      have epc : (pcs s).getD j 0 = p := by rw [pcs_get hj, getD_lt hj, ep]; rfl
      rw [epc] at a
      refine ⟨_, a, ?_, fun _ => ⟨ep, ?_, er⟩, fun z => absurd hm z⟩
      · show x.2.1 + _ * t + (x.2.2 + ((p - _ : Int) : Rat) * t) - _ = (p : Rat) * (x.1 + t - x0.1)
        rw [Rat.intCast_sub]
        grind
      · show x.1 + t - x0.1 = s.now + t - s0.now
        grind
    · have a := ledN_get (s := s) (h := t) g.nd _ (Nat.le_refl _) n (fun j hj z => hm (by rw [← z]; exact getD_mem hj))
      exact ⟨x, a.trans ex, ed, fun z => absurd z hm, fun _ => en hm⟩
theorem LedW.turn {D : Int} {s0 s : Ch} {rows : List Gw} (h : LedW s0 s rows) (g : Gi D s) (hne : s.row ≠ []) : LedW s0 (turnG s) (rows ++ rowsG s) := by
  obtain ⟨el, enow, _, _, _⟩ := turnG_all s
  cases hv : lvI s with
  | none =>
    obtain ⟨mk, e, _⟩ := turnG_none hv
    have er : (turnG s).row = s.row := by rw [e]
    have et : (turnG s).tempos = s.tempos := by rw [e]
    have nol : ∀ r ∈ rowsG s, r.2.1 ≠ none := fun r hr => by
      unfold rowsG at hr
      rw [hv] at hr
      rw [List.mem_singleton.mp hr]
      exact fun z => nomatch z
    have mem : ∀ r ∈ rows ++ rowsG s, r.2.1 = none → r ∈ rows := fun r hr z => (List.mem_append.mp hr).elim id fun y => absurd z (nol r y)
    refine ⟨by rw [el]; exact h.keys, fun n hn => h.sub n (er ▸ hn), fun n hn => ?_, fun n hn x0 p e1 e2 => ?_⟩
    · have a := h.no n hn
      exact ⟨by rw [el]; exact a.1, fun r hr z => a.2 r (mem r hr z) z⟩
    · obtain ⟨x, ex, ed, ey, en⟩ := h.yes n hn x0 p e1 e2
      refine ⟨x, by rw [el]; exact ex, ed, fun z => ?_, fun z => ?_⟩
      · rw [er] at z
        obtain ⟨a, b, c⟩ := ey z
        exact ⟨by rw [et]; exact a, by rw [enow]; exact b, fun r hr y => c r (mem r hr y) y⟩
      · rw [er] at z
        obtain ⟨t, ⟨r, hr, y1, y2⟩, b, c⟩ := en z
        exact ⟨t, ⟨r, List.mem_append_left _ hr, y1, y2⟩, fun r hr y => b r (mem r hr y) y, c⟩
  | some i =>
    obtain ⟨mk, e, _⟩ := turnG_some hv
    have hi := (lvI_some hv).1
    have er : (turnG s).row = s.row.eraseIdx i := by rw [e]
    have et : (turnG s).tempos = dropL s.tempos (s.row.getD i "") := by rw [e]
    have erow : rowsG s = [(s.now, some (s.loads.getD (s.row.length - 1) 0), s.row.getD (s.row.length - 1) ""), (s.now, none, s.row.getD i "")] := by
      unfold rowsG
      rw [hv]
    have mem : ∀ r ∈ rows ++ rowsG s, r.2.1 = none → r ∈ rows ∨ r = (s.now, none, s.row.getD i "") := fun r hr z => (List.mem_append.mp hr).imp id fun y => by
      rw [erow] at y
      simp only [List.mem_cons, List.not_mem_nil, or_false] at y
      rcases y with rfl | y
      · cases z
      · exact y
    have mrow := fun x => (mem_erase_ne g.nd hi (x := x))
    refine ⟨by rw [el]; exact h.keys, fun n hn => h.sub n ((mrow n).mp (er ▸ hn)).1, fun n hn => ?_, fun n hn x0 p e1 e2 => ?_⟩
    · have a := h.no n hn
      refine ⟨by rw [el]; exact a.1, fun r hr z => ?_⟩
      rcases mem r hr z with y | y
      · exact a.2 r y z
      · rw [y]
        exact fun w => hn (h.sub n (by rw [← w]; exact getD_mem hi))
    · obtain ⟨x, ex, ed, ey, en⟩ := h.yes n hn x0 p e1 e2
      refine ⟨x, by rw [el]; exact ex, ed, fun z => ?_, fun z => ?_⟩
      · rw [er, mrow] at z
        obtain ⟨a, b, c⟩ := ey z.1
        refine ⟨by rw [et, getL_drop z.2]; exact a, by rw [enow]; exact b, fun r hr y => ?_⟩
        rcases mem r hr y with w | w
        · exact c r w y
        · rw [w]
          exact fun v => z.2 v.symm
      · rw [er, mrow] at z
        by_cases hm : n ∈ s.row
        · have hn2 : n = s.row.getD i "" := Classical.byContradiction fun y => z ⟨hm, y⟩
          obtain ⟨a, b, c⟩ := ey hm
          refine ⟨s.now, ⟨(s.now, none, s.row.getD i ""), List.mem_append_right _ (by rw [erow]; simp), rfl, hn2.symm⟩, fun r hr y1 y2 => ?_, b⟩
          rcases mem r hr y1 with w | w
          · exact absurd y2 (c r w y1)
          · rw [w]
        · obtain ⟨t, ⟨r, hr, y1, y2⟩, b, c⟩ := en hm
          refine ⟨t, ⟨r, List.mem_append_left _ hr, y1, y2⟩, fun r hr y1 y2 => ?_, c⟩
          rcases mem r hr y1 with w | w
          · exact b r w y1 y2
          · rw [w] at y2
            exact absurd (by rw [← y2]; exact getD_mem hi) hm
theorem LedW.tn {D : Int} {s0 s s' : Ch} {rows rows' : List Gw} {n : Nat} (h : LedW s0 s rows) (g : Gi D s) (t : TnG s n s' rows') : LedW s0 s' (rows ++ rows') := by
  induction t with
  | refl => rw [List.append_nil]; exact h
  | step t hne hl ih =>
    rw [← List.append_assoc]
    exact ih.turn (tnG_facts t g).gi hne
theorem LedW.rn {k0 i : Nat} {D : Int} {s0 : Ch} (st : StG k0 i D s0) {goal : Nat} {h0 : Option Rat} (hh : LeftOk D s0 s0 h0 h0) {k : Nat} {s : Ch} {l : Option Rat} {rows : List Gw} (r : RnG s0 goal h0 k s l rows) : LedW s0 s rows := by
  induction r with
  | refl => exact LedW.refl _
  | step r hne hm it ih =>
    obtain ⟨D1, f⟩ := rnG_facts st.gi st.lt st.gb hh r
    obtain ⟨q, q1, q12, g2, hD2, pf, p0, pm, f2⟩ := rnf_step f hne hm it
    obtain ⟨n, t, _⟩ := it
    exact (ih.walk g2).tn (g2.walk (by omega) hne pf (Rat.le_of_lt p0) pm) t
theorem ledw_go {k0 i : Nat} {D : Int} {s0 s : Ch} {h0 : Rat} {rows : List Gw} (st : StG k0 i D s0) (hh : Fr D h0 ∧ 0 ≤ h0 ∧ h0 ≤ 60) (a : GoR s0 h0 s rows) : LedW s0 s rows := by
  obtain ⟨k, s1, l, ra, pa, ea, rfl⟩ := a
  have lo0 : LeftOk D s0 s0 (some h0) (some h0) := ⟨hh.1, hh.2.1, hh.2.2, rfl⟩
  have w := LedW.rn st lo0 ra
  obtain ⟨D', f⟩ := rnG_facts st.gi st.lt st.gb lo0 ra
  have lo : Fr D' l ∧ 0 ≤ l ∧ l ≤ 60 ∧ s1.now + l = s0.now + h0 := f.lo
  refine ⟨w.keys, w.sub, w.no, fun n hn x0 p e1 e2 => ?_⟩
  obtain ⟨x, ex, ed, ey, en⟩ := w.yes n hn x0 p e1 e2
  refine ⟨x, ex, ed, fun z => ?_, en⟩
  have z' : n ∈ s1.row := z
  obtain ⟨a1, a2, a3⟩ := ey z'
  have l0 : l = 0 := by
    rcases ea with y | y
    · rw [y] at z'; cases z'
    · have := lo.2.1; grind
  refine ⟨a1, ?_, a3⟩
  show x.1 - x0.1 = s1.now + l - s0.now
  rw [l0]
  grind

theorem name_inj2 {k l : Nat} {salt : Int} (hk : k < 676) (hl : l < 676) (h : nameF k salt = nameF l salt) : k = l := by
  obtain ⟨a, b, c, d, e, ha, hb, hc, hd⟩ := name_dr salt
  unfold nameF at h
  rw [e] at h
  have h : nmF a b c d k = nmF a b c d l := h
  have h2 : (nmF a b c d k).cps.toList = (nmF a b c d l).cps.toList := by rw [h]
  rw [nm_cps ha hb, nm_cps ha hb] at h2
  have h3 := List.append_cancel_left h2
  have h4 : 97 + ((7 * (k : Int) + d) % 26).toNat = 97 + ((7 * (l : Int) + d) % 26).toNat := (List.cons.inj h3).1
  have h5 : 97 + ((d + (k : Int) / 26) % 26).toNat = 97 + ((d + (l : Int) / 26) % 26).toNat := (List.cons.inj (List.cons.inj h3).2).1
  have e1 : (k : Int) % 26 = (l : Int) % 26 := by clear h5; omega
  have e2 : (k : Int) / 26 = (l : Int) / 26 := by
    have a1 : 0 ≤ (k : Int) / 26 ∧ (k : Int) / 26 < 26 := by omega
    have a2 : 0 ≤ (l : Int) / 26 ∧ (l : Int) / 26 < 26 := by omega
    clear h4 e1
    generalize (k : Int) / 26 = x at *
    generalize (l : Int) / 26 = y at *
    omega
  clear h4 h5
  omega
/-! ### who came when, who left when -/
def leftF (l : List (Str × Rat)) (r : Gw) : List (Str × Rat) := match r.2.1 with
  | none => putL l r.2.2 r.1
  | some _ => l
def leftsF (l : List (Str × Rat)) (rows : List Gw) : List (Str × Rat) := rows.foldl leftF l
theorem lefts_no {n : Str} : ∀ {rows : List Gw} {l : List (Str × Rat)}, (∀ r ∈ rows, r.2.1 = none → r.2.2 ≠ n) → getL (leftsF l rows) n = getL l n
  | [], _, _ => rfl
  | r :: rows, l, h => by
    show getL (leftsF (leftF l r) rows) n = _
    rw [lefts_no fun x hx => h x (List.mem_cons_of_mem _ hx)]
    unfold leftF
    split
    · rename_i e
      rw [getL_put, if_neg (h r List.mem_cons_self e)]
    · rfl
theorem lefts_yes {n : Str} {t : Rat} : ∀ {rows : List Gw} {l : List (Str × Rat)}, (getL l n = some t ∨ ∃ r ∈ rows, r.2.1 = none ∧ r.2.2 = n) → (∀ r ∈ rows, r.2.1 = none → r.2.2 = n → r.1 = t) → getL (leftsF l rows) n = some t
  | [], l, h, _ => h.elim id fun ⟨_, hr, _⟩ => nomatch hr
  | r :: rows, l, h, ha => by
    show getL (leftsF (leftF l r) rows) n = _
    refine lefts_yes ?_ fun x hx => ha x (List.mem_cons_of_mem _ hx)
    unfold leftF
    by_cases c : r.2.1 = none ∧ r.2.2 = n
    · left
      rw [c.1]
      dsimp only
      rw [getL_put, if_pos c.2, ha r List.mem_cons_self c.1 c.2]
    · rcases h with h | ⟨x, hx, h1, h2⟩
      · left
        split
        · rename_i e
          rw [getL_put, if_neg fun z => c ⟨e, z⟩]
          exact h
        · exact h
      · right
        rcases List.mem_cons.mp hx with z | z
        · exact absurd (z ▸ ⟨h1, h2⟩) c
        · exact ⟨x, z, h1, h2⟩
theorem putL_sub18 {α : Type} {l : List (Str × α)} {n x : Str} {a : α} (h : x ∈ (putL l n a).map (·.1)) : x ∈ l.map (·.1) ∨ x = n := by
  unfold putL at h
  split at h
  · left
    obtain ⟨y, hy, rfl⟩ := List.mem_map.mp h
    obtain ⟨z, hz, rfl⟩ := List.mem_map.mp hy
    split
    · exact List.mem_map.mpr ⟨z, hz, rfl⟩
    · exact List.mem_map.mpr ⟨z, hz, rfl⟩
  · rw [List.map_append] at h
    rcases List.mem_append.mp h with z | z
    · exact .inl z
    · exact .inr (List.mem_singleton.mp z)
theorem lefts_keys {n : Str} : ∀ {rows : List Gw} {l : List (Str × Rat)}, n ∈ (leftsF l rows).map (·.1) → n ∈ l.map (·.1) ∨ ∃ r ∈ rows, r.2.1 = none ∧ r.2.2 = n
  | [], _, h => .inl h
  | r :: rows, l, h => by
    have h : n ∈ (leftsF (leftF l r) rows).map (·.1) := h
    rcases lefts_keys h with z | ⟨x, hx, z⟩
    · unfold leftF at z
      split at z
      · rename_i e
        rcases putL_sub18 z with y | y
        · exact .inl y
        · exact .inr ⟨r, List.mem_cons_self, e, y.symm⟩
      · exact .inl z
    · exact .inr ⟨x, List.mem_cons_of_mem _ hx, z⟩
structure Std (z : Int) (n : Nat) (s : Ch) (cl : List (Str × (Rat × Int))) (lf : List (Str × Rat)) : Prop where
  ck : cl.map (·.1) = (List.range n).map fun i => nameF i z
  lk : s.ledgers.map (·.1) = cl.map (·.1)
  hr : ∀ y ∈ cl, 0 ≤ y.2.1 ∧ y.2.1 ≤ s.now
  lfk : ∀ x ∈ lf.map (·.1), x ∈ cl.map (·.1)
  st : ∀ y ∈ cl, ∃ x, getL s.ledgers y.1 = some x ∧ x.2.1 + x.2.2 = (y.2.2 : Rat) * x.1 ∧ (1 ≤ y.2.2 ∧ y.2.2 ≤ 12) ∧ (y.1 ∈ s.row → getL s.tempos y.1 = some y.2.2 ∧ x.1 = s.now - y.2.1 ∧ getL lf y.1 = none) ∧ (y.1 ∉ s.row → ∃ t, getL lf y.1 = some t ∧ x.1 = t - y.2.1)
section
variable {z : Int} {n : Nat} {s : Ch} {cl : List (Str × (Rat × Int))} {lf : List (Str × Rat)}
theorem std_new (L : Int) (qs : List Am) : Std z 0 (newS L qs) [] [] := ⟨rfl, rfl, fun _ h => (nomatch h), fun _ h => (nomatch h), fun _ h => nomatch h⟩
theorem Std.fresh (h : Std z n s cl lf) (hn : n < 600) : nameF n z ∉ cl.map (·.1) := fun y => by
  rw [h.ck] at y
  obtain ⟨i, hi, e⟩ := List.mem_map.mp y
  rw [List.mem_range] at hi
  have := name_inj2 (by omega) (by omega) e
  omega
theorem Std.name (h : Std z n s cl lf) : ∀ x ∈ cl.map (·.1), nameB x = true := fun x hx => by
  rw [h.ck] at hx
  obtain ⟨i, _, rfl⟩ := List.mem_map.mp hx
  exact (name_ok i z).1
theorem Std.len (h : Std z n s cl lf) : cl.length = n := by
  have := congrArg List.length h.ck
  rw [List.length_map, List.length_map, List.length_range] at this
  exact this
theorem Std.enter (h : Std z n s cl lf) {D : Int} (g : Gi D s) (hn : n < 600) {p : Int} (hp : 1 ≤ p ∧ p ≤ 12) (h8 : s.row.length < 8) : enterW s (nameF n z) p = none ∧ Std z (n + 1) (enterS s (nameF n z) p) (putL cl (nameF n z) (s.now, p)) lf := by
  have fr := h.fresh hn
  have frr : nameF n z ∉ s.row := fun y => fr (by rw [← h.lk]; exact g.lr _ y)
  have fl : nameF n z ∉ s.ledgers.map (·.1) := by rw [h.lk]; exact fr
  have gl : getL s.ledgers (nameF n z) = none := by
    cases e : getL s.ledgers (nameF n z) with
    | none => rfl
    | some a => exact absurd (List.mem_map_of_mem (f := (·.1)) (getL_mem e)) fl
  have ep : paceB p = true := by
    unfold paceB
    rw [decide_eq_true hp.1, decide_eq_true hp.2]
    rfl
  have el : (enterS s (nameF n z) p).ledgers = s.ledgers ++ [(nameF n z, (0, 0, 0))] := by
    show (if (getL s.ledgers (nameF n z)).isSome = true then s.ledgers else putL s.ledgers (nameF n z) (0, 0, 0)) = _
    rw [gl, if_neg (by decide), putL_key_new fl]
  have ec : putL cl (nameF n z) (s.now, p) = cl ++ [(nameF n z, (s.now, p))] := putL_key_new fr
  have n0 := g.n0
  refine ⟨?_, ?_⟩
  · unfold enterW
    rw [if_pos (name_ok n z).1, if_neg frr, if_pos ep, if_pos h8]
  rw [ec]
  have gapp : ∀ x, x ≠ nameF n z → getL (s.ledgers ++ [(nameF n z, ((0 : Rat), (0 : Rat), (0 : Rat)))]) x = getL s.ledgers x := fun x hx => by
    rw [← putL_key_new fl, getL_put, if_neg fun e => hx e.symm]
  refine ⟨by rw [List.map_append, h.ck, List.range_succ, List.map_append]; rfl, by rw [el, List.map_append, List.map_append, h.lk]; rfl, fun y hy => ?_, fun x hx => by rw [List.map_append]; exact List.mem_append_left _ (h.lfk x hx), fun y hy => ?_⟩
  · rcases List.mem_append.mp hy with w | w
    · exact h.hr y w
    · rw [List.mem_singleton.mp w]
      exact ⟨n0, Rat.le_refl⟩
  · rcases List.mem_append.mp hy with w | w
    · have yn : y.1 ≠ nameF n z := fun e => fr (by rw [← e]; exact List.mem_map_of_mem w)
      obtain ⟨x, e1, e2, e3, e4, e5⟩ := h.st y w
      refine ⟨x, by rw [el, gapp _ yn]; exact e1, e2, e3, fun hm => ?_, fun hm => ?_⟩
      · have hm : y.1 ∈ nameF n z :: s.row := hm
        have hm := (List.mem_cons.mp hm).resolve_left yn
        obtain ⟨a, b, c⟩ := e4 hm
        refine ⟨?_, b, c⟩
        show getL (putL s.tempos (nameF n z) p) y.1 = _
        rw [getL_put, if_neg fun e => yn e.symm]
        exact a
      · exact e5 fun v => hm (List.mem_cons_of_mem _ v)
    · rw [List.mem_singleton.mp w]
      refine ⟨(0, 0, 0), ?_, by show (0 : Rat) + 0 = (p : Rat) * 0; grind, hp, fun _ => ⟨?_, by show (0 : Rat) = s.now - s.now; grind, ?_⟩, fun v => absurd List.mem_cons_self v⟩
      · rw [el, ← putL_key_new fl, getL_put, if_pos rfl]
      · show getL (putL s.tempos (nameF n z) p) (nameF n z) = _
        rw [getL_put, if_pos rfl]
      · cases e : getL lf (nameF n z) with
        | none => rfl
        | some a => exact absurd (h.lfk _ (List.mem_map_of_mem (f := (·.1)) (getL_mem e))) fr
theorem Std.as (h : Std z n s cl lf) {s' : Ch} (e1 : s'.ledgers = s.ledgers) (e2 : s'.now = s.now) (e3 : ∀ x, x ∈ s'.row ↔ x ∈ s.row) (e4 : s'.tempos = s.tempos) : Std z n s' cl lf :=
  ⟨h.ck, by rw [e1]; exact h.lk, by rw [e2]; exact h.hr, h.lfk, fun y hy => by
    obtain ⟨x, a1, a2, a3, a4, a5⟩ := h.st y hy
    exact ⟨x, by rw [e1]; exact a1, a2, a3, fun hm => by rw [e4, e2]; exact a4 ((e3 _).mp hm), fun hm => a5 fun v => hm ((e3 _).mpr v)⟩⟩
theorem Std.go (h : Std z n s cl lf) {D : Int} (g : Gi D s) {s' : Ch} {rows : List Gw} (w : LedW s s' rows) (hnow : s.now ≤ s'.now) : Std z n s' cl (leftsF lf rows) := by
  refine ⟨h.ck, w.keys.trans h.lk, fun y hy => ⟨(h.hr y hy).1, Rat.le_trans (h.hr y hy).2 hnow⟩, fun x hx => ?_, fun y hy => ?_⟩
  · rcases lefts_keys hx with v | ⟨r, hr, v1, v2⟩
    · exact h.lfk x v
    · rw [← h.lk]
      refine g.lr x (Classical.byContradiction fun y => ?_)
      exact (w.no x y).2 r hr v1 v2
  · obtain ⟨x, a1, a2, a3, a4, a5⟩ := h.st y hy
    by_cases hm : y.1 ∈ s.row
    · obtain ⟨b1, b2, b3⟩ := a4 hm
      obtain ⟨x', c1, c2, c3, c4⟩ := w.yes y.1 hm x y.2.2 a1 b1
      refine ⟨x', c1, by grind, a3, fun hm' => ?_, fun hm' => ?_⟩
      · obtain ⟨d1, d2, d3⟩ := c3 hm'
        exact ⟨d1, by grind, by rw [lefts_no d3]; exact b3⟩
      · obtain ⟨t, d1, d2, d3⟩ := c4 hm'
        exact ⟨t, lefts_yes (.inr d1) d2, by grind⟩
    · obtain ⟨c1, c2⟩ := w.no y.1 hm
      obtain ⟨t, d1, d2⟩ := a5 hm
      exact ⟨x, c1.trans a1, a2, a3, fun hm' => absurd (w.sub _ hm') hm, fun _ => ⟨t, by rw [lefts_no c2]; exact d1, d2⟩⟩
end

theorem labour_rng {qs : List Am} (hwb : 1 ≤ qs.length ∧ qs.length ≤ 6 ∧ ∀ q ∈ qs, 1 ≤ q.1 ∧ q.1 ≤ 9 ∧ 1 ≤ q.2 ∧ q.2 ≤ 9) : 0 ≤ labourM qs ∧ labourM qs ≤ 486 := by
  have h := sum_bd (c := 81) (by decide) (qs.map fun (q : Int × Int) => q.1 * q.2) (fun z hz => by
    obtain ⟨e, he, rfl⟩ := List.mem_map.mp hz
    have k := hwb.2.2 e he
    exact ⟨Int.mul_nonneg (by omega) (by omega), (Int.mul_le_mul k.2.1 k.2.2.2 (by omega) (by omega) : e.1 * e.2 ≤ 9 * 9)⟩)
  rw [List.length_map] at h
  unfold labourM
  omega

theorem okP_frz {H : Hp} {p : Addr × Option Str} {a : Addr} {od : Obj} {o u : HO} (h : OkP H p) (ha : H a = some (.frz od u)) : OkP (upd H a o) p := by
  have k : ∀ b v, H b = some v → (∀ od u, v ≠ .frz od u) → upd H a o b = some v := fun b v e n => by
    rw [upd_ne (fun z => by rw [z, ha] at e; cases e; exact n _ _ rfl)]
    exact e
  obtain ⟨Q, q⟩ := p
  cases q with
  | none =>
    obtain ⟨ps, h1, h2⟩ := (show GxR.TabG H Q from h)
    exact ⟨ps, k _ _ h1 (fun _ _ z => by cases z), h2⟩
  | some q =>
    obtain ⟨ps, h1, h2, h3⟩ := (show LamX.TabS H Q q from h)
    refine ⟨ps, k _ _ h1 (fun _ _ z => by cases z), h2, fun pos cv hc => ?_⟩
    obtain ⟨c, e1, e2⟩ := h3 pos cv hc
    exact ⟨c, e1, k _ _ e2 (fun _ _ z => by unfold LamX.CodeO at z; cases z)⟩
theorem lock_back {T : Tb} {H H' : Hp} {d : Addr} {od : Obj} {u : HO} (hd : H d = some u) (x : Sx T [d] H H') (hd' : H' d = some (.frz od u)) : Sm T H (upd H' d u) := by
  refine ⟨fun b o e n => ?_, fun hk q hq => okP_frz (x.ok hk q hq) hd', fun l hl => ?_⟩
  · by_cases z : b = d
    · rw [z] at e ⊢
      rw [upd_same, ← hd, e]
    · rw [upd_ne z]
      exact x.keep b o e n (.inr (by simp [z]))
  · by_cases z : l = d
    · rw [z, upd_same] at hl; cases hl
    · rw [upd_ne z] at hl
      exact x.free l hl

-- wordk 14
theorem lab_pos {qs : List Am} (h : 1 ≤ qs.length ∧ qs.length ≤ 6 ∧ ∀ q ∈ qs, 1 ≤ q.1 ∧ q.1 ≤ 9 ∧ 1 ≤ q.2 ∧ q.2 ≤ 9) : 1 ≤ labourM qs := by
  cases qs with
  | nil => exact absurd h.1 (by decide)
  | cons q qs =>
    have hq : ∀ e ∈ qs, 1 ≤ e.1 ∧ e.1 ≤ 9 ∧ 1 ≤ e.2 ∧ e.2 ≤ 9 := fun e he => h.2.2 e (List.mem_cons_of_mem _ he)
    have a := sum_bd (c := 81) (by decide) (qs.map fun (q : Int × Int) => q.1 * q.2) (fun z hz => by
      obtain ⟨e, he, rfl⟩ := List.mem_map.mp hz
      have k := hq e he
      exact ⟨Int.mul_nonneg (by omega) (by omega), (Int.mul_le_mul k.2.1 k.2.2.2 (by omega) (by omega) : e.1 * e.2 ≤ 9 * 9)⟩)
    have k := h.2.2 q List.mem_cons_self
    have c : 0 < q.1 * q.2 := Int.mul_pos (by omega) (by omega)
    unfold labourM
    rw [List.map_cons, List.sum_cons]
    omega
theorem stg_new {L : Int} {qs : List Am} (h : 1 ≤ L ∧ L ≤ 486) : StG 0 0 1 (newS L qs) :=
  ⟨⟨h, ⟨rfl, rfl, Nat.zero_le _, fun _ z => nomatch z⟩, List.nodup_nil, fun _ z => (nomatch z), fun _ z => (nomatch z), List.Pairwise.nil, fun _ z => (nomatch z), List.nodup_nil, fun _ z => (nomatch z), List.nodup_nil, fun _ z => (nomatch z), List.nodup_nil, rfl, fun j hj => absurd hj (Nat.not_lt_zero _), Fr.zero (by decide), Rat.le_refl⟩,
    fun _ z => (nomatch z), ⟨⟨by decide, by decide⟩, Rat.le_refl, fun _ z => (nomatch z), Nat.le_refl _, Nat.le_refl _⟩⟩
theorem ifS_sm {T : Tb} {c : TT} {t1 t2 : TS} {D : Ends} {σ : L2.St} {H : Hp} (b : Bool) (h : ∀ Q' : Bool → Hp → Prop, (∀ H', Sm T H H' → Q' b H') → c σ H Q') (q : ∀ H', Sm T H H' → if b = true then t1 D σ H' else t2 D σ H') : tIfS c t1 t2 D σ H := h _ q
abbrev amR (r : Rat) : PyData := amD (am r)
abbrev camD (y : Rat × Int) : PyData := .tuple [amD (am y.1), .int y.2]
theorem gw_out {K : PySem.W.Frag} {H : Hp} {v : V} {a : Rat} {k : Int} {n : Str} (h : Dp K H v (gwD (a, some k, n))) : ∃ t q, v = .ref t ∧ SqT K H t [.ref q, .str "out", .int k, .str n] ∧ SqT K H q (tv (am a)) := by
  have h : Dp K H v (.tuple [amD (am a), .str "out", .int k, .str n]) := h
  cases h with
  | tup hs hall =>
    cases hall with
    | cons h1 hall =>
      cases hall with
      | cons h2 hall =>
        cases hall with
        | cons h3 hall =>
          cases hall with
          | cons h4 h5 =>
            cases h5
            cases h2
            cases h3
            cases h4
            obtain ⟨q, rfl, e⟩ := pd_at h1
            exact ⟨_, q, rfl, hs, e⟩
theorem gw_left {K : PySem.W.Frag} {H : Hp} {v : V} {a : Rat} {n : Str} (h : Dp K H v (gwD (a, none, n))) : ∃ t q, v = .ref t ∧ SqT K H t [.ref q, .str "left", .str n] ∧ SqT K H q (tv (am a)) := by
  have h : Dp K H v (.tuple [amD (am a), .str "left", .str n]) := h
  cases h with
  | tup hs hall =>
    cases hall with
    | cons h1 hall =>
      cases hall with
      | cons h2 hall =>
        cases hall with
        | cons h3 h4 =>
          cases h4
          cases h2
          cases h3
          obtain ⟨q, rfl, e⟩ := pd_at h1
          exact ⟨_, q, rfl, hs, e⟩
theorem putL_nd {α : Type} {l : List (Str × α)} {n : Str} {a : α} (h : (l.map (·.1)).Nodup) : ((putL l n a).map (·.1)).Nodup := by
  cases e : getL l n with
  | some b => rw [putL_keys2 e]; exact h
  | none =>
    have hn : n ∉ l.map (·.1) := fun z => by obtain ⟨a, ha⟩ := getL_key z; rw [e] at ha; cases ha
    rw [putL_key_new hn, List.map_append, List.nodup_append]
    exact ⟨h, by simp, fun x hx y hy e => hn (by rw [← (show y = n by simpa using hy), ← e]; exact hx)⟩
theorem putL_le {α : Type} (l : List (Str × α)) (n : Str) (a : α) : (putL l n a).length ≤ l.length + 1 := by
  unfold putL
  split
  · rw [List.length_map]; omega
  · rw [List.length_append]; exact Nat.le_refl _
theorem lefts_len : ∀ (rows : List Gw) (l : List (Str × Rat)), (leftsF l rows).length ≤ l.length + rows.length
  | [], _ => Nat.le_refl _
  | r :: rows, l => by
    have a := lefts_len rows (leftF l r)
    have b : (leftF l r).length ≤ l.length + 1 := by
      unfold leftF
      split
      · exact putL_le _ _ _
      · omega
    show (leftsF (leftF l r) rows).length ≤ l.length + (rows.length + 1)
    omega
theorem lefts_nd : ∀ {rows : List Gw} {l : List (Str × Rat)}, (l.map (·.1)).Nodup → ((leftsF l rows).map (·.1)).Nodup
  | [], _, h => h
  | r :: rows, l, h => by
    show ((leftsF (leftF l r) rows).map (·.1)).Nodup
    refine lefts_nd ?_
    unfold leftF
    split
    · exact putL_nd h
    · exact h
theorem fr_inv (cl : List (Str × (Rat × Int))) : InvE fun D _ => ∀ y ∈ cl, Fr D y.2.1 :=
  ⟨fun hD hk h y hy => (h y hy).scale (by omega) (by omega), fun _ _ _ _ _ _ h => h, fun _ _ _ h => h, fun h => h, fun _ _ h => h⟩
theorem led_hd {K : PySem.W.Frag} {H : Hp} {v : V} {x : Rat × Rat × Rat} (h : Dp K H v (ledD x)) : ∃ t q1 q2 q3, v = .ref t ∧ SqT K H t [.ref q1, .ref q2, .ref q3] ∧ SqT K H q1 (tv (am x.1)) ∧ SqT K H q2 (tv (am x.2.1)) ∧ SqT K H q3 (tv (am x.2.2)) := by
  cases h with
  | tup hs hall =>
    cases hall with
    | cons h1 hall =>
      cases hall with
      | cons h2 hall =>
        cases hall with
        | cons h3 h4 =>
          cases h4
          obtain ⟨q1, rfl, e1⟩ := pd_at h1
          obtain ⟨q2, rfl, e2⟩ := pd_at h2
          obtain ⟨q3, rfl, e3⟩ := pd_at h3
          exact ⟨_, q1, q2, q3, rfl, hs, e1, e2, e3⟩
theorem cam_hd {K : PySem.W.Frag} {H : Hp} {v : V} {y : Rat × Int} (h : Dp K H v (camD y)) : ∃ t q, v = .ref t ∧ SqT K H t [.ref q, .int y.2] ∧ SqT K H q (tv (am y.1)) := by
  cases h with
  | tup hs hall =>
    cases hall with
    | cons h1 hall =>
      cases hall with
      | cons h2 h3 =>
        cases h3
        cases h2
        obtain ⟨q, rfl, e⟩ := pd_at h1
        exact ⟨_, q, rfl, hs, e⟩
theorem swapL_mem {l : List Str} {i : Nat} (h : i + 1 < l.length) {x : Str} : x ∈ swapL l i ↔ x ∈ l :=
  ⟨mem_swapL h, fun hx => by
    have e : l = l.take i ++ (l[i] :: l[i + 1] :: l.drop (i + 2)) := by
      rw [← List.drop_eq_getElem_cons, ← List.drop_eq_getElem_cons, List.take_append_drop]
    rw [e] at hx
    rw [swapL_cut h, getD_lt h, getD_lt (show i < l.length by omega)]
    simp only [List.mem_append, List.mem_cons] at hx ⊢
    rcases hx with z | z | z | z <;> simp [z]⟩
theorem idx_str {l : List Str} (nd : l.Nodup) {i : Nat} (hi : i < l.length) : l.idxOf l[i] = i := by
  have hl : l.idxOf l[i] < l.length := List.idxOf_lt_length_of_mem (List.getElem_mem hi)
  exact (List.getElem_inj (h₀ := hl) (h₁ := hi) nd).mp (List.getElem_idxOf hl)
/-- what stands between the law's deeds -/
structure S18 (K : PySem.W.Frag) (T : Tb) (CC : Addr) (z : Int) (j : Nat) (H H' : Hp) (c d3 d4 : Addr) (A : Ad) (s : Ch) (k : Nat) (D : Int) (n : Nat) (cl : List (Str × (Rat × Int))) (lf : List (Str × Rat)) : Prop where
  sm : Sm T H H'
  ch : ChAt K CC H' c A s
  st : StG k j D s
  k : k ≤ 8 * s.poured.length + 8 * j
  wy : wayB s.way = true
  fr : s.fire = labourM s.way
  p : s.poured.length ≤ 119
  sd : Std z n s cl lf
  nj : n ≤ j
  e3 : ∃ kv, H' d3 = some (.dK kv) ∧ DiL camD K H' kv cl
  e4 : ∃ kv, H' d4 = some (.dK kv) ∧ DiL amR K H' kv lf
  n3 : d3 ∉ ownC c A
  n4 : d4 ∉ ownC c A
  ne : d3 ≠ d4
  h3 : H d3 = none
  h4 : H d4 = none
  cH : ∀ x ∈ ownC c A, H x = none
  fc : ∀ y ∈ cl, Fr D y.2.1
  nd : (lf.map (·.1)).Nodup
theorem S18.go {K : PySem.W.Frag} {T : Tb} {CC : Addr} {z : Int} {j : Nat} {H H' H2 : Hp} {c d3 d4 : Addr} {A : Ad} {s : Ch} {k : Nat} {D : Int} {n : Nat} {cl : List (Str × (Rat × Int))} {lf : List (Str × Rat)} (h : S18 K T CC z j H H' c d3 d4 A s k D n cl lf) (e : Sm T H' H2) : S18 K T CC z j H H2 c d3 d4 A s k D n cl lf := by
  obtain ⟨k3, e3, l3⟩ := h.e3
  obtain ⟨k4, e4, l4⟩ := h.e4
  exact ⟨h.sm.trans e, h.ch.sm e, h.st, h.k, h.wy, h.fr, h.p, h.sd, h.nj, ⟨k3, e.k e3, l3.sm e⟩, ⟨k4, e.k e4, l4.sm e⟩, h.n3, h.n4, h.ne, h.h3, h.h4, h.cH, h.fc, h.nd⟩
theorem S18.deed {K : PySem.W.Frag} {T : Tb} {CC : Addr} {z : Int} {j : Nat} {H H' H2 : Hp} {c d3 d4 : Addr} {A : Ad} {s : Ch} {k : Nat} {D : Int} {n : Nat} {cl : List (Str × (Rat × Int))} {lf : List (Str × Rat)} (h : S18 K T CC z j H H' c d3 d4 A s k D n cl lf) {X : Deed} (e : Deed.no s X = none) (x : Sx T (ownC c A) H' H2) (ch : ChAt K CC H2 c A (Deed.to s X)) (sd : Std z n (Deed.to s X) cl lf) : S18 K T CC z (j + 1) H H2 c d3 d4 A (Deed.to s X) k D n cl lf := by
  obtain ⟨k3, e3, l3⟩ := h.e3
  obtain ⟨k4, e4, l4⟩ := h.e4
  obtain ⟨st, po, fi, wy, _⟩ := stg_sm h.st e
  refine ⟨Sx.sm ((h.sm.sx (S := [])).trans x fun y hy => .inr (h.cH y hy)), ch, st, by rw [po]; have := h.k; omega, by rw [wy]; exact h.wy, by rw [fi, wy]; exact h.fr, by rw [po]; exact h.p, sd, by have := h.nj; omega, ⟨k3, x.keep _ _ e3 trivial (.inr h.n3), l3.sx (n := 3) (fun _ => rfl) x⟩, ⟨k4, x.keep _ _ e4 trivial (.inr h.n4), l4.sx (n := 3) (fun _ => rfl) x⟩, h.n3, h.n4, h.ne, h.h3, h.h4, h.cH, h.fc, h.nd⟩
theorem S18.idle {K : PySem.W.Frag} {T : Tb} {CC : Addr} {z : Int} {j : Nat} {H H' : Hp} {c d3 d4 : Addr} {A : Ad} {s : Ch} {k : Nat} {D : Int} {n : Nat} {cl : List (Str × (Rat × Int))} {lf : List (Str × Rat)} (h : S18 K T CC z j H H' c d3 d4 A s k D n cl lf) : S18 K T CC z (j + 1) H H' c d3 d4 A s k D n cl lf :=
  ⟨h.sm, h.ch, ⟨h.st.gi, h.st.lt, h.st.gb.up (Nat.le_succ j)⟩, by have := h.k; omega, h.wy, h.fr, h.p, h.sd, by have := h.nj; omega, h.e3, h.e4, h.n3, h.n4, h.ne, h.h3, h.h4, h.cH, h.fc, h.nd⟩
def sp_LAW (K : PySem.W.Frag) (T : Tb) (CP CC : Addr) : Sp := fun vs H Q _ => ∃ (a : Addr) (ns : List Int), vs = [.ref a] ∧ SqL K H a (ns.map V.int) ∧ ns.length ≤ 63 ∧ (∀ z ∈ ns, Builtin.Int.intBits z ≤ 1048576) ∧ Ok T H ∧ ∀ H', Q (.bl true) H'
theorem ok_LAW {f : Addr} {fd : FuncData} {c PT : Addr} (F : FunC K "law" "law" s_LAW f fd c) (hnT : (T.map (·.1)).Nodup) (hPT : (PT, some (("law" : Str) ++ ".<locals>." ++ "<lambda>")) ∈ T) (TB : LamX.TabB base mg c PT) (B : Bn mg) {CP : Addr} (W : Word K mg CP) {CC : Addr} (TC : Kl K CC) (F_l_cell : Fn P w K mg base 1 "_law_cell" ["_law_script", "_law_k"] (sp_l_cell K T)) (F_l_draws : Fn P w K mg base 1 "_law_draws" ["_law_cell_here", "_law_parts"] (sp_l_draws K T)) (F_l_many : Fn P w K mg base 1 "_law_many" ["_law_script", "_law_few"] (sp_l_many K T)) (M_enter : Mx P w K mg base CC 5 "enter" ["self", "name", "pace"] (sp_p_Chain_enter K T CP CC)) (M_hands : Mt P w K mg base CC 1 "hands" ["self"] (sp_p_Chain_hands K T CC)) (M_pails : Mt P w K mg base CC 1 "pails" ["self"] (sp_p_Chain_pails K T CC)) (M_ledger : Mx P w K mg base CC 4 "ledger" ["self", "name"] (sp_p_Chain_ledger K T CP CC)) (M_hour : Mt P w K mg base CC 1 "hour" ["self"] (sp_p_Chain_hour K T CC)) (M_init : Mnx P w K mg base CC 6 "Chain" ["self", "way"] (sp_p_Chain___init__ K T CP CC)) (M_called : Mt P w K mg base CC 1 "called" ["self"] (sp_p_Chain_called K T CC)) (M_call : Mx P w K mg base CC 5 "call" ["self", "name"] (sp_p_Chain_call K T CP CC)) (M_swap : Mx P w K mg base CC 5 "swap" ["self", "name"] (sp_p_Chain_swap K T CP CC)) (M_go : Mx P w K mg base CC 9 "go" ["self", "hours"] (sp_p_Chain_go K T CP CC)) (F_l_name : Fn P w K mg base 2 "_law_name" ["_law_k", "_law_salt"] (sp_l_name K T)) (F_l_same : Fn P w K mg base 6 "_law_same" ["_law_found", "_law_due"] (sp_l_same K T)) (F_l_split : Fn P w K mg base 1 "_law_split" ["_law_cell_here", "_law_many_here"] (sp_l_split K T)) (F_l_way : Fn P w K mg base 2 "_law_way" ["_law_cell_here"] (sp_l_way K T)) (F_l_amt : Fn P w K mg base 2 "_law_amt" ["_law_num", "_law_den"] (sp_l_amt K T)) (F_l_add : Fn P w K mg base 3 "_law_add" ["_law_one", "_law_other"] (sp_l_add K T)) (F_l_sub : Fn P w K mg base 3 "_law_sub" ["_law_one", "_law_other"] (sp_l_sub K T)) (F_l_mul : Fn P w K mg base 3 "_law_mul" ["_law_one", "_law_number"] (sp_l_mul K T)) : FnOk P w K mg base (L2.CX P w) 24 f fd ["_law_script"] (sp_LAW K T CP CC) := by
  refine F.okX sc_LAW (fun vs H Q E h => ?_) (fun A outer s H vs Q E hr h => ?_)
  · obtain ⟨a, ns, rfl, _⟩ := h
    rfl
  · obtain ⟨a, script, rfl, hS, hlen, hbits, hok, q⟩ := h
    refine ⟨_, (pss_cons (ps_asg (pe_fn F_l_split (hr.mono (by decide)) (pa_cons (pe_fn F_l_cell (hr.mono (by decide)) (pa_cons (pv 0) (pa_cons pe_int pa_nil))) (pa_cons pe_int pa_nil))) (pg_unl rfl (pgs_cons (pg_name (i := 1) sc_LAW.nd rfl (.inl rfl)) (pgs_cons (pg_name (i := 2) sc_LAW.nd rfl (.inl rfl)) pgs_nil))))
      (pss_cons (ps_set (i := 13) sc_LAW.nd rfl (.inr rfl) (pe_mnx M_init (hr.mono (by decide)) (takes_of rfl rfl rfl rfl) (pa_cons (pe_fn F_l_way (hr.mono (by decide)) (pa_cons (pv 2) pa_nil)) pa_nil)))
      (pss_cons (ps_set (i := 3) sc_LAW.nd rfl (.inl rfl) pe_dnewK)
      (pss_cons (ps_set (i := 4) sc_LAW.nd rfl (.inl rfl) pe_dnewK)
      (pss_cons (ps_for (passes_of rfl) rfl (pi_range2 (by rfl) B.range_ (pa_cons pe_int (pa_cons (pe_callB (call_min2 rfl) (by rfl) B.min_ (by decide +kernel) (pa_cons pe_int (pa_cons (pe_fn F_l_many (hr.mono (by decide)) (pa_cons (pv 0) (pa_cons pe_int pa_nil))) pa_nil))) pa_nil))) (pg_name (i := 5) sc_LAW.nd rfl (.inl rfl))
      (pss_cons (ps_set (i := 12) sc_LAW.nd rfl (.inr rfl) (pe_fn F_l_draws (hr.mono (by decide)) (pa_cons (pe_fn F_l_cell (hr.mono (by decide)) (pa_cons (pv 0) (pa_cons (pv 5) pa_nil))) (pa_cons (pe_lst (pa_cons pe_int (pa_cons pe_int (pa_cons pe_int (pa_cons pe_int (pa_cons pe_int pa_nil)))))) pa_nil))))
      (pss_cons (ps_set (i := 6) sc_LAW.nd rfl (.inl rfl) (pe_mt0 M_hands TC.cl (hr.mono (by decide)) (pv 13) ))
      (pss_cons (ps_if (PW.pt (pw_and (pt_cmpR op_lt (pe_ix ix_list (pv 12) pe_int (fun _ _ => rfl)) pe_int (nomark _)) (pw_and1 (pt_cmpR op_lt (pe_callB call_len_seq (by rfl) B.len_ (by decide +kernel) (pa_cons (pv 6) pa_nil)) pe_int (nomark _))))) (pss_cons (ps_set (i := 14) sc_LAW.nd rfl (.inr rfl) (pe_fn F_l_name (hr.mono (by decide)) (pa_cons (pe_callB call_lenD (by rfl) B.len_ (by decide +kernel) (pa_cons (pv 3) pa_nil)) (pa_cons (pv 1) pa_nil))))
      (pss_cons (ps_dput (hu_of hr) (pv 3) (pv 14) (pe_tup (pa_cons (pe_mt0 M_hour TC.cl (hr.mono (by decide)) (pv 13) ) (pa_cons (pe_op op_add pe_int (pe_ix ix_list (pv 12) pe_int (fun _ _ => rfl))) pa_nil))) rfl)
      (pss_one (ps_expr (pe_mx M_enter TC.cl (hr.mono (by decide)) (takes_of rfl rfl rfl rfl) (pv 13) (pa_cons (pv 14) (pa_cons (pe_op op_add pe_int (pe_ix ix_list (pv 12) pe_int (fun _ _ => rfl))) pa_nil))))))) (pss_one (ps_if (PW.pt (pw_and (pt_cmpR op_lt (pe_ix ix_list (pv 12) pe_int (fun _ _ => rfl)) pe_int (nomark _)) (pw_and (pt_cmpR op_gt (pe_callB call_len_seq (by rfl) B.len_ (by decide +kernel) (pa_cons (pv 6) pa_nil)) pe_int (nomark _)) (pw_and1 (pt_cmpR op_notIn_seq (pe_ix ix_list (pv 6) (pe_op op_mod (pe_ix ix_list (pv 12) pe_int (fun _ _ => rfl)) (pe_callB call_len_seq (by rfl) B.len_ (by decide +kernel) (pa_cons (pv 6) pa_nil))) (fun _ _ => rfl)) (pe_mt0 M_called TC.cl (hr.mono (by decide)) (pv 13) ) (by rfl)))))) (pss_one (ps_expr (pe_mx M_call TC.cl (hr.mono (by decide)) (takes_of rfl rfl rfl rfl) (pv 13) (pa_cons (pe_ix ix_list (pv 6) (pe_op op_mod (pe_ix ix_list (pv 12) pe_int (fun _ _ => rfl)) (pe_callB call_len_seq (by rfl) B.len_ (by decide +kernel) (pa_cons (pv 6) pa_nil))) (fun _ _ => rfl)) pa_nil)))) (pss_one (ps_if (PW.pt (pw_and (pt_cmpR op_eq (pe_ix ix_list (pv 12) pe_int (fun _ _ => rfl)) pe_int (nomark _)) (pw_and1 (pt_cmpR op_gt (pe_callB call_len_seq (by rfl) B.len_ (by decide +kernel) (pa_cons (pv 6) pa_nil)) pe_int (nomark _))))) (pss_one (ps_expr (pe_mx M_swap TC.cl (hr.mono (by decide)) (takes_of rfl rfl rfl rfl) (pv 13) (pa_cons (pe_ix ix_list (pv 6) (pe_op op_mod (pe_ix ix_list (pv 12) pe_int (fun _ _ => rfl)) (pe_op op_sub (pe_callB call_len_seq (by rfl) B.len_ (by decide +kernel) (pa_cons (pv 6) pa_nil)) pe_int)) (fun _ _ => rfl)) pa_nil)))) (pss_one (ps_if (pt_cmpR op_lt (pe_mt0 M_pails TC.cl (hr.mono (by decide)) (pv 13) ) pe_int (nomark _)) (pss_cons (ps_set (i := 7) sc_LAW.nd rfl (.inl rfl) (pe_word (k := 14) W hnT (by rfl) TB rfl hPT (hr.mono (by decide)) (LamX.lamS_by (sc := defScope s_LAW) (by decide +kernel)) rfl (fun _ _ _ _ _ => rfl) (fun A outer s H E f c' hr => (pe_mx (E := E) M_go TC.cl (hr.mono (by decide)) (takes_of rfl rfl rfl rfl) (pv 13) (pa_cons (pe_fn F_l_amt (hr.mono (by decide)) (pa_cons (pe_op op_add pe_int (pe_ix (r := rIxL K) ix_list (pv 12) pe_int (fun _ _ => rfl))) (pa_cons (pe_op op_add pe_int (pe_ix (r := rIxL K) ix_list (pv 12) pe_int (fun _ _ => rfl))) pa_nil))) pa_nil)))))
      (pss_one (ps_for (passes_of rfl) rfl (pi_list (pe_ifExp (pt_cmpR op_eq (pe_ix ix_tup (pv 7) pe_int (fun _ _ => rfl)) pe_str (nomark _)) (pe_ix ix_tup (pv 7) pe_int (fun _ _ => rfl)) (pe_lst pa_nil))) (pg_name (i := 8) sc_LAW.nd rfl (.inl rfl))
      (pss_one (ps_if (pt_cmpR op_eq (pe_ix ix_tup (pv 8) pe_int (fun _ _ => rfl)) pe_str (nomark _)) (pss_one (ps_dput (hu_of hr) (pv 4) (pe_ix ix_tup (pv 8) pe_int (fun _ _ => rfl)) (pe_ix ix_tup (pv 8) pe_int (fun _ _ => rfl)) rfl)) pss_nil))))) pss_nil)))))))
      (pss_one (ps_lock (ps_for (passes_of rfl) rfl (pi_keys (pv 3)) (pg_name (i := 14) sc_LAW.nd rfl (.inr rfl))
      (pss_cons (ps_asg (pe_mx M_ledger TC.cl (hr.mono (by decide)) (takes_of rfl rfl rfl rfl) (pv 13) (pa_cons (pv 14) pa_nil)) (pg_tup rfl (pgs_cons (pg_name (i := 9) sc_LAW.nd rfl (.inl rfl)) (pgs_cons (pg_name (i := 10) sc_LAW.nd rfl (.inl rfl)) (pgs_cons (pg_name (i := 11) sc_LAW.nd rfl (.inl rfl)) pgs_nil)))))
      (pss_cons (ps_if (pt_cmpR (op_neD hr.units) (pv 9) (pe_fn F_l_sub (hr.mono (by decide)) (pa_cons (pe_dget2 (hu_of hr) (pv 4) (pv 14) (pe_mt0 M_hour TC.cl (hr.mono (by decide)) (pv 13) ) ⟨rfl, rfl, rfl, rfl⟩) (pa_cons (pe_ix ix_tup (pe_dget (hu_of hr) (pv 3) (pv 14) (fun _ _ => rfl)) pe_int (fun _ _ => rfl)) pa_nil))) (nomark _)) (pss_one (ps_ret pe_bl)) pss_nil)
      (pss_one (ps_if (pt_cmpR (op_neD hr.units) (pe_fn F_l_add (hr.mono (by decide)) (pa_cons (pv 10) (pa_cons (pv 11) pa_nil))) (pe_fn F_l_mul (hr.mono (by decide)) (pa_cons (pv 9) (pa_cons (pe_ix ix_tup (pe_dget (hu_of hr) (pv 3) (pv 14) (fun _ _ => rfl)) pe_int (fun _ _ => rfl)) pa_nil))) (nomark _)) (pss_one (ps_ret pe_bl)) pss_nil)))))))))))
      (pss_cons (ps_for (passes_of rfl) rfl (pi_list (pe_lst (pa_cons (pe_fn F_l_name (hr.mono (by decide)) (pa_cons (pe_callB call_lenD (by rfl) B.len_ (by decide +kernel) (pa_cons (pv 3) pa_nil)) (pa_cons (pv 1) pa_nil))) (pa_cons pe_str (pa_cons pe_str pa_nil))))) (pg_name (i := 14) sc_LAW.nd rfl (.inr rfl))
      (pss_one (ps_if (pt_not (pt_val (pe_fn F_l_same (hr.mono (by decide)) (pa_cons (pe_word (k := 14) W hnT (by rfl) TB rfl hPT (hr.mono (by decide)) (LamX.lamS_by (sc := defScope s_LAW) (by decide +kernel)) rfl (fun _ _ _ _ _ => rfl) (fun A outer s H E f c' hr => (pe_mx (E := E) M_ledger TC.cl (hr.mono (by decide)) (takes_of rfl rfl rfl rfl) (pv 13) (pa_cons (pv 14) pa_nil)))) (pa_cons (pe_tup (pa_cons pe_str pa_nil)) pa_nil))))) (pss_one (ps_ret pe_bl)) pss_nil)))
      (pss_one (ps_ret pe_bl)))))))), ?_⟩
    refine ⟨_, rfl, a, script, 0, rfl, hS, by decide, fun c0 => ⟨c0, 2, rfl, by decide, fun o H1 zs s1 no eo hl => ?_⟩⟩
    obtain ⟨z1, z2, rfl⟩ : ∃ z1 z2, zs = [z1, z2] := match zs, hl with | [z1, z2], _ => ⟨z1, z2, rfl⟩
    refine ⟨o, _, rfl, SqL.of eo, rfl, _, _, rfl, _, _, rfl, rfl, ?_⟩
    dsimp only [gName, List.set]
    refine ⟨_, rfl, z2, rfl, fun w0 H2 us qs s2 nw ew hu hw => ?_⟩
    dsimp only [gName, List.set]
    have s02 := s1.trans s2
    have lw := wayB_b hw
    intro c' dx nc ndx nex
    have hlu := dpa_len hu
    refine ⟨_, c', dx, w0, us, qs, rfl, rfl, nc, ndx, nex, SqL.of ew, hu, by omega, s02.ok hok, fun _ H4 A s4 ch4 fr4 => ⟨rfl, ?_⟩, fun z => absurd z (by rw [hw]; decide)⟩
    have s05 := s02.trans s4
    have cH : ∀ x ∈ ownC c' A, H x = none := fun x hx => s02.free _ (fr4 x hx)
    intro d3 nd3
    have u3 := same_upd (T := T) (o := HO.dK []) nd3
    have e3 : upd H4 d3 (.dK []) d3 = some (.dK []) := upd_same
    have n3 := ch4.new nd3
    have h3 := s05.free _ nd3
    have ch5 := ch4.sm u3
    have s06 := s05.trans u3
    generalize upd H4 d3 (.dK []) = H5 at *
    dsimp only [gName, List.set]
    intro d4 nd4
    have u4 := same_upd (T := T) (o := HO.dK []) nd4
    have e4 : upd H5 d4 (.dK []) d4 = some (.dK []) := upd_same
    have n4 := ch5.new nd4
    have h4 := s06.free _ nd4
    have ch6 := ch5.sm u4
    have s07 := s06.trans u4
    have e3b := u4.k e3
    have ne34 : d3 ≠ d4 := fun z => by rw [← z, e3] at nd4; cases nd4
    generalize upd H5 d4 (.dK []) = H6 at *
    dsimp only [gName, List.set]
    have st0 : S18 K T CC z1 0 H H6 c' d3 d4 A (newS (labourM qs) qs) 0 1 0 [] [] := ⟨s07, ch6, stg_new ⟨lab_pos lw, (labour_rng lw).2⟩, Nat.zero_le _, hw, rfl, Nat.zero_le _, std_new _ _, Nat.le_refl _, ⟨[], e3b, rfl, .nil⟩, ⟨[], e4, rfl, .nil⟩, n3, n4, ne34, h3, h4, cH, (fun _ z => nomatch z), List.nodup_nil⟩
    clear s07 ch6 ch5 ch4 s06 s05 e3 e3b e4 n3 n4 h3 h4 cH ne34 u3 u4 nd3 nd4 fr4 hlu hu ew s4
    refine ⟨_, rfl, a, script, 9, rfl, st0.sm.seq hS, by decide, by decide, fun mm0 hmm0 => ?_⟩
    obtain ⟨mm, emm, hmm⟩ : ∃ mm : Nat, (if (mm0 : Int) < 40 then (mm0 : Int) else 40) = (mm : Int) ∧ mm ≤ 40 := by
      by_cases z : (mm0 : Int) < 40
      · exact ⟨mm0, if_pos z, by omega⟩
      · exact ⟨40, if_neg z, Nat.le_refl _⟩
    refine ⟨_, _, rfl, ?_⟩
    rw [emm]
    refine ⟨1, mm, rfl, ⟨by decide, by decide, by omega, by omega⟩, for_range (lo := 1) (n := ((mm : Int) - 1).toNat) (fun j σ H' => ∃ (A : Ad) (s : Ch) (k : Nat) (D : Int) (n : Nat) (cl : List (Str × (Rat × Int))) (lf : List (Str × Rat)), S18 K T CC z1 j H H' c' d3 d4 A s k D n cl lf ∧ ∃ (x5 x6 x7 x8 x9 x10 x11 x12 x14 : Option V), σ = [some (.ref a), some (.int z1), some (.int z2), some (.ref d3), some (.ref d4), x5, x6, x7, x8, x9, x10, x11, x12, some (.ref c'), x14]) ⟨A, _, _, _, _, _, _, st0, _, _, _, _, _, _, _, _, _, rfl⟩ ?_ ?_⟩
    · clear st0
      clear A
      rintro j σ H' hj ⟨A, s, k, D, n, cl, lf, S, x5, x6, x7, x8, x9, x10, x11, x12, x14, rfl⟩
      have gi := S.st.gi
      have n8 := gi.sd.n8
      have pm := gi.pm
      have kk := S.k
      have pp := S.p
      dsimp only [gName, List.set]
      refine ⟨_, rfl, _, rfl, a, script, _, rfl, S.sm.seq hS, by omega, fun c1 => ?_⟩
      refine ⟨by show 5 ≤ sizeLine; decide, fun l nl => ?_⟩
      have ul := same_upd (T := T) (o := HO.lst (([12, 8, 12, 9, 7] : List Int).map V.int)) nl
      refine ⟨c1, l, [12, 8, 12, 9, 7], rfl, SqL.of upd_same, by decide, by decide, fun pd HA ds sA npd ed hdr => ?_⟩
      obtain ⟨d0, r1, rfl, a0, b0, hdr⟩ := hdr.cons
      obtain ⟨d1, r2, rfl, a1, b1, hdr⟩ := hdr.cons
      obtain ⟨d2, r3, rfl, a2, b2, hdr⟩ := hdr.cons
      obtain ⟨dx3, r4, rfl, a3, b3, hdr⟩ := hdr.cons
      obtain ⟨dx4, r5, rfl, a4, b4, hdr⟩ := hdr.cons
      obtain rfl := hdr.nil
      have SA := S.go (ul.trans sA)
      clear S ul sA npd
      dsimp only [gName, List.set]
      refine ⟨_, rfl, c', _, _, rfl, SA.ch.ins, fl_no (by decide +kernel), c', A, s, rfl, SA.ch, fun ph HB sB nph eph => ?_⟩
      have SB := SA.go sB
      have edB := sB.k ed
      clear SA sB ed nph
      dsimp only [gName, List.set]
      refine seq_if (fun σ' H2 => ∃ (A : Ad) (s : Ch) (k : Nat) (D : Int) (n : Nat) (cl : List (Str × (Rat × Int))) (lf : List (Str × Rat)), S18 K T CC z1 (j + 1) H H2 c' d3 d4 A s k D n cl lf ∧ ∃ (x5 x6 x7 x8 x9 x10 x11 x12 x14 : Option V), σ' = [some (.ref a), some (.int z1), some (.int z2), some (.ref d3), some (.ref d4), x5, x6, x7, x8, x9, x10, x11, x12, some (.ref c'), x14]) (fun σ' HG pp => ?_) (fun kn => ?_)
      · obtain ⟨A, s, k, D, n, cl, lf, S, x5, x6, x7, x8, x9, x10, x11, x12, x14, rfl⟩ := pp
        have gi := S.st.gi
        have kk := S.k
        have pp := S.p
        have hDD : 0 < D ∧ D.natAbs < 2 ^ 6550 := ⟨S.st.gb.hD.1, pw5_to S.st.gb.hD.2 (by omega)⟩
        obtain ⟨kv3, e3, l3⟩ := S.e3
        obtain ⟨kv4, e4, l4⟩ := S.e4
        have lk3 := dil_len l3
        have ln3 := S.sd.len
        have nj := S.nj
        refine ⟨d3, _, e3, trivial, fun od => ?_⟩
        have xL : Sx T [d3] HG (upd HG d3 (.frz od (.dK kv3))) := sx_upd e3 rfl (by simp)
        have eL : upd HG d3 (.frz od (.dK kv3)) d3 = some (.frz od (.dK kv3)) := upd_same
        have c3 : ∀ x ∈ ownC c' A, x ∉ [d3] := fun x hx z => S.n3 (by rw [← List.mem_singleton.mp z]; exact hx)
        have n43 : d4 ∉ [d3] := fun z => S.ne (List.mem_singleton.mp z).symm
        generalize upd HG d3 (.frz od (.dK kv3)) = HL at *
        refine ⟨_, rfl, d3, od, rfl, .inl ⟨kv3, eL, for_it walk_keys (fun i σ H2 => Sx T [d3] HG H2 ∧ H2 d3 = some (.frz od (.dK kv3)) ∧ ∃ (x9 x10 x11 x14 : Option V), σ = [some (.ref a), some (.int z1), some (.int z2), some (.ref d3), some (.ref d4), x5, x6, x7, x8, x9, x10, x11, x12, some (.ref c'), x14]) ⟨xL, eL, _, _, _, _, rfl⟩ (fun i σ H' _ h => h.2.1) ?_ ?_⟩⟩
        · rintro i x σ HA HB2 hi ⟨xA, eA, x9, x10, x11, x14, rfl⟩ ⟨eH, kq, v, hk, rfl⟩
          subst eH
          have hil : i < cl.length := by omega
          have ekv : kq = Sum.inr (cl[i]).1 := by
            have := congrArg (fun l => l[i]?) l3.1
            simp only [List.getElem?_map, hk, List.getElem?_eq_getElem hil, Option.map_some] at this
            exact Option.some.inj this
          subst ekv
          have hmem := List.getElem_mem hil
          obtain ⟨xl, gl, hsum, hp, hin, hout⟩ := S.sd.st _ hmem
          have hy := S.sd.hr _ hmem
          have fy := S.fc _ hmem
          have cnd : (cl.map (·.1)).Nodup := by rw [← S.sd.lk]; exact gi.lk
          have gcl := getL_of cnd hmem
          generalize hci : cl[i] = y at *
          obtain ⟨yn, yt, yp⟩ := y
          have hlg := gi.lg _ (getL_mem gl)
          have hp : 1 ≤ yp ∧ yp ≤ 12 := hp
          have chA := S.ch.sx xA c3
          have l3A := l3.sx (n := 3) (fun _ => rfl) xA
          have e4A := xA.keep _ _ e4 trivial (.inr n43)
          have l4A := l4.sx (n := 3) (fun _ => rfl) xA
          dsimp only [gName, List.set]
          have n6 : s.now ≤ 1000000 := Rat.le_trans S.st.gb.nw (Rat.intCast_le_intCast (b := 1000000) |>.mpr (by omega))
          have n0 := gi.n0
          obtain ⟨r, hr1, hr2, hr3, hr4⟩ : ∃ r : Rat, (getL lf yn).getD s.now = r ∧ xl.1 = r - yt ∧ Fr D r ∧ 0 ≤ r ∧ r ≤ 100000000 := by
            have hx0 := hlg.1.2.1
            have hx1 := hlg.1.2.2
            have hy0 : 0 ≤ yt := hy.1
            have hy1 : yt ≤ s.now := hy.2
            by_cases z : yn ∈ s.row
            · obtain ⟨_, e1, e2⟩ := hin z
              exact ⟨_, rfl, by rw [e2]; exact e1, by rw [e2]; exact gi.fn, by rw [e2]; exact n0, by rw [e2]; exact Rat.le_trans n6 (by decide)⟩
            · obtain ⟨t, e1, e2⟩ := hout z
              have et : t = xl.1 + yt := by rw [e2]; grind
              have e3 : Fr D (xl.1 + yt) := hlg.1.1.add fy
              refine ⟨t, by rw [e1]; rfl, e2, by rw [et]; exact e3, by rw [et]; grind, ?_⟩
              rw [et]
              grind
          refine ⟨_, rfl, c', _, _, rfl, chA.ins, fl_no (by decide +kernel), _, rfl, c', A, s, yn, rfl, chA, fun x' hx' v' hv' => ?_, fun z => by rw [gl] at z; cases z⟩
          rw [gl] at hx'
          cases hx'
          obtain ⟨tt, q1, q2, q3, rfl, st, sq1, sq2, sq3⟩ := led_hd hv'
          refine ⟨tt, _, rfl, st, rfl, _, _, rfl, _, _, rfl, _, _, rfl, rfl, ?_⟩
          dsimp only [gName, List.set]
          have b0 : Bd 6650 (am xl.1) := bdL hDD.1 hDD.2 hlg.1.1 hlg.1.2.1 (Rat.le_trans hlg.1.2.2 (Rat.le_trans n6 (by decide)))
          have n12 : 12 * s.now ≤ 100000000 := by
            grind
          have b1 : Bd 6650 (am xl.2.1) := bdL hDD.1 hDD.2 hlg.2.1.1 hlg.2.1.2.1 (Rat.le_trans hlg.2.1.2.2 n12)
          have b2 : Bd 6650 (am xl.2.2) := bdL hDD.1 hDD.2 hlg.2.2.1 hlg.2.2.2.1 (Rat.le_trans hlg.2.2.2.2 n12)
          have br : Bd 6650 (am r) := bdL hDD.1 hDD.2 hr3 hr4.1 hr4.2
          have by_ : Bd 6650 (am yt) := bdL hDD.1 hDD.2 fy hy.1 (Rat.le_trans hy.2 (Rat.le_trans n6 (by decide)))
          refine ifS_sm (T := T) false (fun Q' rr => ?_) (fun HC sC => iteF ?_)
          · refine ⟨_, rfl, _, rfl, d4, rfl, .inl ⟨_, .inl e4A⟩, _, rfl, _, rfl, c', _, _, rfl, chA.ins, fl_no (by decide +kernel), c', A, s, rfl, chA, fun qh eqh => ⟨_, DGet.k (k := Sum.inr yn) e4A, ?_⟩⟩
            obtain ⟨b, eb, sb⟩ : ∃ b, (valV kv4 (Sum.inr yn)).getD (.ref qh) = .ref b ∧ SqT K HB2 b (tv (am r)) := by
              rcases dil_val l4A yn with ⟨g1, g2⟩ | ⟨x, v, g1, g2, g3⟩
              · exact ⟨qh, by rw [g2]; rfl, by rw [← hr1, g1]; exact eqh⟩
              · obtain ⟨b, rfl, e⟩ := pd_at g3
                exact ⟨b, by rw [g2]; rfl, by rw [← hr1, g1]; exact e⟩
            rw [eb]
            rcases dil_val l3A yn with ⟨g1, g2⟩ | ⟨x, v, g1, g2, g3⟩
            · rw [gcl] at g1; cases g1
            rw [gcl] at g1
            cases g1
            obtain ⟨tc, qc, rfl, stc, sqc⟩ := cam_hd g3
            refine ⟨_, rfl, _, rfl, d3, _, rfl, .inl ⟨_, _, .inr ⟨_, eA⟩, rfl, g2.symm⟩, ?_⟩
            refine ⟨tc, _, _, .ref qc, rfl, rfl, stc, at_of (j := 0) rfl rfl, b, qc, _, _, rfl, sb, sqc, ⟨br, by_⟩, ⟨am_pos _, am_pos _⟩, fun p5 H5 s5 n5 e5 => ?_⟩
            rw [minus_am] at e5
            refine ⟨_, _, amD_dp (same_tup s5 sq1), amD_dp (SqT.of e5), rfl, rfl, ?_⟩
            rw [show (!PyData.eqv (amD (am xl.1)) (amD (am (r - yt)))) = false from ne_am (by rw [hr2])]
            exact ⟨_, rfl, rr _ s5⟩
          dsimp only [tNext]
          have l3C := l3A.sm sC
          have eC := sC.keep _ _ eA trivial
          have sq1C := same_tup sC sq1
          have sq2C := same_tup sC sq2
          have sq3C := same_tup sC sq3
          refine ifS_sm (T := T) false (fun Q' rr => ?_) (fun HD sD => iteF ?_)
          · refine ⟨_, rfl, _, rfl, q2, q3, _, _, rfl, sq2C, sq3C, ⟨b1, b2⟩, ⟨am_pos _, am_pos _⟩, fun p5 H5 s5 n5 e5 => ?_⟩
            rw [plus_am] at e5
            rcases dil_val (l3C.sm s5) yn with ⟨g1, g2⟩ | ⟨x, v, g1, g2, g3⟩
            · rw [gcl] at g1; cases g1
            rw [gcl] at g1
            cases g1
            obtain ⟨tc, qc, rfl, stc, sqc⟩ := cam_hd g3
            refine ⟨_, rfl, _, rfl, _, rfl, d3, _, rfl, .inl ⟨_, _, .inr ⟨_, s5.keep _ _ eC trivial⟩, rfl, g2.symm⟩, ?_⟩
            refine ⟨tc, _, _, .int yp, rfl, rfl, stc, at_of (j := 1) rfl rfl, q1, _, yp, rfl, same_tup s5 sq1C, b0, ⟨by omega, by omega⟩, am_pos _, fun p7 H7 s7 n7 e7 => ?_⟩
            rw [mul_am] at e7
            refine ⟨_, _, amD_dp (SqT.of (s7.k e5)), amD_dp (SqT.of e7), rfl, rfl, ?_⟩
            rw [show (!PyData.eqv (amD (am (xl.2.1 + xl.2.2))) (amD (am (xl.1 * (yp : Rat))))) = false from ne_am (by rw [hsum, Rat.mul_comm])]
            exact ⟨_, rfl, rr _ (s5.trans s7)⟩
          exact ⟨xA.sm' (sC.trans sD), sD.keep _ _ eC trivial, _, _, _, _, rfl⟩
        · rintro σ HA ⟨xA, eA, x9, x10, x11, x14, rfl⟩
          exact ⟨eA, A, s, k, D, n, cl, lf, S.go (lock_back e3 xA eA), _, _, _, _, _, _, _, _, _, rfl⟩
      have hDD : 0 < D ∧ D.natAbs < 2 ^ 6550 := ⟨SB.st.gb.hD.1, pw5_to SB.st.gb.hD.2 (by omega)⟩
      refine ifS_sm (T := T) (decide (d0 < 4) && decide (s.row.length < 8)) (fun Q' rr => ?_) (fun HZ sZ => ?_)
      · refine ⟨_, rfl, pd, _, _, .int d0, rfl, rfl, SqL.of edB, at_of (j := 0) rfl rfl, _, _, rfl, rfl, _, rfl, ?_⟩
        by_cases z : d0 < 4
        · refine ifY (decide_eq_true z) ⟨_, rfl, ph, _, rfl, .inl (SqL.of eph), _, _, rfl, rfl, _, rfl, ?_⟩
          rw [List.length_map, show decide (((s.row.length : Nat) : Int) < 8) = (decide (d0 < 4) && decide (s.row.length < 8)) from by rw [decide_eq_true z, Bool.true_and]; exact decide_eq_decide.mpr (by omega)]
          exact rr _ Sm.refl
        · refine ifN (decide_eq_false z) ?_
          rw [decide_eq_false z, Bool.false_and] at rr
          exact rr _ Sm.refl
      have SB := SB.go sZ
      have edB := sZ.k edB
      have eph := sZ.k eph
      clear sZ
      by_cases h0 : d0 < 4 ∧ s.row.length < 8
      · refine ifY (by rw [decide_eq_true h0.1, decide_eq_true h0.2]; rfl) ?_
        have n38 : n < 600 := by have := SB.nj; omega
        obtain ⟨ew, sd'⟩ := SB.sd.enter gi n38 (p := 1 + d2) ⟨by omega, by omega⟩ h0.2
        obtain ⟨kv3, e3, l3⟩ := SB.e3
        obtain ⟨kv4, e4, l4⟩ := SB.e4
        have lk3 := dil_len l3
        rw [SB.sd.len] at lk3
        refine ⟨_, rfl, d3, kv3, rfl, e3, _, rfl, n, z1, by rw [lk3]; rfl, by omega, fun HC sC => ?_⟩
        dsimp only [gName, List.set]
        have SC := SB.go sC
        have edC := sC.k edB
        have e3C := sC.k e3
        have l3C := l3.sm sC
        refine ⟨_, rfl, c', _, _, rfl, SC.ch.ins, fl_no (by decide +kernel), c', A, s, rfl, SC.ch, fun qh eqh => ?_⟩
        refine ⟨_, rfl, pd, _, _, .int d2, rfl, rfl, SqL.of edC, at_of (j := 2) rfl rfl, _, _, rfl, rfl, by show 2 ≤ sizeLine; decide, fun tt ntt => ?_⟩
        have ut := same_upd (T := T) (o := HO.tup [V.ref qh, V.int (1 + d2)]) ntt
        have ett : Dp K (upd HC tt (.tup [V.ref qh, V.int (1 + d2)])) (.ref tt) (camD (s.now, 1 + d2)) := .tup (SqT.of upd_same) (.cons (amD_dp (same_tup ut eqh)) (.cons (.int _) .nil))
        have SD := SC.go ut
        have edD := ut.k edC
        have e3D := ut.k e3C
        have l3D := l3C.sm ut
        generalize upd HC tt (.tup [V.ref qh, V.int (1 + d2)]) = HD at *
        refine ⟨_, rfl, _, rfl, d3, _, rfl, DPut.k (k := Sum.inr (nameF n z1)) e3D (by rw [lk3]; exact szl (by omega)), ?_⟩
        have xD : Sx T [d3] HD (upd HD d3 (.dK (putK kv3 (Sum.inr (nameF n z1)) (.ref tt)))) := sx_upd e3D rfl List.mem_cons_self
        have l3E := (dil_put l3D (n := nameF n z1) ett).sx (n := 3) (fun _ => rfl) xD
        have e3E : upd HD d3 (.dK (putK kv3 (Sum.inr (nameF n z1)) (.ref tt))) d3 = _ := upd_same
        obtain ⟨kv4, e4, l4⟩ := SD.e4
        have e4E := xD.keep _ _ e4 trivial (.inr fun z => SD.ne (List.mem_singleton.mp z).symm)
        have l4E := l4.sx (n := 3) (fun _ => rfl) xD
        have chE := SD.ch.sx xD fun x hx z => SD.n3 (by rw [← List.mem_singleton.mp z]; exact hx)
        have edE := xD.lst edD fun z => by rw [List.mem_singleton.mp z, e3D] at edD; cases edD
        have smE : Sm T H _ := Sx.sm ((SD.sm.sx (S := [])).trans xD fun y hy => .inr (by rw [List.mem_singleton.mp hy]; exact SD.h3))
        generalize upd HD d3 (.dK (putK kv3 (Sum.inr (nameF n z1)) (.ref tt))) = HE at *
        refine ⟨_, rfl, c', _, _, rfl, chE.ins, fl_no (by decide +kernel), _, rfl, _, rfl, pd, _, _, .int d2, rfl, rfl, SqL.of edE, at_of (j := 2) rfl rfl, _, _, rfl, rfl, ?_⟩
        have gb := SD.st.gb
        have gl := gb.gl
        have tl := gb.tl
        have ll := gi.sd.ll
        have ls := gi.sd.ls
        refine ⟨c', A, s, nameF n z1, 1 + d2, rfl, chE, Nat.le_trans (name_ok n z1).2 (by decide), smE.ok hok, ⟨by omega, by omega, by omega, by omega, by omega, by omega⟩, fun _ HF xF chF => ?_, fun wd hw => by rw [ew] at hw; cases hw⟩
        obtain ⟨st', po, fi, wy, _⟩ := stg_sm SD.st (X := .enter (nameF n z1) (1 + d2)) ew
        refine kn _ _ ⟨A, _, k, D, n + 1, _, lf, ⟨Sx.sm ((smE.sx (S := [])).trans xF fun y hy => .inr (SD.cH y hy)), chF, st', ?_, SD.wy, SD.fr, SD.p, sd', by have := SD.nj; omega, ⟨_, xF.keep _ _ e3E trivial (.inr SD.n3), l3E.sx (n := 3) (fun _ => rfl) xF⟩, ⟨_, xF.keep _ _ e4E trivial (.inr SD.n4), l4E.sx (n := 3) (fun _ => rfl) xF⟩, SD.n3, SD.n4, SD.ne, SD.h3, SD.h4, SD.cH, ?_, SD.nd⟩, _, _, _, _, _, _, _, _, _, rfl⟩
        · show k ≤ 8 * s.poured.length + 8 * (j + 1)
          omega
        · intro y hy
          rw [putL_key_new (SD.sd.fresh n38)] at hy
          rcases List.mem_append.mp hy with w | w
          · exact SD.fc y w
          · rw [List.mem_singleton.mp w]
            exact gi.fn
      refine ifN (by by_cases z : d0 < 4 <;> by_cases y : s.row.length < 8 <;> simp [z, y] <;> exact h0 ⟨z, y⟩) ?_
      have pick : ∀ q : Int, 0 < q → q ≤ s.row.length → ∃ wi : Nat, d1 % q = (wi : Int) ∧ wi < s.row.length ∧ (wi : Int) < q := fun q q0 q1 => by
        have e1 := Int.emod_nonneg d1 (show q ≠ 0 by omega)
        have e2 := Int.emod_lt_of_pos d1 q0
        exact ⟨(d1 % q).toNat, by omega, by omega, by omega⟩
      have atw : ∀ {G : Hp} {wi : Nat} (hw : wi < s.row.length), G ph = some (.lst (s.row.map V.str)) → SqL K G ph (s.row.map V.str) ∧ atI (s.row.map V.str) (wi : Int) = some (.str s.row[wi]) := fun hw e => ⟨SqL.of e, atI_nat (by rw [List.getElem?_map, List.getElem?_eq_getElem hw]; rfl)⟩
      obtain ⟨wi, hw1, hw2, hw3⟩ : ∃ wi : Nat, (0 < s.row.length → d1 % (s.row.length : Int) = (wi : Int) ∧ wi < s.row.length) ∧ (0 < s.row.length → wi < s.row.length) ∧ True := by
        by_cases z : 0 < s.row.length
        · obtain ⟨wi, e1, e2, _⟩ := pick s.row.length (by omega) (by omega)
          exact ⟨wi, fun _ => ⟨e1, e2⟩, fun _ => e2, trivial⟩
        · exact ⟨0, fun y => absurd y z, fun y => absurd y z, trivial⟩
      obtain ⟨cd, hcd⟩ : ∃ cd : Bool, (0 < s.row.length → cd = !decide (s.row.getD wi "" ∈ s.row.filter fun n => decide (n ∈ s.leaving))) := ⟨_, fun _ => rfl⟩
      refine ifS_sm (T := T) (decide (d0 < 6) && (decide (0 < s.row.length) && cd)) (fun Q' rr => ?_) (fun HY sY => ?_)
      · refine ⟨_, rfl, pd, _, _, .int d0, rfl, rfl, SqL.of edB, at_of (j := 0) rfl rfl, _, _, rfl, rfl, _, rfl, ?_⟩
        by_cases z : d0 < 6
        · rw [decide_eq_true z, Bool.true_and] at rr
          refine ifY (decide_eq_true z) ⟨_, rfl, ph, _, rfl, .inl (SqL.of eph), _, _, rfl, rfl, _, rfl, ?_⟩
          by_cases y : 0 < s.row.length
          · rw [decide_eq_true y, Bool.true_and] at rr
            refine ifY (decide_eq_true (by rw [List.length_map]; omega)) ?_
            obtain ⟨e1, e2⟩ := hw1 y
            refine ⟨_, rfl, _, rfl, pd, _, _, .int d1, rfl, rfl, SqL.of edB, at_of (j := 1) rfl rfl, _, rfl, ph, _, rfl, .inl (SqL.of eph), _, _, rfl, rfl, by rw [List.length_map]; omega, ph, _, _, _, rfl, rfl, SqL.of eph, by rw [List.length_map, e1]; exact (atw e2 eph).2, _, rfl, c', _, _, rfl, SB.ch.ins, fl_no (by decide +kernel), c', A, s, rfl, SB.ch, by omega, fun p6 H6 s6 np6 e6 => ?_⟩
            refine ⟨p6, _, rfl, .inl (SqL.of e6), rfl, flat_strs _, _, rfl, ?_⟩
            have hq := hcd y
            rw [getD_lt e2] at hq
            rw [inV_strs, if_pos rfl, ← hq]
            exact rr _ s6
          · rw [decide_eq_false y, Bool.false_and] at rr
            exact ifN (decide_eq_false (by rw [List.length_map]; omega)) (rr _ Sm.refl)
        · rw [decide_eq_false z, Bool.false_and] at rr
          exact ifN (decide_eq_false z) (rr _ Sm.refl)
      have SB := SB.go sY
      have edB := sY.k edB
      have eph := sY.k eph
      clear sY
      by_cases h1 : d0 < 6 ∧ 0 < s.row.length ∧ cd = true
      · refine ifY (by rw [decide_eq_true h1.1, decide_eq_true h1.2.1, h1.2.2]; rfl) ?_
        obtain ⟨e1, e2⟩ := hw1 h1.2.1
        have hc := hcd h1.2.1
        rw [h1.2.2, getD_lt e2] at hc
        have nol : s.row[wi] ∉ s.leaving := fun z => by
          rw [decide_eq_true (List.mem_filter.mpr ⟨List.getElem_mem e2, decide_eq_true z⟩)] at hc
          cases hc
        have ew : Deed.no s (.call s.row[wi]) = none := by
          show callW s _ = none
          unfold callW
          rw [if_pos (List.getElem_mem e2), if_neg nol]
        refine ⟨_, rfl, c', _, _, rfl, SB.ch.ins, fl_no (by decide +kernel), _, rfl, _, rfl, pd, _, _, .int d1, rfl, rfl, SqL.of edB, at_of (j := 1) rfl rfl, _, rfl, ph, _, rfl, .inl (SqL.of eph), _, _, rfl, rfl, by rw [List.length_map]; omega, ph, _, _, _, rfl, rfl, SqL.of eph, by rw [List.length_map, e1]; exact (atw e2 eph).2, ?_⟩
        have lvb : s.leaving.length ≤ 1000 := by have := nd_le gi.lvn gi.lv; omega
        exact ⟨c', A, s, _, rfl, SB.ch, lvb, fun _ H2 x2 ch2 => kn _ _ ⟨A, _, k, D, n, cl, lf, SB.deed ew x2 ch2 (SB.sd.as rfl rfl (fun _ => Iff.rfl) rfl), _, _, _, _, _, _, _, _, _, rfl⟩, fun wd hw => by rw [show callW s _ = none from ew] at hw; cases hw⟩
      refine ifN (by
        by_cases z : d0 < 6 <;> by_cases y : 0 < s.row.length <;> cases hz : cd <;> simp [z, y]
        exact h1 ⟨z, y, hz⟩) ?_
      clear hw1 hw2 hw3 hcd
      obtain ⟨wj, hv1⟩ : ∃ wj : Nat, 1 < s.row.length → d1 % ((s.row.length : Int) - 1) = (wj : Int) ∧ wj + 1 < s.row.length := by
        by_cases z : 1 < s.row.length
        · obtain ⟨w, e1, e2, e3⟩ := pick (s.row.length - 1) (by omega) (by omega)
          exact ⟨w, fun _ => ⟨e1, by omega⟩⟩
        · exact ⟨0, fun y => absurd y z⟩
      refine ifS_sm (T := T) (decide (d0 = 6) && decide (1 < s.row.length)) (fun Q' rr => ?_) (fun HX sX => ?_)
      · refine ⟨_, rfl, pd, _, _, .int d0, rfl, rfl, SqL.of edB, at_of (j := 0) rfl rfl, rfl, _, rfl, ?_⟩
        have ed6 : decide (V.int d0 = V.int 6) = decide (d0 = 6) := decide_eq_decide.mpr ⟨V.int.inj, congrArg V.int⟩
        by_cases z : d0 = 6
        · refine ifY (by rw [ed6]; exact decide_eq_true z) ⟨_, rfl, ph, _, rfl, .inl (SqL.of eph), _, _, rfl, rfl, _, rfl, ?_⟩
          rw [List.length_map, show decide ((1 : Int) < ((s.row.length : Nat) : Int)) = (decide (d0 = 6) && decide (1 < s.row.length)) from by rw [decide_eq_true z, Bool.true_and]; exact decide_eq_decide.mpr (by omega)]
          exact rr _ Sm.refl
        · refine ifN (by rw [ed6]; exact decide_eq_false z) ?_
          rw [decide_eq_false z, Bool.false_and] at rr
          exact rr _ Sm.refl
      have SB := SB.go sX
      have edB := sX.k edB
      have eph := sX.k eph
      clear sX
      by_cases h2 : d0 = 6 ∧ 1 < s.row.length
      · refine ifY (by rw [decide_eq_true h2.1, decide_eq_true h2.2]; rfl) ?_
        obtain ⟨e1, e2⟩ := hv1 h2.2
        refine ⟨_, rfl, c', _, _, rfl, SB.ch.ins, fl_no (by decide +kernel), _, rfl, _, rfl, pd, _, _, .int d1, rfl, rfl, SqL.of edB, at_of (j := 1) rfl rfl, _, rfl, ph, _, rfl, .inl (SqL.of eph), _, _, rfl, rfl, _, _, rfl, rfl, by rw [List.length_map]; omega, ph, _, _, _, rfl, rfl, SqL.of eph, by rw [List.length_map, e1]; exact (atw (by omega) eph).2, ?_⟩
        have ew : Deed.no s (.swap s.row[wj]) = none := by
          show swapW s _ = none
          unfold swapW
          rw [if_pos (List.getElem_mem _), idx_str gi.nd (by omega), if_neg (by omega)]
        have mm := SB.st.gb.mm
        have er : ∀ x, x ∈ (Deed.to s (.swap s.row[wj])).row ↔ x ∈ s.row := fun x => by
          show x ∈ swapL s.row (s.row.idxOf s.row[wj]) ↔ _
          rw [idx_str gi.nd (by omega)]
          exact swapL_mem e2
        exact ⟨c', A, s, _, rfl, SB.ch, gi.sd, fun m hm => by have := mm m hm; omega, fun _ H2 x2 ch2 => kn _ _ ⟨A, _, k, D, n, cl, lf, SB.deed ew x2 ch2 (SB.sd.as rfl rfl er rfl), _, _, _, _, _, _, _, _, _, rfl⟩, fun wd hw => by rw [show swapW s _ = none from ew] at hw; cases hw⟩
      refine ifN (by by_cases z : d0 = 6 <;> by_cases y : 1 < s.row.length <;> simp [z, y] <;> exact h2 ⟨z, y⟩) ?_
      clear hv1 pick atw
      refine ⟨_, rfl, c', _, _, rfl, SB.ch.ins, fl_no (by decide +kernel), c', A, s, rfl, SB.ch, _, _, rfl, rfl, _, rfl, ?_⟩
      by_cases h60 : s.marks.length < 60
      case neg =>
        rw [decide_eq_false (show ¬ ((s.marks.length : Nat) : Int) < 60 by omega)]
        exact iteF (kn _ _ ⟨A, s, k, D, n, cl, lf, SB.idle, _, _, _, _, _, _, _, _, _, rfl⟩)
      rw [decide_eq_true (show ((s.marks.length : Nat) : Int) < 60 by omega)]
      refine iteT ?_
      obtain ⟨num, hnum, nm1, nm9⟩ : ∃ num : Int, 1 + dx3 = num ∧ 1 ≤ num ∧ num ≤ 9 := ⟨1 + dx3, rfl, by omega, by omega⟩
      obtain ⟨den, hden, dn1, dn7⟩ : ∃ den : Int, 1 + dx4 = den ∧ 1 ≤ den ∧ den ≤ 7 := ⟨1 + dx4, rfl, by omega, by omega⟩
      obtain ⟨h, hh⟩ : ∃ h : Rat, (num : Rat) / (den : Rat) = h := ⟨_, rfl⟩
      have hq : hoursB (am h) = true ∧ Bd 6650 (am h) ∧ amt num den = am h := by
        have e := amt_am (n := num) (d := den) (by omega)
        have sp := amt_spec (n := num) (d := den) (by omega)
        have low := sp.2.2.2
        have hnum := sp.2.2.1
        rw [e, hh] at low hnum
        have hp := am_pos h
        have nn : 0 ≤ h := by rw [← hh]; exact div_nn dn1 (Rat.intCast_nonneg.mpr (by omega))
        have le : h ≤ 60 := by rw [← hh]; exact Rat.le_trans (div_le1 dn1 (Rat.intCast_nonneg.mpr (by omega))) (Rat.le_trans (Rat.intCast_le_intCast (b := 40) |>.mpr (by omega)) (by decide))
        refine ⟨?_, ⟨Nat.lt_of_le_of_lt (show (am h).1.natAbs ≤ 40 by omega) (Nat.lt_of_lt_of_le (show 40 < 2 ^ 6 by decide) (Nat.pow_le_pow_right (by decide) (by decide))), Nat.lt_of_le_of_lt (show (am h).2.natAbs ≤ 7 by omega) (Nat.lt_of_lt_of_le (show 7 < 2 ^ 6 by decide) (Nat.pow_le_pow_right (by decide) (by decide)))⟩, by rw [e, hh]⟩
        unfold hoursB
        rw [← am_zero, below_am, show ((60, 1) : Am) = am 60 from (am_int 60).symm, below_am, decide_eq_false (Rat.not_lt.mpr nn), decide_eq_false (Rat.not_lt.mpr le), decide_eq_true (show (am h).2 ≤ 60 by omega)]
        rfl
      obtain ⟨hw1, hw2, hw3⟩ := hq
      have st := SB.st
      generalize HX = HB at *
      refine seq_as (fun σ' H2 => ∃ (t : Addr) (A1 : Ad) (s1 : Ch), σ' = [some (.ref a), some (.int z1), some (.int z2), some (.ref d3), some (.ref d4), some (.int (1 + (j : Int))), some (.ref ph), some (.ref t), x8, x9, x10, x11, some (.ref pd), some (.ref c'), x14] ∧ Sx T [c'] HB H2 ∧ ChAt K CC H2 c' A1 s1 ∧ (∀ x ∈ ownC c' A1, x ∈ ownC c' A ∨ HB x = none) ∧ ((∃ rows pr us, GoR s h s1 rows ∧ SqT K H2 t [.str "told", .ref pr] ∧ H2 pr = some (.lst us) ∧ DpAll K H2 us (rows.map gwD) ∧ pr ∉ ownC c' A1 ∧ HB pr = none) ∨ (s1 = s ∧ SqT K H2 t [.str "too long"]))) (fun σ' HF pp => ?_) (fun kn => ?_)
      rotate_left
      · refine ⟨SB.sm.ok hok _ hPT, fun Ha sa => ?_⟩
        have cha := SB.ch.sm sa
        have eda := sa.k edB
        refine ⟨_, rfl, c', _, _, rfl, cha.ins, fl_no (by decide +kernel), _, rfl, pd, _, _, .int dx3, rfl, rfl, SqL.of eda, at_of (j := 3) rfl rfl, _, _, rfl, rfl, _, rfl, pd, _, _, .int dx4, rfl, rfl, SqL.of eda, at_of (j := 4) rfl rfl, _, _, rfl, rfl, num, den, by show [V.int (1 + dx3), V.int (1 + dx4)] = _; rw [hnum, hden], by omega, Nat.lt_of_le_of_lt (show den.natAbs ≤ 7 by omega) (Nat.lt_of_lt_of_le (show 7 < 2 ^ 6 by decide) (Nat.pow_le_pow_right (by decide) (by decide))), Nat.lt_of_le_of_lt (show num.natAbs ≤ 40 by omega) (Nat.lt_of_lt_of_le (show 40 < 2 ^ 6 by decide) (Nat.pow_le_pow_right (by decide) (by decide))), fun p6 Hb sb np6 e6 => ?_⟩
        have chb := cha.sm sb
        have sBb := sa.trans sb
        rw [hw3] at e6
        refine ⟨c', A, s, p6, _, rfl, chb, SqT.of e6, hw2, (SB.sm.trans sBb).ok hok, SB.wy, SB.fr, fun z => absurd (hw1.symm.trans z) (by decide), fun _ => ?_⟩
        obtain ⟨D', st', hq⟩ := stg_go st hw1
        refine ⟨_, k, _, D', rfl, st', hq, ⟨.inl (by omega), by omega, by omega, by decide⟩, fun s1 rows g Hc A1 p us x ch1 fr np nh ep du => ⟨by show 2 ≤ sizeLine; decide, fun t nt => ?_⟩, fun gx cls d Hc sc rf => ⟨"too long", rf, fun t nt => ?_⟩⟩
        · have u := same_upd (T := T) (o := HO.tup [V.str "told", V.ref p]) nt
          refine kn _ _ ⟨t, A1, s1, rfl, ((sBb.sx (S := [c'])).step x).sm' u, ch1.sm u, fun y hy => (fr y hy).imp (fun z => by rw [z]; exact List.mem_cons_self) fun z => sBb.free _ z, .inl ⟨rows, p, us, g, SqT.of upd_same, u.k ep, dpa_same u _ _ du, np, sBb.free _ nh⟩⟩
        · have u := same_upd (T := T) (o := HO.tup [V.str "too long"]) nt
          have su := sBb.trans (sc.trans u)
          exact kn _ _ ⟨t, A, s, rfl, su.sx, SB.ch.sm su, fun y hy => .inl hy, .inr ⟨rfl, SqT.of upd_same⟩⟩
      obtain ⟨t, A1, s1, rfl, xF, ch1, fr1, out⟩ := pp
      have x0 : Sx T [c'] H HF := (SB.sm.sx (S := [c'])).trans xF fun y hy => .inl hy
      have cHn : H c' = none := SB.cH c' List.mem_cons_self
      have s0F : Sm T H HF := Sx.sm (x0.mono fun y hy => .inr (by rw [List.mem_singleton.mp hy]; exact cHn))
      have n3c : d3 ∉ [c'] := fun z => SB.n3 (by rw [List.mem_singleton.mp z]; exact List.mem_cons_self)
      have n4c : d4 ∉ [c'] := fun z => SB.n4 (by rw [List.mem_singleton.mp z]; exact List.mem_cons_self)
      obtain ⟨kv3, e3, l3⟩ := SB.e3
      obtain ⟨kv4, e4, l4⟩ := SB.e4
      have e3F := xF.keep _ _ e3 trivial (.inr n3c)
      have l3F := l3.sx (n := 3) (fun _ => rfl) xF
      have e4F := xF.keep _ _ e4 trivial (.inr n4c)
      have l4F := l4.sx (n := 3) (fun _ => rfl) xF
      have n31 : d3 ∉ ownC c' A1 := fun z => (fr1 d3 z).elim SB.n3 fun y => by rw [e3] at y; cases y
      have n41 : d4 ∉ ownC c' A1 := fun z => (fr1 d4 z).elim SB.n4 fun y => by rw [e4] at y; cases y
      have cH1 : ∀ x ∈ ownC c' A1, H x = none := fun x hx => (fr1 x hx).elim (SB.cH x) fun z => SB.sm.free _ z
      rcases out with ⟨rows, pr, us, g, et, epr, dpr, npr, npB⟩ | ⟨rfl, et⟩
      · refine ⟨_, rfl, t, _, _, .str "told", rfl, rfl, et, at_of (j := 0) rfl rfl, rfl, _, rfl, ifY (decide_eq_true rfl) ?_⟩
        refine ⟨_, rfl, t, _, _, .ref pr, rfl, rfl, et, at_of (j := 1) rfl rfl, ?_⟩
        have pr4 : pr ∉ [d4] := fun z => by rw [List.mem_singleton.mp z] at npB; rw [npB] at e4; cases e4
        have lus := dpa_len dpr
        rw [List.length_map] at lus
        obtain ⟨D', st', hq'⟩ := stg_go st hw1
        have f := goR_facts st' st.gb.nw hq' g
        have po := f.po
        have frl := f.rl
        have lfb : lf.length ≤ 39 := by
          have a := nd_le SB.nd SB.sd.lfk
          have b := SB.sd.len
          have c := SB.nj
          rw [List.length_map, List.length_map] at a
          omega
        refine ⟨pr, rfl, ⟨_, SqL.of epr⟩, for_list (K := K) (a := pr) (xs := us) (fun i σ H2 => Sx T [d4] HF H2 ∧ (∃ kv, H2 d4 = some (.dK kv) ∧ DiL amR K H2 kv (leftsF lf (rows.take i))) ∧ ∃ (x8 : Option V), σ = [some (.ref a), some (.int z1), some (.int z2), some (.ref d3), some (.ref d4), some (.int (1 + (j : Int))), some (.ref ph), some (.ref t), x8, x9, x10, x11, some (.ref pd), some (.ref c'), x14]) ⟨Sx.refl, ⟨kv4, e4F, l4F⟩, _, rfl⟩ (fun i σ H2 _ ⟨x, _⟩ => SqL.of (x.lst epr pr4)) ?_ ?_⟩
        · rintro i v σ H2 hi ⟨xK, ⟨kv, e4K, l4K⟩, x8, rfl⟩
          have hil : i < rows.length := by have := (List.getElem?_eq_some_iff.mp hi).1; omega
          obtain ⟨v', gv, dv⟩ := dpa_get dpr (i := i) (d := gwD rows[i]) (by rw [List.getElem?_map, List.getElem?_eq_getElem hil]; rfl)
          rw [hi] at gv
          cases gv
          have dvK := xK.dp 3 _ _ (by unfold gwD; split <;> rfl) dv
          have tk : leftsF lf (rows.take (i + 1)) = leftF (leftsF lf (rows.take i)) rows[i] := by
            unfold leftsF
            rw [List.take_add_one, List.getElem?_eq_getElem hil, List.foldl_append]
            rfl
          rw [tk]
          have lkv := dil_len l4K
          have lln := lefts_len (rows.take i) lf
          rw [List.length_take] at lln
          generalize hr : rows[i] = r at dvK tk ⊢
          obtain ⟨rt, ro, rn⟩ := r
          dsimp only [gName, List.set]
          cases ro with
          | some o =>
            obtain ⟨tt, qq, rfl, stt, sqq⟩ := gw_out dvK
            refine ⟨_, rfl, tt, _, _, .str "out", rfl, rfl, stt, at_of (j := 1) rfl rfl, rfl, _, rfl, ifN (sN "out" "left" (by decide +kernel)) ?_⟩
            exact ⟨xK, ⟨kv, e4K, l4K⟩, _, rfl⟩
          | none =>
            obtain ⟨tt, qq, rfl, stt, sqq⟩ := gw_left dvK
            refine ⟨_, rfl, tt, _, _, .str "left", rfl, rfl, stt, at_of (j := 1) rfl rfl, rfl, _, rfl, ifY (decide_eq_true rfl) ?_⟩
            refine ⟨_, rfl, tt, _, _, .ref qq, rfl, rfl, stt, at_of (j := 0) rfl rfl, _, rfl, _, rfl, tt, _, _, .str rn, rfl, rfl, stt, at_of (j := 2) rfl rfl, d4, _, rfl, DPut.k (k := Sum.inr rn) e4K (by rw [lkv]; exact szl (by omega)), ?_⟩
            have xM : Sx T [d4] H2 (upd H2 d4 (.dK (putK kv (Sum.inr rn) (.ref qq)))) := sx_upd e4K rfl List.mem_cons_self
            have l4M := (dil_put l4K (n := rn) (x := rt) (v := .ref qq) (amD_dp sqq)).sx (n := 3) (fun _ => rfl) xM
            exact ⟨xK.step xM, ⟨_, upd_same, l4M⟩, _, rfl⟩
        · rintro σ H2 ⟨xK, ⟨kv, e4K, l4K⟩, x8, rfl⟩
          rw [lus, List.take_length] at l4K
          have e3K := xK.keep _ _ e3F trivial (.inr fun z => SB.ne (List.mem_singleton.mp z))
          have l3K := l3F.sx (n := 3) (fun _ => rfl) xK
          have ch1K := ch1.sx xK fun x hx z => n41 (by rw [← List.mem_singleton.mp z]; exact hx)
          have s0K : Sm T H H2 := Sx.sm ((s0F.sx (S := [])).trans xK fun y hy => .inr (by rw [List.mem_singleton.mp hy]; exact SB.h4))
          obtain ⟨k1, D1, st1, fc1, hk1⟩ := (fr_inv cl).doing (X := .go h) (td := .list (rows.map gwD)) (s' := s1) st SB.fc ⟨hw1, rows, g, rfl, by omega⟩
          have w := ledw_go st' hq' g
          have kn' := kn
          refine kn _ _ ⟨A1, s1, k1, D1, n, cl, leftsF lf rows, ⟨s0K, ch1K, st1, by omega, by rw [f.wy]; exact SB.wy, by rw [f.fi, f.wy]; exact SB.fr, by omega, SB.sd.go gi w (by rw [f.nw]; have := hq'.2.1; grind), by have := SB.nj; omega, ⟨kv3, e3K, l3K⟩, ⟨kv, e4K, l4K⟩, n31, n41, SB.ne, SB.h3, SB.h4, cH1, fc1, lefts_nd SB.nd⟩, _, _, _, _, _, _, _, _, _, rfl⟩
      · refine ⟨_, rfl, t, _, _, .str "too long", rfl, rfl, et, at_of (j := 0) rfl rfl, rfl, _, rfl, ifN (sN "too long" "told" (by decide +kernel)) ?_⟩
        refine ⟨Nat.zero_le _, fun l9 nl9 => ?_⟩
        have u9 := same_upd (T := T) (o := HO.lst []) nl9
        have S9 : S18 K T CC z1 j H (upd HF l9 (.lst [])) c' d3 d4 A1 s1 k D n cl lf := ⟨s0F.trans u9, ch1.sm u9, st, SB.k, SB.wy, SB.fr, SB.p, SB.sd, SB.nj, ⟨_, u9.k e3F, l3F.sm u9⟩, ⟨_, u9.k e4F, l4F.sm u9⟩, n31, n41, SB.ne, SB.h3, SB.h4, cH1, SB.fc, SB.nd⟩
        have e9 : upd HF l9 (.lst []) l9 = some (.lst (([] : List Int).map V.int)) := upd_same
        generalize upd HF l9 (.lst []) = HG at *
        refine ⟨l9, rfl, ⟨_, SqL.of e9⟩, for_list (K := K) (a := l9) (xs := []) (fun i σ H2 => S18 K T CC z1 j H H2 c' d3 d4 A1 s1 k D n cl lf ∧ Sm T HG H2 ∧ ∃ (x8 : Option V), σ = [some (.ref a), some (.int z1), some (.int z2), some (.ref d3), some (.ref d4), some (.int (1 + (j : Int))), some (.ref ph), some (.ref t), x8, x9, x10, x11, some (.ref pd), some (.ref c'), x14]) ⟨S9, Sm.refl, _, rfl⟩ (fun i σ H2 _ ⟨_, x, _⟩ => SqL.of (x.k e9)) ?_ ?_⟩
        · rintro i v σ H2 hi _
          rw [List.getElem?_nil] at hi
          cases hi
        · rintro σ H2 ⟨S2, _, x8, rfl⟩
          exact kn _ _ ⟨A1, s1, k, D, n, cl, lf, S2.idle, _, _, _, _, _, _, _, _, _, rfl⟩
    · rintro σ H' ⟨A, s, k, D, n, cl, lf, S, x5, x6, x7, x8, x9, x10, x11, x12, x14, rfl⟩
      have gi := S.st.gi
      have nj := S.nj
      obtain ⟨kv3, e3, l3⟩ := S.e3
      have lk3 := dil_len l3
      rw [S.sd.len] at lk3
      dsimp only
      refine ⟨_, rfl, d3, kv3, rfl, e3, _, rfl, n, z1, by rw [lk3]; rfl, by omega, fun HA sA => ?_⟩
      refine ⟨by show 3 ≤ sizeLine; decide, fun l4 nl4 => ?_⟩
      have u4 := same_upd (T := T) (o := HO.lst [V.str (nameF n z1), V.str "", V.str "A"]) nl4
      have e4 : upd HA l4 (.lst [V.str (nameF n z1), V.str "", V.str "A"]) l4 = some (.lst (([nameF n z1, "", "A"] : List Str).map V.str)) := upd_same
      have SD := S.go (sA.trans u4)
      generalize upd HA l4 (.lst [V.str (nameF n z1), V.str "", V.str "A"]) = HD at *
      have keyn : ∀ x ∈ s.ledgers.map (·.1), nameB x = true := fun x hx => SD.sd.name x (by rw [← SD.sd.lk]; exact hx)
      have nokey : ∀ {x : Str}, x ∉ s.ledgers.map (·.1) → getL s.ledgers x = none := fun {x} hx => by
        cases e : getL s.ledgers x with
        | none => rfl
        | some b => exact absurd (List.mem_map_of_mem (f := (·.1)) (getL_mem e)) hx
      have out : ∀ x ∈ ([nameF n z1, "", "A"] : List Str), getL s.ledgers x = none := fun x hx => by
        refine nokey ?_
        simp only [List.mem_cons, List.not_mem_nil, or_false] at hx
        rcases hx with rfl | rfl | rfl
        · rw [SD.sd.lk]; exact SD.sd.fresh (by omega)
        · exact fun z => absurd (keyn _ z) (by decide +kernel)
        · exact fun z => absurd (keyn _ z) (by decide +kernel)
      generalize hzs : ([nameF n z1, "", "A"] : List Str) = zs at *
      refine ⟨l4, rfl, ⟨_, SqL.of e4⟩, for_list (K := K) (a := l4) (xs := zs.map V.str) (fun i σ H2 => Sm T HD H2 ∧ ∃ (x14 : Option V), σ = [some (.ref a), some (.int z1), some (.int z2), some (.ref d3), some (.ref d4), x5, x6, x7, x8, x9, x10, x11, x12, some (.ref c'), x14]) ⟨Sm.refl, _, rfl⟩ (fun i σ H2 _ ⟨sm, _⟩ => SqL.of (sm.k e4)) ?_ ?_⟩
      · rintro i v σ H2 hi ⟨sm, x14, rfl⟩
        have hil : i < zs.length := by have := (List.getElem?_eq_some_iff.mp hi).1; rw [List.length_map] at this; exact this
        rw [List.getElem?_map, List.getElem?_eq_getElem hil] at hi
        cases hi
        have no := out _ (List.getElem_mem hil)
        dsimp only [gName, List.set]
        refine ⟨(SD.sm.trans sm).ok hok _ hPT, fun Ha sa => ?_⟩
        have cha := SD.ch.sm (sm.trans sa)
        refine ⟨_, rfl, c', _, _, rfl, cha.ins, fl_no (by decide +kernel), _, rfl, c', A, s, zs[i], rfl, cha, (fun x hx => by rw [no] at hx; cases hx), fun _ cls d Hb sb rf => ⟨"no hand", rf, fun t1 n1 => ?_⟩⟩
        refine ⟨by show 1 ≤ sizeLine; decide, fun t2 n2 => ?_⟩
        have u1 := same_upd (T := T) (o := HO.tup [V.str "no hand"]) n1
        have u2 := same_upd (T := T) (o := HO.tup [V.str "no hand"]) n2
        exact ⟨.ref t1, .ref t2, .tuple [.str "no hand"], rfl, .tup (same_tup u2 (SqT.of upd_same)) (.cons (.str _) .nil), .tup (SqT.of upd_same) (.cons (.str _) .nil), rfl, fun H5 s5 => ⟨_, rfl, iteF ⟨sm.trans (sa.trans (sb.trans (u1.trans (u2.trans s5)))), _, rfl⟩⟩⟩
      · rintro σ H2 ⟨sm, x14, rfl⟩
        exact q _

end
set_option maxHeartbeats 0 in
theorem all_mk {l : PySem.W.OpenLaw} {w : World} {K : PySem.W.Frag} {h : Heap} {mg : Str → Option Value} {fa : Addr} (X : K.In h) (G : h.Ns mainGlobals mg) (hfa : mg "law" = some (.ref fa)) (c : HrSays hrFx hrFn hrTf h K)
    : LamX.LawAtS l w K (L2.CX l.prog w) 24 63 "_law_script" mg fa h := by
  have aCC : mg "Chain" = some (.ref (He.ga K "Chain")) := He.glo_ok X G (c.g 0 rfl)
  have clC : Cls K (He.ga K "Chain") := He.cls_ok (c.g 1 rfl)
  have mkC : Mk K (He.ga K "Chain") (He.ma K (He.ga K "Chain") "__init__") := He.mkr_ok (c.g 2 rfl)
  have nF_fire : PySem.W.findIn K (.ref (He.ga K "Chain")) "fire" = some none := He.noat_ok (c.g 3 rfl)
  have nF_stretches : PySem.W.findIn K (.ref (He.ga K "Chain")) "stretches" = some none := He.noat_ok (c.g 4 rfl)
  have nF_now : PySem.W.findIn K (.ref (He.ga K "Chain")) "now" = some none := He.noat_ok (c.g 5 rfl)
  have nF_row : PySem.W.findIn K (.ref (He.ga K "Chain")) "row" = some none := He.noat_ok (c.g 6 rfl)
  have nF_loads : PySem.W.findIn K (.ref (He.ga K "Chain")) "loads" = some none := He.noat_ok (c.g 7 rfl)
  have nF_spots : PySem.W.findIn K (.ref (He.ga K "Chain")) "spots" = some none := He.noat_ok (c.g 8 rfl)
  have nF_tempos : PySem.W.findIn K (.ref (He.ga K "Chain")) "tempos" = some none := He.noat_ok (c.g 9 rfl)
  have nF_leaving : PySem.W.findIn K (.ref (He.ga K "Chain")) "leaving" = some none := He.noat_ok (c.g 10 rfl)
  have nF_ledgers : PySem.W.findIn K (.ref (He.ga K "Chain")) "ledgers" = some none := He.noat_ok (c.g 11 rfl)
  have nF_marks : PySem.W.findIn K (.ref (He.ga K "Chain")) "marks" = some none := He.noat_ok (c.g 12 rfl)
  have nF_poured : PySem.W.findIn K (.ref (He.ga K "Chain")) "poured" = some none := He.noat_ok (c.g 13 rfl)
  have a1 : mg "_law_word" = some (.ref (He.ga K "_law_word")) := He.glo_ok X G (c.g 14 rfl)
  obtain ⟨fd1, T1⟩ := c.fun_ (x := "_law_word") (q := "_law_word") (st := s_l_word) (p := ("_law_word", none)) 0 rfl
  have b1 := T1.binds (ps := ["_law_asked"]) fun _ _ _ _ _ _ us hl => match us, hl with | [_], _ => rfl
  have a2 : mg "is_number" = some (.ref (He.ga K "is_number")) := He.glo_ok X G (c.g 15 rfl)
  obtain ⟨fd2, T2⟩ := c.fun_ (x := "is_number") (q := "is_number") (st := s_p_is_number) (p := ("is_number", none)) 1 rfl
  have b2 := T2.binds (ps := ["thing"]) fun _ _ _ _ _ _ us hl => match us, hl with | [_], _ => rfl
  have a3 : mg "is_within" = some (.ref (He.ga K "is_within")) := He.glo_ok X G (c.g 16 rfl)
  obtain ⟨fd3, T3⟩ := c.fun_ (x := "is_within") (q := "is_within") (st := s_p_is_within) (p := ("is_within", none)) 2 rfl
  have b3 := T3.binds (ps := ["thing", "least", "most"]) fun _ _ _ _ _ _ us hl => match us, hl with | [_, _, _], _ => rfl
  have a4 : mg "common_divisor" = some (.ref (He.ga K "common_divisor")) := He.glo_ok X G (c.g 17 rfl)
  obtain ⟨fd4, T4⟩ := c.fun_ (x := "common_divisor") (q := "common_divisor") (st := s_p_common_divisor) (p := ("common_divisor", none)) 3 rfl
  have b4 := T4.binds (ps := ["one", "other"]) fun _ _ _ _ _ _ us hl => match us, hl with | [_, _], _ => rfl
  have a5 : mg "amount" = some (.ref (He.ga K "amount")) := He.glo_ok X G (c.g 18 rfl)
  obtain ⟨fd5, T5⟩ := c.fun_ (x := "amount") (q := "amount") (st := s_p_amount) (p := ("amount", none)) 4 rfl
  have b5 := T5.binds (ps := ["num", "den"]) fun _ _ _ _ _ _ us hl => match us, hl with | [_, _], _ => rfl
  have a6 : mg "plus" = some (.ref (He.ga K "plus")) := He.glo_ok X G (c.g 19 rfl)
  obtain ⟨fd6, T6⟩ := c.fun_ (x := "plus") (q := "plus") (st := s_p_plus) (p := ("plus", none)) 5 rfl
  have b6 := T6.binds (ps := ["one", "other"]) fun _ _ _ _ _ _ us hl => match us, hl with | [_, _], _ => rfl
  have a7 : mg "minus" = some (.ref (He.ga K "minus")) := He.glo_ok X G (c.g 20 rfl)
  obtain ⟨fd7, T7⟩ := c.fun_ (x := "minus") (q := "minus") (st := s_p_minus) (p := ("minus", none)) 6 rfl
  have b7 := T7.binds (ps := ["one", "other"]) fun _ _ _ _ _ _ us hl => match us, hl with | [_, _], _ => rfl
  have a8 : mg "times" = some (.ref (He.ga K "times")) := He.glo_ok X G (c.g 21 rfl)
  obtain ⟨fd8, T8⟩ := c.fun_ (x := "times") (q := "times") (st := s_p_times) (p := ("times", none)) 7 rfl
  have b8 := T8.binds (ps := ["one", "other"]) fun _ _ _ _ _ _ us hl => match us, hl with | [_, _], _ => rfl
  have a9 : mg "over" = some (.ref (He.ga K "over")) := He.glo_ok X G (c.g 22 rfl)
  obtain ⟨fd9, T9⟩ := c.fun_ (x := "over") (q := "over") (st := s_p_over) (p := ("over", none)) 8 rfl
  have b9 := T9.binds (ps := ["one", "other"]) fun _ _ _ _ _ _ us hl => match us, hl with | [_, _], _ => rfl
  have a10 : mg "below" = some (.ref (He.ga K "below")) := He.glo_ok X G (c.g 23 rfl)
  obtain ⟨fd10, T10⟩ := c.fun_ (x := "below") (q := "below") (st := s_p_below) (p := ("below", none)) 9 rfl
  have b10 := T10.binds (ps := ["one", "other"]) fun _ _ _ _ _ _ us hl => match us, hl with | [_, _], _ => rfl
  have a11 : mg "lesser" = some (.ref (He.ga K "lesser")) := He.glo_ok X G (c.g 24 rfl)
  obtain ⟨fd11, T11⟩ := c.fun_ (x := "lesser") (q := "lesser") (st := s_p_lesser) (p := ("lesser", none)) 10 rfl
  have b11 := T11.binds (ps := ["one", "other"]) fun _ _ _ _ _ _ us hl => match us, hl with | [_, _], _ => rfl
  have a12 : mg "_law_cell" = some (.ref (He.ga K "_law_cell")) := He.glo_ok X G (c.g 25 rfl)
  obtain ⟨fd12, T12⟩ := c.fun_ (x := "_law_cell") (q := "_law_cell") (st := s_l_cell) (p := ("_law_cell", none)) 11 rfl
  have b12 := T12.binds (ps := ["_law_script", "_law_k"]) fun _ _ _ _ _ _ us hl => match us, hl with | [_, _], _ => rfl
  have a13 : mg "_law_draws" = some (.ref (He.ga K "_law_draws")) := He.glo_ok X G (c.g 26 rfl)
  obtain ⟨fd13, T13⟩ := c.fun_ (x := "_law_draws") (q := "_law_draws") (st := s_l_draws) (p := ("_law_draws", none)) 12 rfl
  have b13 := T13.binds (ps := ["_law_cell_here", "_law_parts"]) fun _ _ _ _ _ _ us hl => match us, hl with | [_, _], _ => rfl
  have a14 : mg "_law_many" = some (.ref (He.ga K "_law_many")) := He.glo_ok X G (c.g 27 rfl)
  obtain ⟨fd14, T14⟩ := c.fun_ (x := "_law_many") (q := "_law_many") (st := s_l_many) (p := ("_law_many", none)) 13 rfl
  have b14 := T14.binds (ps := ["_law_script", "_law_few"]) fun _ _ _ _ _ _ us hl => match us, hl with | [_, _], _ => rfl
  have a15 : mg "check_pace" = some (.ref (He.ga K "check_pace")) := He.glo_ok X G (c.g 28 rfl)
  obtain ⟨fd15, T15⟩ := c.fun_ (x := "check_pace") (q := "check_pace") (st := s_p_check_pace) (p := ("check_pace", none)) 14 rfl
  have b15 := T15.binds (ps := ["pace"]) fun _ _ _ _ _ _ us hl => match us, hl with | [_], _ => rfl
  have a16 : mg "is_name" = some (.ref (He.ga K "is_name")) := He.glo_ok X G (c.g 29 rfl)
  obtain ⟨⟨fd16, T16⟩, H16, n16⟩ := c.fnc X (x := "is_name") (q := "is_name") (st := s_p_is_name) (p := ("is_name", none)) 15 0 rfl rfl
  have b16 := T16.binds (ps := ["text"]) fun _ _ _ _ _ us hl => match us, hl with | [_], _ => rfl
  have a17 : mg "check_name" = some (.ref (He.ga K "check_name")) := He.glo_ok X G (c.g 30 rfl)
  obtain ⟨fd17, T17⟩ := c.fun_ (x := "check_name") (q := "check_name") (st := s_p_check_name) (p := ("check_name", none)) 16 rfl
  have b17 := T17.binds (ps := ["name"]) fun _ _ _ _ _ _ us hl => match us, hl with | [_], _ => rfl
  have a18 : Meth K (He.ga K "Chain") "take_pail" (He.ma K (He.ga K "Chain") "take_pail") := He.meth_ok (c.g 31 rfl)
  obtain ⟨fd18, T18⟩ := c.fun_ (x := "take_pail") (q := "Chain.take_pail") (st := s_p_Chain_take_pail) (p := ("Chain", some "take_pail")) 17 rfl
  have b18 := T18.binds (ps := ["self"]) fun _ _ _ _ _ _ us hl => match us, hl with | [_], _ => rfl
  have a19 : Meth K (He.ga K "Chain") "enter" (He.ma K (He.ga K "Chain") "enter") := He.meth_ok (c.g 32 rfl)
  obtain ⟨fd19, T19⟩ := c.fun_ (x := "enter") (q := "Chain.enter") (st := s_p_Chain_enter) (p := ("Chain", some "enter")) 18 rfl
  have b19 := T19.binds (ps := ["self", "name", "pace"]) fun _ _ _ _ _ _ us hl => match us, hl with | [_, _, _], _ => rfl
  have a20 : Meth K (He.ga K "Chain") "hands" (He.ma K (He.ga K "Chain") "hands") := He.meth_ok (c.g 33 rfl)
  obtain ⟨fd20, T20⟩ := c.fun_ (x := "hands") (q := "Chain.hands") (st := s_p_Chain_hands) (p := ("Chain", some "hands")) 19 rfl
  have b20 := T20.binds (ps := ["self"]) fun _ _ _ _ _ _ us hl => match us, hl with | [_], _ => rfl
  have a21 : Meth K (He.ga K "Chain") "emptied" (He.ma K (He.ga K "Chain") "emptied") := He.meth_ok (c.g 34 rfl)
  obtain ⟨fd21, T21⟩ := c.fun_ (x := "emptied") (q := "Chain.emptied") (st := s_p_Chain_emptied) (p := ("Chain", some "emptied")) 20 rfl
  have b21 := T21.binds (ps := ["self"]) fun _ _ _ _ _ _ us hl => match us, hl with | [_], _ => rfl
  have a22 : Meth K (He.ga K "Chain") "pails" (He.ma K (He.ga K "Chain") "pails") := He.meth_ok (c.g 35 rfl)
  obtain ⟨fd22, T22⟩ := c.fun_ (x := "pails") (q := "Chain.pails") (st := s_p_Chain_pails) (p := ("Chain", some "pails")) 21 rfl
  have b22 := T22.binds (ps := ["self"]) fun _ _ _ _ _ _ us hl => match us, hl with | [_], _ => rfl
  have a23 : Meth K (He.ga K "Chain") "number_of" (He.ma K (He.ga K "Chain") "number_of") := He.meth_ok (c.g 36 rfl)
  obtain ⟨fd23, T23⟩ := c.fun_ (x := "number_of") (q := "Chain.number_of") (st := s_p_Chain_number_of) (p := ("Chain", some "number_of")) 22 rfl
  have b23 := T23.binds (ps := ["self", "name"]) fun _ _ _ _ _ _ us hl => match us, hl with | [_, _], _ => rfl
  have a24 : Meth K (He.ga K "Chain") "place" (He.ma K (He.ga K "Chain") "place") := He.meth_ok (c.g 37 rfl)
  obtain ⟨fd24, T24⟩ := c.fun_ (x := "place") (q := "Chain.place") (st := s_p_Chain_place) (p := ("Chain", some "place")) 23 rfl
  have b24 := T24.binds (ps := ["self", "name"]) fun _ _ _ _ _ _ us hl => match us, hl with | [_, _], _ => rfl
  have a25 : Meth K (He.ga K "Chain") "ledger" (He.ma K (He.ga K "Chain") "ledger") := He.meth_ok (c.g 38 rfl)
  obtain ⟨fd25, T25⟩ := c.fun_ (x := "ledger") (q := "Chain.ledger") (st := s_p_Chain_ledger) (p := ("Chain", some "ledger")) 24 rfl
  have b25 := T25.binds (ps := ["self", "name"]) fun _ _ _ _ _ _ us hl => match us, hl with | [_, _], _ => rfl
  have a26 : Meth K (He.ga K "Chain") "paces" (He.ma K (He.ga K "Chain") "paces") := He.meth_ok (c.g 39 rfl)
  obtain ⟨fd26, T26⟩ := c.fun_ (x := "paces") (q := "Chain.paces") (st := s_p_Chain_paces) (p := ("Chain", some "paces")) 25 rfl
  have b26 := T26.binds (ps := ["self"]) fun _ _ _ _ _ _ us hl => match us, hl with | [_], _ => rfl
  have a27 : Meth K (He.ga K "Chain") "hour" (He.ma K (He.ga K "Chain") "hour") := He.meth_ok (c.g 40 rfl)
  obtain ⟨fd27, T27⟩ := c.fun_ (x := "hour") (q := "Chain.hour") (st := s_p_Chain_hour) (p := ("Chain", some "hour")) 26 rfl
  have b27 := T27.binds (ps := ["self"]) fun _ _ _ _ _ _ us hl => match us, hl with | [_], _ => rfl
  have a28 : mg "speeds" = some (.ref (He.ga K "speeds")) := He.glo_ok X G (c.g 41 rfl)
  obtain ⟨fd28, T28⟩ := c.fun_ (x := "speeds") (q := "speeds") (st := s_p_speeds) (p := ("speeds", none)) 27 rfl
  have b28 := T28.binds (ps := ["paces", "places"]) fun _ _ _ _ _ _ us hl => match us, hl with | [_, _], _ => rfl
  have a29 : mg "hours_at" = some (.ref (He.ga K "hours_at")) := He.glo_ok X G (c.g 42 rfl)
  obtain ⟨fd29, T29⟩ := c.fun_ (x := "hours_at") (q := "hours_at") (st := s_p_hours_at) (p := ("hours_at", none)) 28 rfl
  have b29 := T29.binds (ps := ["gap", "speed"]) fun _ _ _ _ _ _ us hl => match us, hl with | [_, _], _ => rfl
  have a30 : mg "meeting" = some (.ref (He.ga K "meeting")) := He.glo_ok X G (c.g 43 rfl)
  obtain ⟨fd30, T30⟩ := c.fun_ (x := "meeting") (q := "meeting") (st := s_p_meeting) (p := ("meeting", none)) 29 rfl
  have b30 := T30.binds (ps := ["labour", "paces", "places"]) fun _ _ _ _ _ _ us hl => match us, hl with | [_, _, _], _ => rfl
  have a31 : mg "walked" = some (.ref (He.ga K "walked")) := He.glo_ok X G (c.g 44 rfl)
  obtain ⟨fd31, T31⟩ := c.fun_ (x := "walked") (q := "walked") (st := s_p_walked) (p := ("walked", none)) 30 rfl
  have b31 := T31.binds (ps := ["paces", "places", "hours"]) fun _ _ _ _ _ _ us hl => match us, hl with | [_, _, _], _ => rfl
  have a32 : mg "ledger_on" = some (.ref (He.ga K "ledger_on")) := He.glo_ok X G (c.g 45 rfl)
  obtain ⟨fd32, T32⟩ := c.fun_ (x := "ledger_on") (q := "ledger_on") (st := s_p_ledger_on) (p := ("ledger_on", none)) 31 rfl
  have b32 := T32.binds (ps := ["ledger", "pace", "speed", "hours"]) fun _ _ _ _ _ _ us hl => match us, hl with | [_, _, _, _], _ => rfl
  have a33 : Meth K (He.ga K "Chain") "till_meeting" (He.ma K (He.ga K "Chain") "till_meeting") := He.meth_ok (c.g 46 rfl)
  obtain ⟨fd33, T33⟩ := c.fun_ (x := "till_meeting") (q := "Chain.till_meeting") (st := s_p_Chain_till_meeting) (p := ("Chain", some "till_meeting")) 32 rfl
  have b33 := T33.binds (ps := ["self"]) fun _ _ _ _ _ _ us hl => match us, hl with | [_], _ => rfl
  have a34 : Meth K (He.ga K "Chain") "walk" (He.ma K (He.ga K "Chain") "walk") := He.meth_ok (c.g 47 rfl)
  obtain ⟨fd34, T34⟩ := c.fun_ (x := "walk") (q := "Chain.walk") (st := s_p_Chain_walk) (p := ("Chain", some "walk")) 33 rfl
  have b34 := T34.binds (ps := ["self", "hours"]) fun _ _ _ _ _ _ us hl => match us, hl with | [_, _], _ => rfl
  have a35 : mg "is_stretch" = some (.ref (He.ga K "is_stretch")) := He.glo_ok X G (c.g 48 rfl)
  obtain ⟨⟨fd35, T35⟩, H35, n35⟩ := c.fnc X (x := "is_stretch") (q := "is_stretch") (st := s_p_is_stretch) (p := ("is_stretch", none)) 34 1 rfl rfl
  have b35 := T35.binds (ps := ["thing"]) fun _ _ _ _ _ us hl => match us, hl with | [_], _ => rfl
  have a36 : mg "check_way" = some (.ref (He.ga K "check_way")) := He.glo_ok X G (c.g 49 rfl)
  obtain ⟨fd36, T36⟩ := c.fun_ (x := "check_way") (q := "check_way") (st := s_p_check_way) (p := ("check_way", none)) 35 rfl
  have b36 := T36.binds (ps := ["way"]) fun _ _ _ _ _ _ us hl => match us, hl with | [_], _ => rfl
  have a37 : mg "labour" = some (.ref (He.ga K "labour")) := He.glo_ok X G (c.g 50 rfl)
  obtain ⟨⟨fd37, T37⟩, H37, n37⟩ := c.fnc X (x := "labour") (q := "labour") (st := s_p_labour) (p := ("labour", none)) 36 2 rfl rfl
  have b37 := T37.binds (ps := ["way"]) fun _ _ _ _ _ us hl => match us, hl with | [_], _ => rfl
  obtain ⟨fd38, T38⟩ := c.fun_ (x := "__init__") (q := "Chain.__init__") (st := s_p_Chain___init__) (p := ("Chain", some "__init__")) 37 rfl
  have b38 := T38.binds (ps := ["self", "way"]) fun _ _ _ _ _ _ us hl => match us, hl with | [_, _], _ => rfl
  have a39 : Meth K (He.ga K "Chain") "stand_as" (He.ma K (He.ga K "Chain") "stand_as") := He.meth_ok (c.g 51 rfl)
  obtain ⟨fd39, T39⟩ := c.fun_ (x := "stand_as") (q := "Chain.stand_as") (st := s_p_Chain_stand_as) (p := ("Chain", some "stand_as")) 38 rfl
  have b39 := T39.binds (ps := ["self", "other"]) fun _ _ _ _ _ _ us hl => match us, hl with | [_, _], _ => rfl
  have a40 : Meth K (He.ga K "Chain") "twin" (He.ma K (He.ga K "Chain") "twin") := He.meth_ok (c.g 52 rfl)
  obtain ⟨fd40, T40⟩ := c.fun_ (x := "twin") (q := "Chain.twin") (st := s_p_Chain_twin) (p := ("Chain", some "twin")) 39 rfl
  have b40 := T40.binds (ps := ["self"]) fun _ _ _ _ _ _ us hl => match us, hl with | [_], _ => rfl
  have a41 : mg "check_hours" = some (.ref (He.ga K "check_hours")) := He.glo_ok X G (c.g 53 rfl)
  obtain ⟨fd41, T41⟩ := c.fun_ (x := "check_hours") (q := "check_hours") (st := s_p_check_hours) (p := ("check_hours", none)) 40 rfl
  have b41 := T41.binds (ps := ["hours"]) fun _ _ _ _ _ _ us hl => match us, hl with | [_], _ => rfl
  have a42 : Meth K (He.ga K "Chain") "mark" (He.ma K (He.ga K "Chain") "mark") := He.meth_ok (c.g 54 rfl)
  obtain ⟨fd42, T42⟩ := c.fun_ (x := "mark") (q := "Chain.mark") (st := s_p_Chain_mark) (p := ("Chain", some "mark")) 41 rfl
  have b42 := T42.binds (ps := ["self", "at"]) fun _ _ _ _ _ _ us hl => match us, hl with | [_, _], _ => rfl
  have a43 : Meth K (He.ga K "Chain") "called" (He.ma K (He.ga K "Chain") "called") := He.meth_ok (c.g 55 rfl)
  obtain ⟨fd43, T43⟩ := c.fun_ (x := "called") (q := "Chain.called") (st := s_p_Chain_called) (p := ("Chain", some "called")) 42 rfl
  have b43 := T43.binds (ps := ["self"]) fun _ _ _ _ _ _ us hl => match us, hl with | [_], _ => rfl
  have a44 : Meth K (He.ga K "Chain") "pace" (He.ma K (He.ga K "Chain") "pace") := He.meth_ok (c.g 56 rfl)
  obtain ⟨fd44, T44⟩ := c.fun_ (x := "pace") (q := "Chain.pace") (st := s_p_Chain_pace) (p := ("Chain", some "pace")) 43 rfl
  have b44 := T44.binds (ps := ["self", "name"]) fun _ _ _ _ _ _ us hl => match us, hl with | [_, _], _ => rfl
  have a45 : Meth K (He.ga K "Chain") "pail" (He.ma K (He.ga K "Chain") "pail") := He.meth_ok (c.g 57 rfl)
  obtain ⟨fd45, T45⟩ := c.fun_ (x := "pail") (q := "Chain.pail") (st := s_p_Chain_pail) (p := ("Chain", some "pail")) 44 rfl
  have b45 := T45.binds (ps := ["self", "name"]) fun _ _ _ _ _ _ us hl => match us, hl with | [_, _], _ => rfl
  have a46 : Meth K (He.ga K "Chain") "call" (He.ma K (He.ga K "Chain") "call") := He.meth_ok (c.g 58 rfl)
  obtain ⟨fd46, T46⟩ := c.fun_ (x := "call") (q := "Chain.call") (st := s_p_Chain_call) (p := ("Chain", some "call")) 45 rfl
  have b46 := T46.binds (ps := ["self", "name"]) fun _ _ _ _ _ _ us hl => match us, hl with | [_, _], _ => rfl
  have a47 : Meth K (He.ga K "Chain") "stay" (He.ma K (He.ga K "Chain") "stay") := He.meth_ok (c.g 59 rfl)
  obtain ⟨fd47, T47⟩ := c.fun_ (x := "stay") (q := "Chain.stay") (st := s_p_Chain_stay) (p := ("Chain", some "stay")) 46 rfl
  have b47 := T47.binds (ps := ["self", "name"]) fun _ _ _ _ _ _ us hl => match us, hl with | [_, _], _ => rfl
  have a48 : Meth K (He.ga K "Chain") "swap" (He.ma K (He.ga K "Chain") "swap") := He.meth_ok (c.g 60 rfl)
  obtain ⟨fd48, T48⟩ := c.fun_ (x := "swap") (q := "Chain.swap") (st := s_p_Chain_swap) (p := ("Chain", some "swap")) 47 rfl
  have b48 := T48.binds (ps := ["self", "name"]) fun _ _ _ _ _ _ us hl => match us, hl with | [_, _], _ => rfl
  have a49 : Meth K (He.ga K "Chain") "mark_from" (He.ma K (He.ga K "Chain") "mark_from") := He.meth_ok (c.g 61 rfl)
  obtain ⟨fd49, T49⟩ := c.fun_ (x := "mark_from") (q := "Chain.mark_from") (st := s_p_Chain_mark_from) (p := ("Chain", some "mark_from")) 48 rfl
  have b49 := T49.binds (ps := ["self", "first"]) fun _ _ _ _ _ _ us hl => match us, hl with | [_, _], _ => rfl
  have a50 : Meth K (He.ga K "Chain") "next_leaver" (He.ma K (He.ga K "Chain") "next_leaver") := He.meth_ok (c.g 62 rfl)
  obtain ⟨fd50, T50⟩ := c.fun_ (x := "next_leaver") (q := "Chain.next_leaver") (st := s_p_Chain_next_leaver) (p := ("Chain", some "next_leaver")) 49 rfl
  have b50 := T50.binds (ps := ["self"]) fun _ _ _ _ _ _ us hl => match us, hl with | [_], _ => rfl
  have a51 : Meth K (He.ga K "Chain") "leave" (He.ma K (He.ga K "Chain") "leave") := He.meth_ok (c.g 63 rfl)
  obtain ⟨fd51, T51⟩ := c.fun_ (x := "leave") (q := "Chain.leave") (st := s_p_Chain_leave) (p := ("Chain", some "leave")) 50 rfl
  have b51 := T51.binds (ps := ["self", "at"]) fun _ _ _ _ _ _ us hl => match us, hl with | [_, _], _ => rfl
  have a52 : Meth K (He.ga K "Chain") "turn" (He.ma K (He.ga K "Chain") "turn") := He.meth_ok (c.g 64 rfl)
  obtain ⟨fd52, T52⟩ := c.fun_ (x := "turn") (q := "Chain.turn") (st := s_p_Chain_turn) (p := ("Chain", some "turn")) 51 rfl
  have b52 := T52.binds (ps := ["self"]) fun _ _ _ _ _ _ us hl => match us, hl with | [_], _ => rfl
  have a53 : Meth K (He.ga K "Chain") "turns" (He.ma K (He.ga K "Chain") "turns") := He.meth_ok (c.g 65 rfl)
  obtain ⟨fd53, T53⟩ := c.fun_ (x := "turns") (q := "Chain.turns") (st := s_p_Chain_turns) (p := ("Chain", some "turns")) 52 rfl
  have b53 := T53.binds (ps := ["self"]) fun _ _ _ _ _ _ us hl => match us, hl with | [_], _ => rfl
  have a54 : Meth K (He.ga K "Chain") "walk_for" (He.ma K (He.ga K "Chain") "walk_for") := He.meth_ok (c.g 66 rfl)
  obtain ⟨fd54, T54⟩ := c.fun_ (x := "walk_for") (q := "Chain.walk_for") (st := s_p_Chain_walk_for) (p := ("Chain", some "walk_for")) 53 rfl
  have b54 := T54.binds (ps := ["self", "hours"]) fun _ _ _ _ _ _ us hl => match us, hl with | [_, _], _ => rfl
  have a55 : Meth K (He.ga K "Chain") "go" (He.ma K (He.ga K "Chain") "go") := He.meth_ok (c.g 67 rfl)
  obtain ⟨fd55, T55⟩ := c.fun_ (x := "go") (q := "Chain.go") (st := s_p_Chain_go) (p := ("Chain", some "go")) 54 rfl
  have b55 := T55.binds (ps := ["self", "hours"]) fun _ _ _ _ _ _ us hl => match us, hl with | [_, _], _ => rfl
  have a56 : mg "_law_name" = some (.ref (He.ga K "_law_name")) := He.glo_ok X G (c.g 68 rfl)
  obtain ⟨fd56, T56⟩ := c.fun_ (x := "_law_name") (q := "_law_name") (st := s_l_name) (p := ("_law_name", none)) 55 rfl
  have b56 := T56.binds (ps := ["_law_k", "_law_salt"]) fun _ _ _ _ _ _ us hl => match us, hl with | [_, _], _ => rfl
  have a57 : mg "_law_same" = some (.ref (He.ga K "_law_same")) := He.glo_ok X G (c.g 69 rfl)
  obtain ⟨fd57, T57⟩ := c.fun_ (x := "_law_same") (q := "_law_same") (st := s_l_same) (p := ("_law_same", none)) 56 rfl
  have b57 := T57.binds (ps := ["_law_found", "_law_due"]) fun _ _ _ _ _ _ us hl => match us, hl with | [_, _], _ => rfl
  have a58 : mg "_law_split" = some (.ref (He.ga K "_law_split")) := He.glo_ok X G (c.g 70 rfl)
  obtain ⟨fd58, T58⟩ := c.fun_ (x := "_law_split") (q := "_law_split") (st := s_l_split) (p := ("_law_split", none)) 57 rfl
  have b58 := T58.binds (ps := ["_law_cell_here", "_law_many_here"]) fun _ _ _ _ _ _ us hl => match us, hl with | [_, _], _ => rfl
  have a59 : mg "_law_way" = some (.ref (He.ga K "_law_way")) := He.glo_ok X G (c.g 71 rfl)
  obtain ⟨fd59, T59⟩ := c.fun_ (x := "_law_way") (q := "_law_way") (st := s_l_way) (p := ("_law_way", none)) 58 rfl
  have b59 := T59.binds (ps := ["_law_cell_here"]) fun _ _ _ _ _ _ us hl => match us, hl with | [_], _ => rfl
  have a60 : mg "_law_gcd" = some (.ref (He.ga K "_law_gcd")) := He.glo_ok X G (c.g 72 rfl)
  obtain ⟨fd60, T60⟩ := c.fun_ (x := "_law_gcd") (q := "_law_gcd") (st := s_l_gcd) (p := ("_law_gcd", none)) 59 rfl
  have b60 := T60.binds (ps := ["_law_one", "_law_other"]) fun _ _ _ _ _ _ us hl => match us, hl with | [_, _], _ => rfl
  have a61 : mg "_law_amt" = some (.ref (He.ga K "_law_amt")) := He.glo_ok X G (c.g 73 rfl)
  obtain ⟨fd61, T61⟩ := c.fun_ (x := "_law_amt") (q := "_law_amt") (st := s_l_amt) (p := ("_law_amt", none)) 60 rfl
  have b61 := T61.binds (ps := ["_law_num", "_law_den"]) fun _ _ _ _ _ _ us hl => match us, hl with | [_, _], _ => rfl
  have a62 : mg "_law_add" = some (.ref (He.ga K "_law_add")) := He.glo_ok X G (c.g 74 rfl)
  obtain ⟨fd62, T62⟩ := c.fun_ (x := "_law_add") (q := "_law_add") (st := s_l_add) (p := ("_law_add", none)) 61 rfl
  have b62 := T62.binds (ps := ["_law_one", "_law_other"]) fun _ _ _ _ _ _ us hl => match us, hl with | [_, _], _ => rfl
  have a63 : mg "_law_sub" = some (.ref (He.ga K "_law_sub")) := He.glo_ok X G (c.g 75 rfl)
  obtain ⟨fd63, T63⟩ := c.fun_ (x := "_law_sub") (q := "_law_sub") (st := s_l_sub) (p := ("_law_sub", none)) 62 rfl
  have b63 := T63.binds (ps := ["_law_one", "_law_other"]) fun _ _ _ _ _ _ us hl => match us, hl with | [_, _], _ => rfl
  have a64 : mg "_law_mul" = some (.ref (He.ga K "_law_mul")) := He.glo_ok X G (c.g 76 rfl)
  obtain ⟨fd64, T64⟩ := c.fun_ (x := "_law_mul") (q := "_law_mul") (st := s_l_mul) (p := ("_law_mul", none)) 63 rfl
  have b64 := T64.binds (ps := ["_law_one", "_law_number"]) fun _ _ _ _ _ _ us hl => match us, hl with | [_, _], _ => rfl
  have a65 : mg "law" = some (.ref (He.ga K "law")) := He.glo_ok X G (c.g 77 rfl)
  obtain ⟨⟨fd65, T65⟩, H65, n65⟩ := c.fnc X (x := "law") (q := "law") (st := s_LAW) (p := ("law", none)) 64 3 rfl rfl
  have aCP : mg "PailError" = some (.ref (He.ga K "PailError")) := He.glo_ok X G (c.g 78 rfl)
  obtain ⟨rdP, gaP, a100, e1P, e2P, e3P, vV⟩ := hrBase_ok (C := (He.ga K "PailError")) (c.f (f := .base "PailError") 79 rfl)
  obtain ⟨fd100, T100⟩ := c.fun_ (x := "__init__") (q := "PailError.__init__") (st := s_p_PailError___init__) (p := ("PailError", some "__init__")) 65 rfl
  have b100 := T100.binds (ps := ["self", "word"]) fun _ _ _ _ _ _ us hl => match us, hl with | [_, _], _ => rfl
  have aC101 : mg "BadWay" = some (.ref (He.ga K "BadWay")) := He.glo_ok X G (c.g 80 rfl)
  obtain ⟨xO101, xF101, xW101, xS101, xT101⟩ := hrErr_ok (CP := (He.ga K "PailError")) (C := (He.ga K "BadWay")) (c.f (f := .err "PailError" "BadWay") 81 rfl)
  have a101 : Meth K (He.ga K "BadWay") "__init__" (He.ma K (He.ga K "BadWay") "__init__") := He.meth_ok (c.g 82 rfl)
  obtain ⟨fd101, T101⟩ := c.fun_ (x := "__init__") (q := "BadWay.__init__") (st := s_p_BadWay___init__) (p := ("BadWay", some "__init__")) 66 rfl
  have b101 := T101.binds (ps := ["self"]) fun _ _ _ _ _ _ us hl => match us, hl with | [_], _ => rfl
  have aC102 : mg "BadName" = some (.ref (He.ga K "BadName")) := He.glo_ok X G (c.g 83 rfl)
  obtain ⟨xO102, xF102, xW102, xS102, xT102⟩ := hrErr_ok (CP := (He.ga K "PailError")) (C := (He.ga K "BadName")) (c.f (f := .err "PailError" "BadName") 84 rfl)
  have a102 : Meth K (He.ga K "BadName") "__init__" (He.ma K (He.ga K "BadName") "__init__") := He.meth_ok (c.g 85 rfl)
  obtain ⟨fd102, T102⟩ := c.fun_ (x := "__init__") (q := "BadName.__init__") (st := s_p_BadName___init__) (p := ("BadName", some "__init__")) 67 rfl
  have b102 := T102.binds (ps := ["self"]) fun _ _ _ _ _ _ us hl => match us, hl with | [_], _ => rfl
  have aC103 : mg "Taken" = some (.ref (He.ga K "Taken")) := He.glo_ok X G (c.g 86 rfl)
  obtain ⟨xO103, xF103, xW103, xS103, xT103⟩ := hrErr_ok (CP := (He.ga K "PailError")) (C := (He.ga K "Taken")) (c.f (f := .err "PailError" "Taken") 87 rfl)
  have a103 : Meth K (He.ga K "Taken") "__init__" (He.ma K (He.ga K "Taken") "__init__") := He.meth_ok (c.g 88 rfl)
  obtain ⟨fd103, T103⟩ := c.fun_ (x := "__init__") (q := "Taken.__init__") (st := s_p_Taken___init__) (p := ("Taken", some "__init__")) 68 rfl
  have b103 := T103.binds (ps := ["self"]) fun _ _ _ _ _ _ us hl => match us, hl with | [_], _ => rfl
  have aC104 : mg "BadPace" = some (.ref (He.ga K "BadPace")) := He.glo_ok X G (c.g 89 rfl)
  obtain ⟨xO104, xF104, xW104, xS104, xT104⟩ := hrErr_ok (CP := (He.ga K "PailError")) (C := (He.ga K "BadPace")) (c.f (f := .err "PailError" "BadPace") 90 rfl)
  have a104 : Meth K (He.ga K "BadPace") "__init__" (He.ma K (He.ga K "BadPace") "__init__") := He.meth_ok (c.g 91 rfl)
  obtain ⟨fd104, T104⟩ := c.fun_ (x := "__init__") (q := "BadPace.__init__") (st := s_p_BadPace___init__) (p := ("BadPace", some "__init__")) 69 rfl
  have b104 := T104.binds (ps := ["self"]) fun _ _ _ _ _ _ us hl => match us, hl with | [_], _ => rfl
  have aC105 : mg "Full" = some (.ref (He.ga K "Full")) := He.glo_ok X G (c.g 92 rfl)
  obtain ⟨xO105, xF105, xW105, xS105, xT105⟩ := hrErr_ok (CP := (He.ga K "PailError")) (C := (He.ga K "Full")) (c.f (f := .err "PailError" "Full") 93 rfl)
  have a105 : Meth K (He.ga K "Full") "__init__" (He.ma K (He.ga K "Full") "__init__") := He.meth_ok (c.g 94 rfl)
  obtain ⟨fd105, T105⟩ := c.fun_ (x := "__init__") (q := "Full.__init__") (st := s_p_Full___init__) (p := ("Full", some "__init__")) 70 rfl
  have b105 := T105.binds (ps := ["self"]) fun _ _ _ _ _ _ us hl => match us, hl with | [_], _ => rfl
  have aC106 : mg "NoHand" = some (.ref (He.ga K "NoHand")) := He.glo_ok X G (c.g 95 rfl)
  obtain ⟨xO106, xF106, xW106, xS106, xT106⟩ := hrErr_ok (CP := (He.ga K "PailError")) (C := (He.ga K "NoHand")) (c.f (f := .err "PailError" "NoHand") 96 rfl)
  have a106 : Meth K (He.ga K "NoHand") "__init__" (He.ma K (He.ga K "NoHand") "__init__") := He.meth_ok (c.g 97 rfl)
  obtain ⟨fd106, T106⟩ := c.fun_ (x := "__init__") (q := "NoHand.__init__") (st := s_p_NoHand___init__) (p := ("NoHand", some "__init__")) 71 rfl
  have b106 := T106.binds (ps := ["self"]) fun _ _ _ _ _ _ us hl => match us, hl with | [_], _ => rfl
  have aC107 : mg "Called" = some (.ref (He.ga K "Called")) := He.glo_ok X G (c.g 98 rfl)
  obtain ⟨xO107, xF107, xW107, xS107, xT107⟩ := hrErr_ok (CP := (He.ga K "PailError")) (C := (He.ga K "Called")) (c.f (f := .err "PailError" "Called") 99 rfl)
  have a107 : Meth K (He.ga K "Called") "__init__" (He.ma K (He.ga K "Called") "__init__") := He.meth_ok (c.g 100 rfl)
  obtain ⟨fd107, T107⟩ := c.fun_ (x := "__init__") (q := "Called.__init__") (st := s_p_Called___init__) (p := ("Called", some "__init__")) 72 rfl
  have b107 := T107.binds (ps := ["self"]) fun _ _ _ _ _ _ us hl => match us, hl with | [_], _ => rfl
  have aC108 : mg "NotCalled" = some (.ref (He.ga K "NotCalled")) := He.glo_ok X G (c.g 101 rfl)
  obtain ⟨xO108, xF108, xW108, xS108, xT108⟩ := hrErr_ok (CP := (He.ga K "PailError")) (C := (He.ga K "NotCalled")) (c.f (f := .err "PailError" "NotCalled") 102 rfl)
  have a108 : Meth K (He.ga K "NotCalled") "__init__" (He.ma K (He.ga K "NotCalled") "__init__") := He.meth_ok (c.g 103 rfl)
  obtain ⟨fd108, T108⟩ := c.fun_ (x := "__init__") (q := "NotCalled.__init__") (st := s_p_NotCalled___init__) (p := ("NotCalled", some "__init__")) 73 rfl
  have b108 := T108.binds (ps := ["self"]) fun _ _ _ _ _ _ us hl => match us, hl with | [_], _ => rfl
  have aC109 : mg "NoNext" = some (.ref (He.ga K "NoNext")) := He.glo_ok X G (c.g 104 rfl)
  obtain ⟨xO109, xF109, xW109, xS109, xT109⟩ := hrErr_ok (CP := (He.ga K "PailError")) (C := (He.ga K "NoNext")) (c.f (f := .err "PailError" "NoNext") 105 rfl)
  have a109 : Meth K (He.ga K "NoNext") "__init__" (He.ma K (He.ga K "NoNext") "__init__") := He.meth_ok (c.g 106 rfl)
  obtain ⟨fd109, T109⟩ := c.fun_ (x := "__init__") (q := "NoNext.__init__") (st := s_p_NoNext___init__) (p := ("NoNext", some "__init__")) 74 rfl
  have b109 := T109.binds (ps := ["self"]) fun _ _ _ _ _ _ us hl => match us, hl with | [_], _ => rfl
  have aC110 : mg "BadTime" = some (.ref (He.ga K "BadTime")) := He.glo_ok X G (c.g 107 rfl)
  obtain ⟨xO110, xF110, xW110, xS110, xT110⟩ := hrErr_ok (CP := (He.ga K "PailError")) (C := (He.ga K "BadTime")) (c.f (f := .err "PailError" "BadTime") 108 rfl)
  have a110 : Meth K (He.ga K "BadTime") "__init__" (He.ma K (He.ga K "BadTime") "__init__") := He.meth_ok (c.g 109 rfl)
  obtain ⟨fd110, T110⟩ := c.fun_ (x := "__init__") (q := "BadTime.__init__") (st := s_p_BadTime___init__) (p := ("BadTime", some "__init__")) 75 rfl
  have b110 := T110.binds (ps := ["self"]) fun _ _ _ _ _ _ us hl => match us, hl with | [_], _ => rfl
  have aC111 : mg "TooLong" = some (.ref (He.ga K "TooLong")) := He.glo_ok X G (c.g 110 rfl)
  obtain ⟨xO111, xF111, xW111, xS111, xT111⟩ := hrErr_ok (CP := (He.ga K "PailError")) (C := (He.ga K "TooLong")) (c.f (f := .err "PailError" "TooLong") 111 rfl)
  have a111 : Meth K (He.ga K "TooLong") "__init__" (He.ma K (He.ga K "TooLong") "__init__") := He.meth_ok (c.g 112 rfl)
  obtain ⟨fd111, T111⟩ := c.fun_ (x := "__init__") (q := "TooLong.__init__") (st := s_p_TooLong___init__) (p := ("TooLong", some "__init__")) 76 rfl
  have b111 := T111.binds (ps := ["self"]) fun _ _ _ _ _ _ us hl => match us, hl with | [_], _ => rfl
  have z_ValueError : mg "ValueError" = none := He.free_ok X G (c.g 113 rfl)
  have z_abs : mg "abs" = none := He.free_ok X G (c.g 114 rfl)
  have z_all : mg "all" = none := He.free_ok X G (c.g 115 rfl)
  have z_bool : mg "bool" = none := He.free_ok X G (c.g 116 rfl)
  have z_dict : mg "dict" = none := He.free_ok X G (c.g 117 rfl)
  have z_int : mg "int" = none := He.free_ok X G (c.g 118 rfl)
  have z_isinstance : mg "isinstance" = none := He.free_ok X G (c.g 119 rfl)
  have z_len : mg "len" = none := He.free_ok X G (c.g 120 rfl)
  have z_list : mg "list" = none := He.free_ok X G (c.g 121 rfl)
  have z_max : mg "max" = none := He.free_ok X G (c.g 122 rfl)
  have z_min : mg "min" = none := He.free_ok X G (c.g 123 rfl)
  have z_range : mg "range" = none := He.free_ok X G (c.g 124 rfl)
  have z_reversed : mg "reversed" = none := He.free_ok X G (c.g 125 rfl)
  have z_str : mg "str" = none := He.free_ok X G (c.g 126 rfl)
  have z_sum : mg "sum" = none := He.free_ok X G (c.g 127 rfl)
  have z_tuple : mg "tuple" = none := He.free_ok X G (c.g 128 rfl)
  have z_zip : mg "zip" = none := He.free_ok X G (c.g 129 rfl)
  obtain ⟨t_MOST_HANDS, y_MOST_HANDS⟩ := He.int_ok (x := "MOST_HANDS") (i := 8) X G (c.g 130 rfl)
  obtain ⟨t_MOST_HOURS, y_MOST_HOURS⟩ := He.int_ok (x := "MOST_HOURS") (i := 60) X G (c.g 131 rfl)
  obtain ⟨t_MOST_LETTERS, y_MOST_LETTERS⟩ := He.int_ok (x := "MOST_LETTERS") (i := 8) X G (c.g 132 rfl)
  obtain ⟨t_MOST_OUTS, y_MOST_OUTS⟩ := He.int_ok (x := "MOST_OUTS") (i := 60) X G (c.g 133 rfl)
  obtain ⟨t_MOST_PACE, y_MOST_PACE⟩ := He.int_ok (x := "MOST_PACE") (i := 12) X G (c.g 134 rfl)
  obtain ⟨t_MOST_PARTS, y_MOST_PARTS⟩ := He.int_ok (x := "MOST_PARTS") (i := 60) X G (c.g 135 rfl)
  obtain ⟨t_MOST_STEPS_OR_TOIL, y_MOST_STEPS_OR_TOIL⟩ := He.int_ok (x := "MOST_STEPS_OR_TOIL") (i := 9) X G (c.g 136 rfl)
  obtain ⟨t_MOST_STRETCHES, y_MOST_STRETCHES⟩ := He.int_ok (x := "MOST_STRETCHES") (i := 6) X G (c.g 137 rfl)
  have y_NOUGHT : mg "NOUGHT" = some (.ref (He.ga K "NOUGHT")) := He.glo_ok X G (c.g 138 rfl)
  have x_NOUGHT : ∀ H, SqT K H (He.ga K "NOUGHT") [.int 0, .int 1] := fun H => He.tupB_ok (c.f (f := .tup "NOUGHT" [.int 0, .int 1]) 139 rfl) H
  have e := hfa.symm.trans a65
  cases e
  have hnT : (([((He.cT K ("is_name", none)).2, none), ((He.cT K ("is_stretch", none)).2, none), ((He.cT K ("labour", none)).2, none), ((He.cT K ("law", none)).2, some (("law" : Str) ++ ".<locals>." ++ "<lambda>"))] : Tb).map (·.1)).Nodup := hrNod_ok (c.f (f := .nod hrTf) 140 rfl)
  have B : Bn mg := ⟨z_ValueError, z_abs, z_all, z_bool, z_dict, z_int, z_isinstance, z_len, z_list, z_max, z_min, z_range, z_reversed, z_str, z_sum, z_tuple, z_zip⟩
  have Tl := T65
  obtain ⟨ocl, odl, kVl, dcl, pml, anl, ctl, sll, efl, lkl, cil⟩ := Tl.ex
  have efl2 := efl
  subst efl2
  refine ⟨PySem.W.fnOf "law" "law" (defArgs s_LAW) (defBody s_LAW) (defScope s_LAW) .none kVl dcl pml anl (.ref (He.cT K ("law", none)).1) ctl, [((He.cT K ("is_name", none)).1, (He.cT K ("is_name", none)).2), ((He.cT K ("is_stretch", none)).1, (He.cT K ("is_stretch", none)).2), ((He.cT K ("labour", none)).1, (He.cT K ("labour", none)).2), ((He.cT K ("law", none)).1, (He.cT K ("law", none)).2)], sp_LAW K [((He.cT K ("is_name", none)).2, none), ((He.cT K ("is_stretch", none)).2, none), ((He.cT K ("labour", none)).2, none), ((He.cT K ("law", none)).2, some (("law" : Str) ++ ".<locals>." ++ "<lambda>"))] (He.ga K "PailError") (He.ga K "Chain"), ?_, ?_, ?_, fun s v => .of_eq rfl, ?_, fun base _ _ TBs => ?_⟩
  · intro p hp
    simp only [List.mem_cons, List.not_mem_nil, or_false] at hp
    rcases hp with rfl | rfl | rfl | rfl
    · exact H16.2
    · exact H35.2
    · exact H37.2
    · exact H65.2
  · intro p hp
    simp only [List.mem_cons, List.not_mem_nil, or_false] at hp
    rcases hp with rfl | rfl | rfl | rfl
    · exact n16
    · exact n35
    · exact n37
    · exact n65
  · intro p hp
    simp only [List.mem_cons, List.not_mem_nil, or_false] at hp
    rcases hp with rfl | rfl | rfl | rfl
    · exact H16.1
    · exact H35.1
    · exact H37.1
    · exact H65.1
  · intro H a ns hlen hbits hT hS
    refine ⟨a, ns, rfl, hS, hlen, hbits, ?_, fun _ => rfl⟩
    intro p hp
    simp only [List.mem_cons, List.not_mem_nil, or_false] at hp
    rcases hp with rfl | rfl | rfl | rfl
    · exact okG0 (hT ((He.cT K ("is_name", none)).1, (He.cT K ("is_name", none)).2) (by simp))
    · exact okG0 (hT ((He.cT K ("is_stretch", none)).1, (He.cT K ("is_stretch", none)).2) (by simp))
    · exact okG0 (hT ((He.cT K ("labour", none)).1, (He.cT K ("labour", none)).2) (by simp))
    · exact okS0 (hT ((He.cT K ("law", none)).1, (He.cT K ("law", none)).2) (by simp))
  have B16 : LamX.TabB base mg (He.cT K ("is_name", none)).1 (He.cT K ("is_name", none)).2 := TBs ((He.cT K ("is_name", none)).1, (He.cT K ("is_name", none)).2) (by simp)
  have B35 : LamX.TabB base mg (He.cT K ("is_stretch", none)).1 (He.cT K ("is_stretch", none)).2 := TBs ((He.cT K ("is_stretch", none)).1, (He.cT K ("is_stretch", none)).2) (by simp)
  have B37 : LamX.TabB base mg (He.cT K ("labour", none)).1 (He.cT K ("labour", none)).2 := TBs ((He.cT K ("labour", none)).1, (He.cT K ("labour", none)).2) (by simp)
  have B65 : LamX.TabB base mg (He.cT K ("law", none)).1 (He.cT K ("law", none)).2 := TBs ((He.cT K ("law", none)).1, (He.cT K ("law", none)).2) (by simp)
  have okP := ok_PailError (P := l.prog) (w := w) (mg := mg) (base := base) T100 z_ValueError vV
  have R_BadWay : Err l.prog w K mg base (He.ga K "PailError") "BadWay" "bad way" := ⟨⟨(He.ga K "BadWay"), _, _, aC101, xO101, xF101, xW101, exm_of e1P e2P e3P xS101, a101.1, xT101, ok_BadWay T101 ⟨rdP, gaP⟩ a100 okP aCP T100.kp b100, b101⟩⟩
  have R_BadName : Err l.prog w K mg base (He.ga K "PailError") "BadName" "bad name" := ⟨⟨(He.ga K "BadName"), _, _, aC102, xO102, xF102, xW102, exm_of e1P e2P e3P xS102, a102.1, xT102, ok_BadName T102 ⟨rdP, gaP⟩ a100 okP aCP T100.kp b100, b102⟩⟩
  have R_Taken : Err l.prog w K mg base (He.ga K "PailError") "Taken" "taken" := ⟨⟨(He.ga K "Taken"), _, _, aC103, xO103, xF103, xW103, exm_of e1P e2P e3P xS103, a103.1, xT103, ok_Taken T103 ⟨rdP, gaP⟩ a100 okP aCP T100.kp b100, b103⟩⟩
  have R_BadPace : Err l.prog w K mg base (He.ga K "PailError") "BadPace" "bad pace" := ⟨⟨(He.ga K "BadPace"), _, _, aC104, xO104, xF104, xW104, exm_of e1P e2P e3P xS104, a104.1, xT104, ok_BadPace T104 ⟨rdP, gaP⟩ a100 okP aCP T100.kp b100, b104⟩⟩
  have R_Full : Err l.prog w K mg base (He.ga K "PailError") "Full" "full" := ⟨⟨(He.ga K "Full"), _, _, aC105, xO105, xF105, xW105, exm_of e1P e2P e3P xS105, a105.1, xT105, ok_Full T105 ⟨rdP, gaP⟩ a100 okP aCP T100.kp b100, b105⟩⟩
  have R_NoHand : Err l.prog w K mg base (He.ga K "PailError") "NoHand" "no hand" := ⟨⟨(He.ga K "NoHand"), _, _, aC106, xO106, xF106, xW106, exm_of e1P e2P e3P xS106, a106.1, xT106, ok_NoHand T106 ⟨rdP, gaP⟩ a100 okP aCP T100.kp b100, b106⟩⟩
  have R_Called : Err l.prog w K mg base (He.ga K "PailError") "Called" "called" := ⟨⟨(He.ga K "Called"), _, _, aC107, xO107, xF107, xW107, exm_of e1P e2P e3P xS107, a107.1, xT107, ok_Called T107 ⟨rdP, gaP⟩ a100 okP aCP T100.kp b100, b107⟩⟩
  have R_NotCalled : Err l.prog w K mg base (He.ga K "PailError") "NotCalled" "not called" := ⟨⟨(He.ga K "NotCalled"), _, _, aC108, xO108, xF108, xW108, exm_of e1P e2P e3P xS108, a108.1, xT108, ok_NotCalled T108 ⟨rdP, gaP⟩ a100 okP aCP T100.kp b100, b108⟩⟩
  have R_NoNext : Err l.prog w K mg base (He.ga K "PailError") "NoNext" "no next" := ⟨⟨(He.ga K "NoNext"), _, _, aC109, xO109, xF109, xW109, exm_of e1P e2P e3P xS109, a109.1, xT109, ok_NoNext T109 ⟨rdP, gaP⟩ a100 okP aCP T100.kp b100, b109⟩⟩
  have R_BadTime : Err l.prog w K mg base (He.ga K "PailError") "BadTime" "bad time" := ⟨⟨(He.ga K "BadTime"), _, _, aC110, xO110, xF110, xW110, exm_of e1P e2P e3P xS110, a110.1, xT110, ok_BadTime T110 ⟨rdP, gaP⟩ a100 okP aCP T100.kp b100, b110⟩⟩
  have R_TooLong : Err l.prog w K mg base (He.ga K "PailError") "TooLong" "too long" := ⟨⟨(He.ga K "TooLong"), _, _, aC111, xO111, xF111, xW111, exm_of e1P e2P e3P xS111, a111.1, xT111, ok_TooLong T111 ⟨rdP, gaP⟩ a100 okP aCP T100.kp b100, b111⟩⟩
  have TC : Kl K (He.ga K "Chain") := ⟨clC, fun f hf => by
    simp only [FLD, List.mem_cons, List.not_mem_nil, or_false] at hf
    rcases hf with rfl | rfl | rfl | rfl | rfl | rfl | rfl | rfl | rfl | rfl | rfl <;> assumption⟩
  have W : Word K mg (He.ga K "PailError") := ⟨⟨_, _, T1, a1, b1, aCP⟩⟩
  have F_p_common_divisor : Fn l.prog w K mg base 1 "common_divisor" ["one", "other"] (sp_p_common_divisor K [((He.cT K ("is_name", none)).2, none), ((He.cT K ("is_stretch", none)).2, none), ((He.cT K ("labour", none)).2, none), ((He.cT K ("law", none)).2, some (("law" : Str) ++ ".<locals>." ++ "<lambda>"))]) := Fn.mk' (ok_p_common_divisor (T := [((He.cT K ("is_name", none)).2, none), ((He.cT K ("is_stretch", none)).2, none), ((He.cT K ("labour", none)).2, none), ((He.cT K ("law", none)).2, some (("law" : Str) ++ ".<locals>." ++ "<lambda>"))]) T4    ) a4 T4.kp b4
  have F_p_amount : Fn l.prog w K mg base 2 "amount" ["num", "den"] (sp_p_amount K [((He.cT K ("is_name", none)).2, none), ((He.cT K ("is_stretch", none)).2, none), ((He.cT K ("labour", none)).2, none), ((He.cT K ("law", none)).2, some (("law" : Str) ++ ".<locals>." ++ "<lambda>"))]) := Fn.mk' (ok_p_amount (T := [((He.cT K ("is_name", none)).2, none), ((He.cT K ("is_stretch", none)).2, none), ((He.cT K ("labour", none)).2, none), ((He.cT K ("law", none)).2, some (("law" : Str) ++ ".<locals>." ++ "<lambda>"))]) T5 B   F_p_common_divisor ) a5 T5.kp b5
  have F_p_plus : Fn l.prog w K mg base 3 "plus" ["one", "other"] (sp_p_plus K [((He.cT K ("is_name", none)).2, none), ((He.cT K ("is_stretch", none)).2, none), ((He.cT K ("labour", none)).2, none), ((He.cT K ("law", none)).2, some (("law" : Str) ++ ".<locals>." ++ "<lambda>"))]) := Fn.mk' (ok_p_plus (T := [((He.cT K ("is_name", none)).2, none), ((He.cT K ("is_stretch", none)).2, none), ((He.cT K ("labour", none)).2, none), ((He.cT K ("law", none)).2, some (("law" : Str) ++ ".<locals>." ++ "<lambda>"))]) T6   F_p_amount ) a6 T6.kp b6
  have F_p_minus : Fn l.prog w K mg base 3 "minus" ["one", "other"] (sp_p_minus K [((He.cT K ("is_name", none)).2, none), ((He.cT K ("is_stretch", none)).2, none), ((He.cT K ("labour", none)).2, none), ((He.cT K ("law", none)).2, some (("law" : Str) ++ ".<locals>." ++ "<lambda>"))]) := Fn.mk' (ok_p_minus (T := [((He.cT K ("is_name", none)).2, none), ((He.cT K ("is_stretch", none)).2, none), ((He.cT K ("labour", none)).2, none), ((He.cT K ("law", none)).2, some (("law" : Str) ++ ".<locals>." ++ "<lambda>"))]) T7   F_p_amount ) a7 T7.kp b7
  have F_p_times : Fn l.prog w K mg base 3 "times" ["one", "other"] (sp_p_times K [((He.cT K ("is_name", none)).2, none), ((He.cT K ("is_stretch", none)).2, none), ((He.cT K ("labour", none)).2, none), ((He.cT K ("law", none)).2, some (("law" : Str) ++ ".<locals>." ++ "<lambda>"))]) := Fn.mk' (ok_p_times (T := [((He.cT K ("is_name", none)).2, none), ((He.cT K ("is_stretch", none)).2, none), ((He.cT K ("labour", none)).2, none), ((He.cT K ("law", none)).2, some (("law" : Str) ++ ".<locals>." ++ "<lambda>"))]) T8   F_p_amount ) a8 T8.kp b8
  have F_p_over : Fn l.prog w K mg base 3 "over" ["one", "other"] (sp_p_over K [((He.cT K ("is_name", none)).2, none), ((He.cT K ("is_stretch", none)).2, none), ((He.cT K ("labour", none)).2, none), ((He.cT K ("law", none)).2, some (("law" : Str) ++ ".<locals>." ++ "<lambda>"))]) := Fn.mk' (ok_p_over (T := [((He.cT K ("is_name", none)).2, none), ((He.cT K ("is_stretch", none)).2, none), ((He.cT K ("labour", none)).2, none), ((He.cT K ("law", none)).2, some (("law" : Str) ++ ".<locals>." ++ "<lambda>"))]) T9   F_p_amount ) a9 T9.kp b9
  have F_p_below : Fn l.prog w K mg base 1 "below" ["one", "other"] (sp_p_below K [((He.cT K ("is_name", none)).2, none), ((He.cT K ("is_stretch", none)).2, none), ((He.cT K ("labour", none)).2, none), ((He.cT K ("law", none)).2, some (("law" : Str) ++ ".<locals>." ++ "<lambda>"))]) := Fn.mk' (ok_p_below (T := [((He.cT K ("is_name", none)).2, none), ((He.cT K ("is_stretch", none)).2, none), ((He.cT K ("labour", none)).2, none), ((He.cT K ("law", none)).2, some (("law" : Str) ++ ".<locals>." ++ "<lambda>"))]) T10    ) a10 T10.kp b10
  have F_p_lesser : Fn l.prog w K mg base 2 "lesser" ["one", "other"] (sp_p_lesser K [((He.cT K ("is_name", none)).2, none), ((He.cT K ("is_stretch", none)).2, none), ((He.cT K ("labour", none)).2, none), ((He.cT K ("law", none)).2, some (("law" : Str) ++ ".<locals>." ++ "<lambda>"))]) := Fn.mk' (ok_p_lesser (T := [((He.cT K ("is_name", none)).2, none), ((He.cT K ("is_stretch", none)).2, none), ((He.cT K ("labour", none)).2, none), ((He.cT K ("law", none)).2, some (("law" : Str) ++ ".<locals>." ++ "<lambda>"))]) T11   F_p_below ) a11 T11.kp b11
  have F_l_cell : Fn l.prog w K mg base 1 "_law_cell" ["_law_script", "_law_k"] (sp_l_cell K [((He.cT K ("is_name", none)).2, none), ((He.cT K ("is_stretch", none)).2, none), ((He.cT K ("labour", none)).2, none), ((He.cT K ("law", none)).2, some (("law" : Str) ++ ".<locals>." ++ "<lambda>"))]) := Fn.mk' (ok_l_cell (T := [((He.cT K ("is_name", none)).2, none), ((He.cT K ("is_stretch", none)).2, none), ((He.cT K ("labour", none)).2, none), ((He.cT K ("law", none)).2, some (("law" : Str) ++ ".<locals>." ++ "<lambda>"))]) T12 B    ) a12 T12.kp b12
  have F_l_draws : Fn l.prog w K mg base 1 "_law_draws" ["_law_cell_here", "_law_parts"] (sp_l_draws K [((He.cT K ("is_name", none)).2, none), ((He.cT K ("is_stretch", none)).2, none), ((He.cT K ("labour", none)).2, none), ((He.cT K ("law", none)).2, some (("law" : Str) ++ ".<locals>." ++ "<lambda>"))]) := Fn.mk' (ok_l_draws (T := [((He.cT K ("is_name", none)).2, none), ((He.cT K ("is_stretch", none)).2, none), ((He.cT K ("labour", none)).2, none), ((He.cT K ("law", none)).2, some (("law" : Str) ++ ".<locals>." ++ "<lambda>"))]) T13    ) a13 T13.kp b13
  have F_l_many : Fn l.prog w K mg base 1 "_law_many" ["_law_script", "_law_few"] (sp_l_many K [((He.cT K ("is_name", none)).2, none), ((He.cT K ("is_stretch", none)).2, none), ((He.cT K ("labour", none)).2, none), ((He.cT K ("law", none)).2, some (("law" : Str) ++ ".<locals>." ++ "<lambda>"))]) := Fn.mk' (ok_l_many (T := [((He.cT K ("is_name", none)).2, none), ((He.cT K ("is_stretch", none)).2, none), ((He.cT K ("labour", none)).2, none), ((He.cT K ("law", none)).2, some (("law" : Str) ++ ".<locals>." ++ "<lambda>"))]) T14 B    ) a14 T14.kp b14
  have F_p_is_number : Fn l.prog w K mg base 1 "is_number" ["thing"] (sp_p_is_number K [((He.cT K ("is_name", none)).2, none), ((He.cT K ("is_stretch", none)).2, none), ((He.cT K ("labour", none)).2, none), ((He.cT K ("law", none)).2, some (("law" : Str) ++ ".<locals>." ++ "<lambda>"))]) := Fn.mk' (ok_p_is_number (T := [((He.cT K ("is_name", none)).2, none), ((He.cT K ("is_stretch", none)).2, none), ((He.cT K ("labour", none)).2, none), ((He.cT K ("law", none)).2, some (("law" : Str) ++ ".<locals>." ++ "<lambda>"))]) T2 B    ) a2 T2.kp b2
  have F_p_is_within : Fn l.prog w K mg base 2 "is_within" ["thing", "least", "most"] (sp_p_is_within K [((He.cT K ("is_name", none)).2, none), ((He.cT K ("is_stretch", none)).2, none), ((He.cT K ("labour", none)).2, none), ((He.cT K ("law", none)).2, some (("law" : Str) ++ ".<locals>." ++ "<lambda>"))]) := Fn.mk' (ok_p_is_within (T := [((He.cT K ("is_name", none)).2, none), ((He.cT K ("is_stretch", none)).2, none), ((He.cT K ("labour", none)).2, none), ((He.cT K ("law", none)).2, some (("law" : Str) ++ ".<locals>." ++ "<lambda>"))]) T3   F_p_is_number ) a3 T3.kp b3
  have F_p_check_pace : Fx l.prog w K mg base 4 "check_pace" ["pace"] (sp_p_check_pace K [((He.cT K ("is_name", none)).2, none), ((He.cT K ("is_stretch", none)).2, none), ((He.cT K ("labour", none)).2, none), ((He.cT K ("law", none)).2, some (("law" : Str) ++ ".<locals>." ++ "<lambda>"))] (He.ga K "PailError")) := Fx.mk' (ok_p_check_pace (T := [((He.cT K ("is_name", none)).2, none), ((He.cT K ("is_stretch", none)).2, none), ((He.cT K ("labour", none)).2, none), ((He.cT K ("law", none)).2, some (("law" : Str) ++ ".<locals>." ++ "<lambda>"))]) T15 ⟨⟨_, rfl⟩, y_MOST_PACE⟩ R_BadPace F_p_is_within ) a15 T15.kp b15
  have F_p_is_name : Fn l.prog w K mg base 1 "is_name" ["text"] (sp_p_is_name K [((He.cT K ("is_name", none)).2, none), ((He.cT K ("is_stretch", none)).2, none), ((He.cT K ("labour", none)).2, none), ((He.cT K ("law", none)).2, some (("law" : Str) ++ ".<locals>." ++ "<lambda>"))]) := Fn.mk' (ok_p_is_name (T := [((He.cT K ("is_name", none)).2, none), ((He.cT K ("is_stretch", none)).2, none), ((He.cT K ("labour", none)).2, none), ((He.cT K ("law", none)).2, some (("law" : Str) ++ ".<locals>." ++ "<lambda>"))]) T16 hnT (by simp) (gx_lam B16) B ⟨⟨_, rfl⟩, y_MOST_LETTERS⟩   ) a16 T16.kp b16
  have F_p_check_name : Fx l.prog w K mg base 4 "check_name" ["name"] (sp_p_check_name K [((He.cT K ("is_name", none)).2, none), ((He.cT K ("is_stretch", none)).2, none), ((He.cT K ("labour", none)).2, none), ((He.cT K ("law", none)).2, some (("law" : Str) ++ ".<locals>." ++ "<lambda>"))] (He.ga K "PailError")) := Fx.mk' (ok_p_check_name (T := [((He.cT K ("is_name", none)).2, none), ((He.cT K ("is_stretch", none)).2, none), ((He.cT K ("labour", none)).2, none), ((He.cT K ("law", none)).2, some (("law" : Str) ++ ".<locals>." ++ "<lambda>"))]) T17  R_BadName F_p_is_name ) a17 T17.kp b17
  have M_take_pail : Mt l.prog w K mg base (He.ga K "Chain") 1 "take_pail" ["self"] (sp_p_Chain_take_pail K [((He.cT K ("is_name", none)).2, none), ((He.cT K ("is_stretch", none)).2, none), ((He.cT K ("labour", none)).2, none), ((He.cT K ("law", none)).2, some (("law" : Str) ++ ".<locals>." ++ "<lambda>"))] (He.ga K "Chain")) := ⟨⟨_, _, ok_p_Chain_take_pail (T := [((He.cT K ("is_name", none)).2, none), ((He.cT K ("is_stretch", none)).2, none), ((He.cT K ("labour", none)).2, none), ((He.cT K ("law", none)).2, some (("law" : Str) ++ ".<locals>." ++ "<lambda>"))]) T18 B y_NOUGHT x_NOUGHT  TC  , a18, b18⟩⟩
  have M_enter : Mx l.prog w K mg base (He.ga K "Chain") 5 "enter" ["self", "name", "pace"] (sp_p_Chain_enter K [((He.cT K ("is_name", none)).2, none), ((He.cT K ("is_stretch", none)).2, none), ((He.cT K ("labour", none)).2, none), ((He.cT K ("law", none)).2, some (("law" : Str) ++ ".<locals>." ++ "<lambda>"))] (He.ga K "PailError") (He.ga K "Chain")) := ⟨⟨_, _, ok_p_Chain_enter (T := [((He.cT K ("is_name", none)).2, none), ((He.cT K ("is_stretch", none)).2, none), ((He.cT K ("labour", none)).2, none), ((He.cT K ("law", none)).2, some (("law" : Str) ++ ".<locals>." ++ "<lambda>"))]) T19 B ⟨⟨_, rfl⟩, y_MOST_HANDS⟩ y_NOUGHT x_NOUGHT R_Taken R_Full TC F_p_check_pace F_p_check_name M_take_pail , a19, b19⟩⟩
  have M_hands : Mt l.prog w K mg base (He.ga K "Chain") 1 "hands" ["self"] (sp_p_Chain_hands K [((He.cT K ("is_name", none)).2, none), ((He.cT K ("is_stretch", none)).2, none), ((He.cT K ("labour", none)).2, none), ((He.cT K ("law", none)).2, some (("law" : Str) ++ ".<locals>." ++ "<lambda>"))] (He.ga K "Chain")) := ⟨⟨_, _, ok_p_Chain_hands (T := [((He.cT K ("is_name", none)).2, none), ((He.cT K ("is_stretch", none)).2, none), ((He.cT K ("labour", none)).2, none), ((He.cT K ("law", none)).2, some (("law" : Str) ++ ".<locals>." ++ "<lambda>"))]) T20 B   TC  , a20, b20⟩⟩
  have M_emptied : Mt l.prog w K mg base (He.ga K "Chain") 1 "emptied" ["self"] (sp_p_Chain_emptied K [((He.cT K ("is_name", none)).2, none), ((He.cT K ("is_stretch", none)).2, none), ((He.cT K ("labour", none)).2, none), ((He.cT K ("law", none)).2, some (("law" : Str) ++ ".<locals>." ++ "<lambda>"))] (He.ga K "Chain")) := ⟨⟨_, _, ok_p_Chain_emptied (T := [((He.cT K ("is_name", none)).2, none), ((He.cT K ("is_stretch", none)).2, none), ((He.cT K ("labour", none)).2, none), ((He.cT K ("law", none)).2, some (("law" : Str) ++ ".<locals>." ++ "<lambda>"))]) T21 B   TC  , a21, b21⟩⟩
  have M_pails : Mt l.prog w K mg base (He.ga K "Chain") 1 "pails" ["self"] (sp_p_Chain_pails K [((He.cT K ("is_name", none)).2, none), ((He.cT K ("is_stretch", none)).2, none), ((He.cT K ("labour", none)).2, none), ((He.cT K ("law", none)).2, some (("law" : Str) ++ ".<locals>." ++ "<lambda>"))] (He.ga K "Chain")) := ⟨⟨_, _, ok_p_Chain_pails (T := [((He.cT K ("is_name", none)).2, none), ((He.cT K ("is_stretch", none)).2, none), ((He.cT K ("labour", none)).2, none), ((He.cT K ("law", none)).2, some (("law" : Str) ++ ".<locals>." ++ "<lambda>"))]) T22 B   TC  , a22, b22⟩⟩
  have M_number_of : Mx l.prog w K mg base (He.ga K "Chain") 4 "number_of" ["self", "name"] (sp_p_Chain_number_of K [((He.cT K ("is_name", none)).2, none), ((He.cT K ("is_stretch", none)).2, none), ((He.cT K ("labour", none)).2, none), ((He.cT K ("law", none)).2, some (("law" : Str) ++ ".<locals>." ++ "<lambda>"))] (He.ga K "PailError") (He.ga K "Chain")) := ⟨⟨_, _, ok_p_Chain_number_of (T := [((He.cT K ("is_name", none)).2, none), ((He.cT K ("is_stretch", none)).2, none), ((He.cT K ("labour", none)).2, none), ((He.cT K ("law", none)).2, some (("law" : Str) ++ ".<locals>." ++ "<lambda>"))]) T23  R_NoHand TC  , a23, b23⟩⟩
  have M_place : Mx l.prog w K mg base (He.ga K "Chain") 5 "place" ["self", "name"] (sp_p_Chain_place K [((He.cT K ("is_name", none)).2, none), ((He.cT K ("is_stretch", none)).2, none), ((He.cT K ("labour", none)).2, none), ((He.cT K ("law", none)).2, some (("law" : Str) ++ ".<locals>." ++ "<lambda>"))] (He.ga K "PailError") (He.ga K "Chain")) := ⟨⟨_, _, ok_p_Chain_place (T := [((He.cT K ("is_name", none)).2, none), ((He.cT K ("is_stretch", none)).2, none), ((He.cT K ("labour", none)).2, none), ((He.cT K ("law", none)).2, some (("law" : Str) ++ ".<locals>." ++ "<lambda>"))]) T24   TC M_number_of , a24, b24⟩⟩
  have M_ledger : Mx l.prog w K mg base (He.ga K "Chain") 4 "ledger" ["self", "name"] (sp_p_Chain_ledger K [((He.cT K ("is_name", none)).2, none), ((He.cT K ("is_stretch", none)).2, none), ((He.cT K ("labour", none)).2, none), ((He.cT K ("law", none)).2, some (("law" : Str) ++ ".<locals>." ++ "<lambda>"))] (He.ga K "PailError") (He.ga K "Chain")) := ⟨⟨_, _, ok_p_Chain_ledger (T := [((He.cT K ("is_name", none)).2, none), ((He.cT K ("is_stretch", none)).2, none), ((He.cT K ("labour", none)).2, none), ((He.cT K ("law", none)).2, some (("law" : Str) ++ ".<locals>." ++ "<lambda>"))]) T25  R_NoHand TC  , a25, b25⟩⟩
  have M_paces : Mt l.prog w K mg base (He.ga K "Chain") 1 "paces" ["self"] (sp_p_Chain_paces K [((He.cT K ("is_name", none)).2, none), ((He.cT K ("is_stretch", none)).2, none), ((He.cT K ("labour", none)).2, none), ((He.cT K ("law", none)).2, some (("law" : Str) ++ ".<locals>." ++ "<lambda>"))] (He.ga K "Chain")) := ⟨⟨_, _, ok_p_Chain_paces (T := [((He.cT K ("is_name", none)).2, none), ((He.cT K ("is_stretch", none)).2, none), ((He.cT K ("labour", none)).2, none), ((He.cT K ("law", none)).2, some (("law" : Str) ++ ".<locals>." ++ "<lambda>"))]) T26   TC  , a26, b26⟩⟩
  have M_hour : Mt l.prog w K mg base (He.ga K "Chain") 1 "hour" ["self"] (sp_p_Chain_hour K [((He.cT K ("is_name", none)).2, none), ((He.cT K ("is_stretch", none)).2, none), ((He.cT K ("labour", none)).2, none), ((He.cT K ("law", none)).2, some (("law" : Str) ++ ".<locals>." ++ "<lambda>"))] (He.ga K "Chain")) := ⟨⟨_, _, ok_p_Chain_hour (T := [((He.cT K ("is_name", none)).2, none), ((He.cT K ("is_stretch", none)).2, none), ((He.cT K ("labour", none)).2, none), ((He.cT K ("law", none)).2, some (("law" : Str) ++ ".<locals>." ++ "<lambda>"))]) T27   TC  , a27, b27⟩⟩
  have F_p_speeds : Fn l.prog w K mg base 1 "speeds" ["paces", "places"] (sp_p_speeds K [((He.cT K ("is_name", none)).2, none), ((He.cT K ("is_stretch", none)).2, none), ((He.cT K ("labour", none)).2, none), ((He.cT K ("law", none)).2, some (("law" : Str) ++ ".<locals>." ++ "<lambda>"))]) := Fn.mk' (ok_p_speeds (T := [((He.cT K ("is_name", none)).2, none), ((He.cT K ("is_stretch", none)).2, none), ((He.cT K ("labour", none)).2, none), ((He.cT K ("law", none)).2, some (("law" : Str) ++ ".<locals>." ++ "<lambda>"))]) T28 B    ) a28 T28.kp b28
  have F_p_hours_at : Fn l.prog w K mg base 4 "hours_at" ["gap", "speed"] (sp_p_hours_at K [((He.cT K ("is_name", none)).2, none), ((He.cT K ("is_stretch", none)).2, none), ((He.cT K ("labour", none)).2, none), ((He.cT K ("law", none)).2, some (("law" : Str) ++ ".<locals>." ++ "<lambda>"))]) := Fn.mk' (ok_p_hours_at (T := [((He.cT K ("is_name", none)).2, none), ((He.cT K ("is_stretch", none)).2, none), ((He.cT K ("labour", none)).2, none), ((He.cT K ("law", none)).2, some (("law" : Str) ++ ".<locals>." ++ "<lambda>"))]) T29   F_p_over ) a29 T29.kp b29
  have F_p_meeting : Fn l.prog w K mg base 5 "meeting" ["labour", "paces", "places"] (sp_p_meeting K [((He.cT K ("is_name", none)).2, none), ((He.cT K ("is_stretch", none)).2, none), ((He.cT K ("labour", none)).2, none), ((He.cT K ("law", none)).2, some (("law" : Str) ++ ".<locals>." ++ "<lambda>"))]) := Fn.mk' (ok_p_meeting (T := [((He.cT K ("is_name", none)).2, none), ((He.cT K ("is_stretch", none)).2, none), ((He.cT K ("labour", none)).2, none), ((He.cT K ("law", none)).2, some (("law" : Str) ++ ".<locals>." ++ "<lambda>"))]) T30 B   F_p_minus F_p_lesser F_p_speeds F_p_hours_at ) a30 T30.kp b30
  have F_p_walked : Fn l.prog w K mg base 4 "walked" ["paces", "places", "hours"] (sp_p_walked K [((He.cT K ("is_name", none)).2, none), ((He.cT K ("is_stretch", none)).2, none), ((He.cT K ("labour", none)).2, none), ((He.cT K ("law", none)).2, some (("law" : Str) ++ ".<locals>." ++ "<lambda>"))]) := Fn.mk' (ok_p_walked (T := [((He.cT K ("is_name", none)).2, none), ((He.cT K ("is_stretch", none)).2, none), ((He.cT K ("labour", none)).2, none), ((He.cT K ("law", none)).2, some (("law" : Str) ++ ".<locals>." ++ "<lambda>"))]) T31 B   F_p_plus F_p_times F_p_speeds ) a31 T31.kp b31
  have F_p_ledger_on : Fn l.prog w K mg base 4 "ledger_on" ["ledger", "pace", "speed", "hours"] (sp_p_ledger_on K [((He.cT K ("is_name", none)).2, none), ((He.cT K ("is_stretch", none)).2, none), ((He.cT K ("labour", none)).2, none), ((He.cT K ("law", none)).2, some (("law" : Str) ++ ".<locals>." ++ "<lambda>"))]) := Fn.mk' (ok_p_ledger_on (T := [((He.cT K ("is_name", none)).2, none), ((He.cT K ("is_stretch", none)).2, none), ((He.cT K ("labour", none)).2, none), ((He.cT K ("law", none)).2, some (("law" : Str) ++ ".<locals>." ++ "<lambda>"))]) T32   F_p_plus F_p_times ) a32 T32.kp b32
  have M_till_meeting : Mt l.prog w K mg base (He.ga K "Chain") 6 "till_meeting" ["self"] (sp_p_Chain_till_meeting K [((He.cT K ("is_name", none)).2, none), ((He.cT K ("is_stretch", none)).2, none), ((He.cT K ("labour", none)).2, none), ((He.cT K ("law", none)).2, some (("law" : Str) ++ ".<locals>." ++ "<lambda>"))] (He.ga K "Chain")) := ⟨⟨_, _, ok_p_Chain_till_meeting (T := [((He.cT K ("is_name", none)).2, none), ((He.cT K ("is_stretch", none)).2, none), ((He.cT K ("labour", none)).2, none), ((He.cT K ("law", none)).2, some (("law" : Str) ++ ".<locals>." ++ "<lambda>"))]) T33   TC M_paces F_p_meeting , a33, b33⟩⟩
  have M_walk : Mt l.prog w K mg base (He.ga K "Chain") 5 "walk" ["self", "hours"] (sp_p_Chain_walk K [((He.cT K ("is_name", none)).2, none), ((He.cT K ("is_stretch", none)).2, none), ((He.cT K ("labour", none)).2, none), ((He.cT K ("law", none)).2, some (("law" : Str) ++ ".<locals>." ++ "<lambda>"))] (He.ga K "Chain")) := ⟨⟨_, _, ok_p_Chain_walk (T := [((He.cT K ("is_name", none)).2, none), ((He.cT K ("is_stretch", none)).2, none), ((He.cT K ("labour", none)).2, none), ((He.cT K ("law", none)).2, some (("law" : Str) ++ ".<locals>." ++ "<lambda>"))]) T34 B   TC F_p_plus M_paces F_p_speeds F_p_walked F_p_ledger_on , a34, b34⟩⟩
  have F_p_is_stretch : Fn l.prog w K mg base 1 "is_stretch" ["thing"] (sp_p_is_stretch K [((He.cT K ("is_name", none)).2, none), ((He.cT K ("is_stretch", none)).2, none), ((He.cT K ("labour", none)).2, none), ((He.cT K ("law", none)).2, some (("law" : Str) ++ ".<locals>." ++ "<lambda>"))]) := Fn.mk' (ok_p_is_stretch (T := [((He.cT K ("is_name", none)).2, none), ((He.cT K ("is_stretch", none)).2, none), ((He.cT K ("labour", none)).2, none), ((He.cT K ("law", none)).2, some (("law" : Str) ++ ".<locals>." ++ "<lambda>"))]) T35 hnT (by simp) (gx_lam B35) B ⟨⟨_, rfl⟩, y_MOST_STEPS_OR_TOIL⟩   (with_of T3) T3.kp a3 (num_of T2) T2.kp a2) a35 T35.kp b35
  have F_p_check_way : Fx l.prog w K mg base 4 "check_way" ["way"] (sp_p_check_way K [((He.cT K ("is_name", none)).2, none), ((He.cT K ("is_stretch", none)).2, none), ((He.cT K ("labour", none)).2, none), ((He.cT K ("law", none)).2, some (("law" : Str) ++ ".<locals>." ++ "<lambda>"))] (He.ga K "PailError")) := Fx.mk' (ok_p_check_way (T := [((He.cT K ("is_name", none)).2, none), ((He.cT K ("is_stretch", none)).2, none), ((He.cT K ("labour", none)).2, none), ((He.cT K ("law", none)).2, some (("law" : Str) ++ ".<locals>." ++ "<lambda>"))]) T36 B ⟨⟨_, rfl⟩, y_MOST_STRETCHES⟩ R_BadWay F_p_is_stretch ) a36 T36.kp b36
  have F_p_labour : Fx l.prog w K mg base 5 "labour" ["way"] (sp_p_labour K [((He.cT K ("is_name", none)).2, none), ((He.cT K ("is_stretch", none)).2, none), ((He.cT K ("labour", none)).2, none), ((He.cT K ("law", none)).2, some (("law" : Str) ++ ".<locals>." ++ "<lambda>"))] (He.ga K "PailError")) := Fx.mk' (ok_p_labour (T := [((He.cT K ("is_name", none)).2, none), ((He.cT K ("is_stretch", none)).2, none), ((He.cT K ("labour", none)).2, none), ((He.cT K ("law", none)).2, some (("law" : Str) ++ ".<locals>." ++ "<lambda>"))]) T37 hnT (by simp) (gx_lam B37) B   F_p_check_way ) a37 T37.kp b37
  have F_p_check_way_t : Fx l.prog w K mg base 4 "check_way" ["way"] (sp_p_check_way_t K [((He.cT K ("is_name", none)).2, none), ((He.cT K ("is_stretch", none)).2, none), ((He.cT K ("labour", none)).2, none), ((He.cT K ("law", none)).2, some (("law" : Str) ++ ".<locals>." ++ "<lambda>"))] (He.ga K "PailError")) := Fx.mk' (ok_p_check_way_t (T := [((He.cT K ("is_name", none)).2, none), ((He.cT K ("is_stretch", none)).2, none), ((He.cT K ("labour", none)).2, none), ((He.cT K ("law", none)).2, some (("law" : Str) ++ ".<locals>." ++ "<lambda>"))]) T36 B ⟨⟨_, rfl⟩, y_MOST_STRETCHES⟩ R_BadWay F_p_is_stretch ) a36 T36.kp b36
  have F_p_labour_t : Fx l.prog w K mg base 5 "labour" ["way"] (sp_p_labour_t K [((He.cT K ("is_name", none)).2, none), ((He.cT K ("is_stretch", none)).2, none), ((He.cT K ("labour", none)).2, none), ((He.cT K ("law", none)).2, some (("law" : Str) ++ ".<locals>." ++ "<lambda>"))] (He.ga K "PailError")) := Fx.mk' (ok_p_labour_t (T := [((He.cT K ("is_name", none)).2, none), ((He.cT K ("is_stretch", none)).2, none), ((He.cT K ("labour", none)).2, none), ((He.cT K ("law", none)).2, some (("law" : Str) ++ ".<locals>." ++ "<lambda>"))]) T37 hnT (by simp) (gx_lam B37) B   F_p_check_way_t ) a37 T37.kp b37
  have M_init : Mnx l.prog w K mg base (He.ga K "Chain") 6 "Chain" ["self", "way"] (sp_p_Chain___init__ K [((He.cT K ("is_name", none)).2, none), ((He.cT K ("is_stretch", none)).2, none), ((He.cT K ("labour", none)).2, none), ((He.cT K ("law", none)).2, some (("law" : Str) ++ ".<locals>." ++ "<lambda>"))] (He.ga K "PailError") (He.ga K "Chain")) := ⟨⟨_, _, ok_p_Chain___init__ (T := [((He.cT K ("is_name", none)).2, none), ((He.cT K ("is_stretch", none)).2, none), ((He.cT K ("labour", none)).2, none), ((He.cT K ("law", none)).2, some (("law" : Str) ++ ".<locals>." ++ "<lambda>"))]) T38 B y_NOUGHT x_NOUGHT  TC F_p_labour , mkC, b38, aCC⟩⟩
  have M_init_t : Mnx l.prog w K mg base (He.ga K "Chain") 6 "Chain" ["self", "way"] (sp_p_Chain___init___t K [((He.cT K ("is_name", none)).2, none), ((He.cT K ("is_stretch", none)).2, none), ((He.cT K ("labour", none)).2, none), ((He.cT K ("law", none)).2, some (("law" : Str) ++ ".<locals>." ++ "<lambda>"))] (He.ga K "PailError") (He.ga K "Chain")) := ⟨⟨_, _, ok_p_Chain___init___t (T := [((He.cT K ("is_name", none)).2, none), ((He.cT K ("is_stretch", none)).2, none), ((He.cT K ("labour", none)).2, none), ((He.cT K ("law", none)).2, some (("law" : Str) ++ ".<locals>." ++ "<lambda>"))]) T38 B y_NOUGHT x_NOUGHT  TC F_p_labour_t , mkC, b38, aCC⟩⟩
  have M_stand_as : Mt l.prog w K mg base (He.ga K "Chain") 1 "stand_as" ["self", "other"] (sp_p_Chain_stand_as K [((He.cT K ("is_name", none)).2, none), ((He.cT K ("is_stretch", none)).2, none), ((He.cT K ("labour", none)).2, none), ((He.cT K ("law", none)).2, some (("law" : Str) ++ ".<locals>." ++ "<lambda>"))] (He.ga K "Chain")) := ⟨⟨_, _, ok_p_Chain_stand_as (T := [((He.cT K ("is_name", none)).2, none), ((He.cT K ("is_stretch", none)).2, none), ((He.cT K ("labour", none)).2, none), ((He.cT K ("law", none)).2, some (("law" : Str) ++ ".<locals>." ++ "<lambda>"))]) T39 B   TC  , a39, b39⟩⟩
  have M_twin : Mt l.prog w K mg base (He.ga K "Chain") 8 "twin" ["self"] (sp_p_Chain_twin K [((He.cT K ("is_name", none)).2, none), ((He.cT K ("is_stretch", none)).2, none), ((He.cT K ("labour", none)).2, none), ((He.cT K ("law", none)).2, some (("law" : Str) ++ ".<locals>." ++ "<lambda>"))] (He.ga K "Chain")) := ⟨⟨_, _, ok_p_Chain_twin (T := [((He.cT K ("is_name", none)).2, none), ((He.cT K ("is_stretch", none)).2, none), ((He.cT K ("labour", none)).2, none), ((He.cT K ("law", none)).2, some (("law" : Str) ++ ".<locals>." ++ "<lambda>"))]) T40   TC M_init_t M_stand_as , a40, b40⟩⟩
  have F_p_check_hours : Fx l.prog w K mg base 4 "check_hours" ["hours"] (sp_p_check_hours K [((He.cT K ("is_name", none)).2, none), ((He.cT K ("is_stretch", none)).2, none), ((He.cT K ("labour", none)).2, none), ((He.cT K ("law", none)).2, some (("law" : Str) ++ ".<locals>." ++ "<lambda>"))] (He.ga K "PailError")) := Fx.mk' (ok_p_check_hours (T := [((He.cT K ("is_name", none)).2, none), ((He.cT K ("is_stretch", none)).2, none), ((He.cT K ("labour", none)).2, none), ((He.cT K ("law", none)).2, some (("law" : Str) ++ ".<locals>." ++ "<lambda>"))]) T41 ⟨⟨_, rfl⟩, y_MOST_HOURS⟩ ⟨⟨_, rfl⟩, y_MOST_PARTS⟩ y_NOUGHT x_NOUGHT R_BadTime F_p_below ) a41 T41.kp b41
  have M_mark : Mt l.prog w K mg base (He.ga K "Chain") 1 "mark" ["self", "at"] (sp_p_Chain_mark K [((He.cT K ("is_name", none)).2, none), ((He.cT K ("is_stretch", none)).2, none), ((He.cT K ("labour", none)).2, none), ((He.cT K ("law", none)).2, some (("law" : Str) ++ ".<locals>." ++ "<lambda>"))] (He.ga K "Chain")) := ⟨⟨_, _, ok_p_Chain_mark (T := [((He.cT K ("is_name", none)).2, none), ((He.cT K ("is_stretch", none)).2, none), ((He.cT K ("labour", none)).2, none), ((He.cT K ("law", none)).2, some (("law" : Str) ++ ".<locals>." ++ "<lambda>"))]) T42   TC  , a42, b42⟩⟩
  have M_called : Mt l.prog w K mg base (He.ga K "Chain") 1 "called" ["self"] (sp_p_Chain_called K [((He.cT K ("is_name", none)).2, none), ((He.cT K ("is_stretch", none)).2, none), ((He.cT K ("labour", none)).2, none), ((He.cT K ("law", none)).2, some (("law" : Str) ++ ".<locals>." ++ "<lambda>"))] (He.ga K "Chain")) := ⟨⟨_, _, ok_p_Chain_called (T := [((He.cT K ("is_name", none)).2, none), ((He.cT K ("is_stretch", none)).2, none), ((He.cT K ("labour", none)).2, none), ((He.cT K ("law", none)).2, some (("law" : Str) ++ ".<locals>." ++ "<lambda>"))]) T43   TC  , a43, b43⟩⟩
  have M_pace : Mx l.prog w K mg base (He.ga K "Chain") 5 "pace" ["self", "name"] (sp_p_Chain_pace K [((He.cT K ("is_name", none)).2, none), ((He.cT K ("is_stretch", none)).2, none), ((He.cT K ("labour", none)).2, none), ((He.cT K ("law", none)).2, some (("law" : Str) ++ ".<locals>." ++ "<lambda>"))] (He.ga K "PailError") (He.ga K "Chain")) := ⟨⟨_, _, ok_p_Chain_pace (T := [((He.cT K ("is_name", none)).2, none), ((He.cT K ("is_stretch", none)).2, none), ((He.cT K ("labour", none)).2, none), ((He.cT K ("law", none)).2, some (("law" : Str) ++ ".<locals>." ++ "<lambda>"))]) T44   TC M_number_of , a44, b44⟩⟩
  have M_pail : Mx l.prog w K mg base (He.ga K "Chain") 5 "pail" ["self", "name"] (sp_p_Chain_pail K [((He.cT K ("is_name", none)).2, none), ((He.cT K ("is_stretch", none)).2, none), ((He.cT K ("labour", none)).2, none), ((He.cT K ("law", none)).2, some (("law" : Str) ++ ".<locals>." ++ "<lambda>"))] (He.ga K "PailError") (He.ga K "Chain")) := ⟨⟨_, _, ok_p_Chain_pail (T := [((He.cT K ("is_name", none)).2, none), ((He.cT K ("is_stretch", none)).2, none), ((He.cT K ("labour", none)).2, none), ((He.cT K ("law", none)).2, some (("law" : Str) ++ ".<locals>." ++ "<lambda>"))]) T45   TC M_number_of , a45, b45⟩⟩
  have M_call : Mx l.prog w K mg base (He.ga K "Chain") 5 "call" ["self", "name"] (sp_p_Chain_call K [((He.cT K ("is_name", none)).2, none), ((He.cT K ("is_stretch", none)).2, none), ((He.cT K ("labour", none)).2, none), ((He.cT K ("law", none)).2, some (("law" : Str) ++ ".<locals>." ++ "<lambda>"))] (He.ga K "PailError") (He.ga K "Chain")) := ⟨⟨_, _, ok_p_Chain_call (T := [((He.cT K ("is_name", none)).2, none), ((He.cT K ("is_stretch", none)).2, none), ((He.cT K ("labour", none)).2, none), ((He.cT K ("law", none)).2, some (("law" : Str) ++ ".<locals>." ++ "<lambda>"))]) T46  R_Called TC M_number_of , a46, b46⟩⟩
  have M_stay : Mx l.prog w K mg base (He.ga K "Chain") 5 "stay" ["self", "name"] (sp_p_Chain_stay K [((He.cT K ("is_name", none)).2, none), ((He.cT K ("is_stretch", none)).2, none), ((He.cT K ("labour", none)).2, none), ((He.cT K ("law", none)).2, some (("law" : Str) ++ ".<locals>." ++ "<lambda>"))] (He.ga K "PailError") (He.ga K "Chain")) := ⟨⟨_, _, ok_p_Chain_stay (T := [((He.cT K ("is_name", none)).2, none), ((He.cT K ("is_stretch", none)).2, none), ((He.cT K ("labour", none)).2, none), ((He.cT K ("law", none)).2, some (("law" : Str) ++ ".<locals>." ++ "<lambda>"))]) T47  R_NotCalled TC M_number_of , a47, b47⟩⟩
  have M_swap : Mx l.prog w K mg base (He.ga K "Chain") 5 "swap" ["self", "name"] (sp_p_Chain_swap K [((He.cT K ("is_name", none)).2, none), ((He.cT K ("is_stretch", none)).2, none), ((He.cT K ("labour", none)).2, none), ((He.cT K ("law", none)).2, some (("law" : Str) ++ ".<locals>." ++ "<lambda>"))] (He.ga K "PailError") (He.ga K "Chain")) := ⟨⟨_, _, ok_p_Chain_swap (T := [((He.cT K ("is_name", none)).2, none), ((He.cT K ("is_stretch", none)).2, none), ((He.cT K ("labour", none)).2, none), ((He.cT K ("law", none)).2, some (("law" : Str) ++ ".<locals>." ++ "<lambda>"))]) T48 B  R_NoNext TC M_number_of M_mark , a48, b48⟩⟩
  have M_mark_from : Mt l.prog w K mg base (He.ga K "Chain") 2 "mark_from" ["self", "first"] (sp_p_Chain_mark_from K [((He.cT K ("is_name", none)).2, none), ((He.cT K ("is_stretch", none)).2, none), ((He.cT K ("labour", none)).2, none), ((He.cT K ("law", none)).2, some (("law" : Str) ++ ".<locals>." ++ "<lambda>"))] (He.ga K "Chain")) := ⟨⟨_, _, ok_p_Chain_mark_from (T := [((He.cT K ("is_name", none)).2, none), ((He.cT K ("is_stretch", none)).2, none), ((He.cT K ("labour", none)).2, none), ((He.cT K ("law", none)).2, some (("law" : Str) ++ ".<locals>." ++ "<lambda>"))]) T49 B   TC M_mark , a49, b49⟩⟩
  have M_next_leaver : Mt l.prog w K mg base (He.ga K "Chain") 1 "next_leaver" ["self"] (sp_p_Chain_next_leaver K [((He.cT K ("is_name", none)).2, none), ((He.cT K ("is_stretch", none)).2, none), ((He.cT K ("labour", none)).2, none), ((He.cT K ("law", none)).2, some (("law" : Str) ++ ".<locals>." ++ "<lambda>"))] (He.ga K "Chain")) := ⟨⟨_, _, ok_p_Chain_next_leaver (T := [((He.cT K ("is_name", none)).2, none), ((He.cT K ("is_stretch", none)).2, none), ((He.cT K ("labour", none)).2, none), ((He.cT K ("law", none)).2, some (("law" : Str) ++ ".<locals>." ++ "<lambda>"))]) T50 B   TC  , a50, b50⟩⟩
  have M_leave : Mt l.prog w K mg base (He.ga K "Chain") 1 "leave" ["self", "at"] (sp_p_Chain_leave K [((He.cT K ("is_name", none)).2, none), ((He.cT K ("is_stretch", none)).2, none), ((He.cT K ("labour", none)).2, none), ((He.cT K ("law", none)).2, some (("law" : Str) ++ ".<locals>." ++ "<lambda>"))] (He.ga K "Chain")) := ⟨⟨_, _, ok_p_Chain_leave (T := [((He.cT K ("is_name", none)).2, none), ((He.cT K ("is_stretch", none)).2, none), ((He.cT K ("labour", none)).2, none), ((He.cT K ("law", none)).2, some (("law" : Str) ++ ".<locals>." ++ "<lambda>"))]) T51   TC  , a51, b51⟩⟩
  have M_turn : Mt l.prog w K mg base (He.ga K "Chain") 3 "turn" ["self"] (sp_p_Chain_turn K [((He.cT K ("is_name", none)).2, none), ((He.cT K ("is_stretch", none)).2, none), ((He.cT K ("labour", none)).2, none), ((He.cT K ("law", none)).2, some (("law" : Str) ++ ".<locals>." ++ "<lambda>"))] (He.ga K "Chain")) := ⟨⟨_, _, ok_p_Chain_turn (T := [((He.cT K ("is_name", none)).2, none), ((He.cT K ("is_stretch", none)).2, none), ((He.cT K ("labour", none)).2, none), ((He.cT K ("law", none)).2, some (("law" : Str) ++ ".<locals>." ++ "<lambda>"))]) T52   TC M_take_pail M_mark_from M_next_leaver M_leave , a52, b52⟩⟩
  have M_turns : Mt l.prog w K mg base (He.ga K "Chain") 4 "turns" ["self"] (sp_p_Chain_turns K [((He.cT K ("is_name", none)).2, none), ((He.cT K ("is_stretch", none)).2, none), ((He.cT K ("labour", none)).2, none), ((He.cT K ("law", none)).2, some (("law" : Str) ++ ".<locals>." ++ "<lambda>"))] (He.ga K "Chain")) := ⟨⟨_, _, ok_p_Chain_turns (T := [((He.cT K ("is_name", none)).2, none), ((He.cT K ("is_stretch", none)).2, none), ((He.cT K ("labour", none)).2, none), ((He.cT K ("law", none)).2, some (("law" : Str) ++ ".<locals>." ++ "<lambda>"))]) T53   TC M_turn , a53, b53⟩⟩
  have M_walk_for : Mx l.prog w K mg base (He.ga K "Chain") 7 "walk_for" ["self", "hours"] (sp_p_Chain_walk_for K [((He.cT K ("is_name", none)).2, none), ((He.cT K ("is_stretch", none)).2, none), ((He.cT K ("labour", none)).2, none), ((He.cT K ("law", none)).2, some (("law" : Str) ++ ".<locals>." ++ "<lambda>"))] (He.ga K "PailError") (He.ga K "Chain")) := ⟨⟨_, _, ok_p_Chain_walk_for (T := [((He.cT K ("is_name", none)).2, none), ((He.cT K ("is_stretch", none)).2, none), ((He.cT K ("labour", none)).2, none), ((He.cT K ("law", none)).2, some (("law" : Str) ++ ".<locals>." ++ "<lambda>"))]) T54 B ⟨⟨_, rfl⟩, y_MOST_OUTS⟩ y_NOUGHT x_NOUGHT R_TooLong TC F_p_plus F_p_minus F_p_below F_p_lesser M_till_meeting M_walk M_turns , a54, b54⟩⟩
  have M_go : Mx l.prog w K mg base (He.ga K "Chain") 9 "go" ["self", "hours"] (sp_p_Chain_go K [((He.cT K ("is_name", none)).2, none), ((He.cT K ("is_stretch", none)).2, none), ((He.cT K ("labour", none)).2, none), ((He.cT K ("law", none)).2, some (("law" : Str) ++ ".<locals>." ++ "<lambda>"))] (He.ga K "PailError") (He.ga K "Chain")) := ⟨⟨_, _, ok_p_Chain_go (T := [((He.cT K ("is_name", none)).2, none), ((He.cT K ("is_stretch", none)).2, none), ((He.cT K ("labour", none)).2, none), ((He.cT K ("law", none)).2, some (("law" : Str) ++ ".<locals>." ++ "<lambda>"))]) T55   TC M_stand_as M_twin F_p_check_hours M_walk_for , a55, b55⟩⟩
  have F_l_draws_f : Fn l.prog w K mg base 1 "_law_draws" ["_law_cell_here", "_law_parts"] (sp_l_draws_f K [((He.cT K ("is_name", none)).2, none), ((He.cT K ("is_stretch", none)).2, none), ((He.cT K ("labour", none)).2, none), ((He.cT K ("law", none)).2, some (("law" : Str) ++ ".<locals>." ++ "<lambda>"))]) := Fn.mk' (ok_l_draws_f (T := [((He.cT K ("is_name", none)).2, none), ((He.cT K ("is_stretch", none)).2, none), ((He.cT K ("labour", none)).2, none), ((He.cT K ("law", none)).2, some (("law" : Str) ++ ".<locals>." ++ "<lambda>"))]) T13    ) a13 T13.kp b13
  have F_l_name : Fn l.prog w K mg base 2 "_law_name" ["_law_k", "_law_salt"] (sp_l_name K [((He.cT K ("is_name", none)).2, none), ((He.cT K ("is_stretch", none)).2, none), ((He.cT K ("labour", none)).2, none), ((He.cT K ("law", none)).2, some (("law" : Str) ++ ".<locals>." ++ "<lambda>"))]) := Fn.mk' (ok_l_name (T := [((He.cT K ("is_name", none)).2, none), ((He.cT K ("is_stretch", none)).2, none), ((He.cT K ("labour", none)).2, none), ((He.cT K ("law", none)).2, some (("law" : Str) ++ ".<locals>." ++ "<lambda>"))]) T56   F_l_draws_f ) a56 T56.kp b56
  have F_l_same : Fn l.prog w K mg base 6 "_law_same" ["_law_found", "_law_due"] (sp_l_same K [((He.cT K ("is_name", none)).2, none), ((He.cT K ("is_stretch", none)).2, none), ((He.cT K ("labour", none)).2, none), ((He.cT K ("law", none)).2, some (("law" : Str) ++ ".<locals>." ++ "<lambda>"))]) := Fn.mk' (ok_l_same (T := [((He.cT K ("is_name", none)).2, none), ((He.cT K ("is_stretch", none)).2, none), ((He.cT K ("labour", none)).2, none), ((He.cT K ("law", none)).2, some (("law" : Str) ++ ".<locals>." ++ "<lambda>"))]) T57 B a57 b57    ) a57 T57.kp b57
  have F_l_split : Fn l.prog w K mg base 1 "_law_split" ["_law_cell_here", "_law_many_here"] (sp_l_split K [((He.cT K ("is_name", none)).2, none), ((He.cT K ("is_stretch", none)).2, none), ((He.cT K ("labour", none)).2, none), ((He.cT K ("law", none)).2, some (("law" : Str) ++ ".<locals>." ++ "<lambda>"))]) := Fn.mk' (ok_l_split (T := [((He.cT K ("is_name", none)).2, none), ((He.cT K ("is_stretch", none)).2, none), ((He.cT K ("labour", none)).2, none), ((He.cT K ("law", none)).2, some (("law" : Str) ++ ".<locals>." ++ "<lambda>"))]) T58 B    ) a58 T58.kp b58
  have F_l_way : Fn l.prog w K mg base 2 "_law_way" ["_law_cell_here"] (sp_l_way K [((He.cT K ("is_name", none)).2, none), ((He.cT K ("is_stretch", none)).2, none), ((He.cT K ("labour", none)).2, none), ((He.cT K ("law", none)).2, some (("law" : Str) ++ ".<locals>." ++ "<lambda>"))]) := Fn.mk' (ok_l_way (T := [((He.cT K ("is_name", none)).2, none), ((He.cT K ("is_stretch", none)).2, none), ((He.cT K ("labour", none)).2, none), ((He.cT K ("law", none)).2, some (("law" : Str) ++ ".<locals>." ++ "<lambda>"))]) T59 B   F_l_draws ) a59 T59.kp b59
  have F_l_gcd : Fn l.prog w K mg base 1 "_law_gcd" ["_law_one", "_law_other"] (sp_l_gcd K [((He.cT K ("is_name", none)).2, none), ((He.cT K ("is_stretch", none)).2, none), ((He.cT K ("labour", none)).2, none), ((He.cT K ("law", none)).2, some (("law" : Str) ++ ".<locals>." ++ "<lambda>"))]) := Fn.mk' (ok_l_gcd (T := [((He.cT K ("is_name", none)).2, none), ((He.cT K ("is_stretch", none)).2, none), ((He.cT K ("labour", none)).2, none), ((He.cT K ("law", none)).2, some (("law" : Str) ++ ".<locals>." ++ "<lambda>"))]) T60    ) a60 T60.kp b60
  have F_l_amt : Fn l.prog w K mg base 2 "_law_amt" ["_law_num", "_law_den"] (sp_l_amt K [((He.cT K ("is_name", none)).2, none), ((He.cT K ("is_stretch", none)).2, none), ((He.cT K ("labour", none)).2, none), ((He.cT K ("law", none)).2, some (("law" : Str) ++ ".<locals>." ++ "<lambda>"))]) := Fn.mk' (ok_l_amt (T := [((He.cT K ("is_name", none)).2, none), ((He.cT K ("is_stretch", none)).2, none), ((He.cT K ("labour", none)).2, none), ((He.cT K ("law", none)).2, some (("law" : Str) ++ ".<locals>." ++ "<lambda>"))]) T61 B   F_l_gcd ) a61 T61.kp b61
  have F_l_add : Fn l.prog w K mg base 3 "_law_add" ["_law_one", "_law_other"] (sp_l_add K [((He.cT K ("is_name", none)).2, none), ((He.cT K ("is_stretch", none)).2, none), ((He.cT K ("labour", none)).2, none), ((He.cT K ("law", none)).2, some (("law" : Str) ++ ".<locals>." ++ "<lambda>"))]) := Fn.mk' (ok_l_add (T := [((He.cT K ("is_name", none)).2, none), ((He.cT K ("is_stretch", none)).2, none), ((He.cT K ("labour", none)).2, none), ((He.cT K ("law", none)).2, some (("law" : Str) ++ ".<locals>." ++ "<lambda>"))]) T62   F_l_amt ) a62 T62.kp b62
  have F_l_sub : Fn l.prog w K mg base 3 "_law_sub" ["_law_one", "_law_other"] (sp_l_sub K [((He.cT K ("is_name", none)).2, none), ((He.cT K ("is_stretch", none)).2, none), ((He.cT K ("labour", none)).2, none), ((He.cT K ("law", none)).2, some (("law" : Str) ++ ".<locals>." ++ "<lambda>"))]) := Fn.mk' (ok_l_sub (T := [((He.cT K ("is_name", none)).2, none), ((He.cT K ("is_stretch", none)).2, none), ((He.cT K ("labour", none)).2, none), ((He.cT K ("law", none)).2, some (("law" : Str) ++ ".<locals>." ++ "<lambda>"))]) T63   F_l_amt ) a63 T63.kp b63
  have F_l_mul : Fn l.prog w K mg base 3 "_law_mul" ["_law_one", "_law_number"] (sp_l_mul K [((He.cT K ("is_name", none)).2, none), ((He.cT K ("is_stretch", none)).2, none), ((He.cT K ("labour", none)).2, none), ((He.cT K ("law", none)).2, some (("law" : Str) ++ ".<locals>." ++ "<lambda>"))]) := Fn.mk' (ok_l_mul (T := [((He.cT K ("is_name", none)).2, none), ((He.cT K ("is_stretch", none)).2, none), ((He.cT K ("labour", none)).2, none), ((He.cT K ("law", none)).2, some (("law" : Str) ++ ".<locals>." ++ "<lambda>"))]) T64   F_l_amt ) a64 T64.kp b64
  exact ok_LAW (T := [((He.cT K ("is_name", none)).2, none), ((He.cT K ("is_stretch", none)).2, none), ((He.cT K ("labour", none)).2, none), ((He.cT K ("law", none)).2, some (("law" : Str) ++ ".<locals>." ++ "<lambda>"))]) T65 hnT (by simp) B65 B   W TC F_l_cell F_l_draws F_l_many M_enter M_hands M_pails M_ledger M_hour M_init M_called M_call M_swap M_go F_l_name F_l_same F_l_split F_l_way F_l_amt F_l_add F_l_sub F_l_mul 
end My
open PySem PySem.W PyProof.Rows
set_option maxRecDepth 100000 in
set_option maxHeartbeats 0 in
theorem PySem.Challenge.cw_pailchain_k18_ledgers_of_steady_hands_holds : PySem.Challenge.rw_pailchain_k18_ledgers_of_steady_hands.Holds := by
  w_on; o_law
  refine HandSHeadRun.head_any (r := (PySem.W.OpenLaw.row PySem.Challenge.rw_pailchain_k18_ledgers_of_steady_hands)) (q := view (OpenLaw.row PySem.Challenge.rw_pailchain_k18_ledgers_of_steady_hands).prog [65]) (H := My.hrHook My.hrFx My.hrFn My.hrTf) (ob := My.hrOb My.hrFx My.hrFn My.hrTf) (M := 60000) (loose := My.hrLoose) (d := HandSHeadRun.topDef (OpenLaw.row PySem.Challenge.rw_pailchain_k18_ledgers_of_steady_hands).prog 65) (kwd := []) My.hrOb_eq (by kernel_rfl) (fun s => by kernel_rfl) My.hrRun (by kernel_rfl) (by kernel_rfl) (by kernel_rfl) (by rfl) (by first | assumption | decide +kernel) (by decide +kernel) ⟨rfl, rfl, rfl, rfl, rfl, by decide +kernel⟩ ?hw ?hc
  case hw => w_witness2
  case hc =>
    refine LamX.walk_ofTsE (l := PySem.Challenge.rw_pailchain_k18_ledgers_of_steady_hands) (n := 63) (k := 24) (x := "_law_script") (CX := fun w => L2.CX PySem.Challenge.rw_pailchain_k18_ledgers_of_steady_hands.prog w) rfl (by decide) (by kernel_rfl) ⟨rfl, by decide, by decide⟩ ?F (fun _ _ _ _ _ ⟨_, _, _, _, _, _, _, _, _, _, _, _, z⟩ => z)
    intro w mg fa h Y G hmg0
    obtain ⟨K, KX, c⟩ := Y
    have hmg : mg ("law" : PySem.Str) = some (.ref fa) := by
      have e : (HandSHeadRun.topDef (OpenLaw.row PySem.Challenge.rw_pailchain_k18_ledgers_of_steady_hands).prog 65).name = ("law" : PySem.Str) := by kernel_rfl
      rw [← e]; exact hmg0
    exact ⟨K, KX, My.all_mk KX G hmg c⟩
