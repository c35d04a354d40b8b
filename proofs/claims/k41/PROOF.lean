import PyProof.Rows.All
import Wide.All
import OpenK.AllK
import Wide.FinOn
import HandS.ForMost
import HandS.Wide
import HandS.IsInst
import HandS.NoneIn
import HandS.EndBits
import HandS.FStr
import HandS.ClsMeth
import HandS.ExcField
import HandS.ExcInit
import HandS.ForExc
import HandS.EndTab
import HandS.Lambda
import HandS.AnyAll
import HandS.RevRange
import HandS.SortInts
import HandS.More
import HandS.Walk
import HandS.Flow
import HandS.Zip
import HandS.TupAny
import KE.GoesEnum
import KE.KStateDown
import HandS.Head2
import HandS.HeadHook4
import HandS.HeadWalk
import HandS.Codes
import HandS.StrMore
import HandS.RaiseMore
import HandS.HeadHook3
import KE.IntTextLaws
import PyProof.StrLawsAffix
import PySem.Challenge.RW_pailchain_k41_whole_logs_of_chains
set_option Elab.async false
set_option linter.all false
set_option maxRecDepth 100000
set_option maxHeartbeats 4000000
namespace My
open PySem PySem.Spec PyProof.Rows L2
/-! ### a def of the text with its promise, ready to be called -/
structure Fn (P : Program) (w : World) (K : PySem.W.Frag) (mg : Str → Option Value) (base : Heap) (k : Nat) (x : Str) (ps : List Str) (sp : Sp) : Prop where
  ex : ∃ f fd, FnOk P w K mg base CX0 k f fd ps sp ∧ mg x = some (.ref f) ∧ PySem.W.keepIn K (.ref f) = true ∧ Binds K fd ps []
theorem Fn.mk' {P : Program} {w : World} {K : PySem.W.Frag} {mg : Str → Option Value} {base : Heap} {k : Nat} {x : Str} {ps : List Str} {sp : Sp} {f : Addr} {fd : FuncData}
    (h : FnOk P w K mg base CX0 k f fd ps sp) (g : mg x = some (.ref f)) (kp : PySem.W.keepIn K (.ref f) = true) (b : Binds K fd ps []) : Fn P w K mg base k x ps sp := ⟨⟨f, fd, h, g, kp, b⟩⟩
section
variable {X : Cx} {k : Nat} {x : Str} {ps : List Str} {sp : Sp} {e : Expr} {es : List Expr} {t : TA} {p pos : Pos}
theorem pe_fn (F : Fn X.prog X.w X.K X.mg X.base k x ps sp) (hr : Room k X.A) (ha : PA X (e :: es) t) (hg : Gl X x := by rfl) (hdb : (x == ("__debug__" : Str)) = false := by decide)
    (he : starEach (e :: es) X.env = (false, eval e X.env) :: starEach es X.env := by rfl) (hpl : (backTo pos (starEach es X.env)).any (·.1) = false := by rfl) :
    PE X (.Call (.Name x p) (e :: es) [] pos) (tCall sp [] E0 t) := by
  obtain ⟨f, fd, h, g, kp, b⟩ := F.ex
  exact pe_call h hr hg g kp b .nil pass0 ha hdb he hpl
theorem pe_fn0 (F : Fn X.prog X.w X.K X.mg X.base k x ps sp) (hr : Room k X.A) (hg : Gl X x := by rfl) (hdb : (x == ("__debug__" : Str)) = false := by decide) :
    PE X (.Call (.Name x p) [] [] pos) (tCall sp [] E0 tNil) := by
  obtain ⟨f, fd, h, g, kp, b⟩ := F.ex
  exact pe_call0 h hr hg g kp b .nil pass0 hdb
end
/-! ### heaps: what a def leaves; the tables of code objects may grow -/
/-- the tables that grow: a table of generator expressions (none), of lambdas (their name) -/
abbrev Tb := List (Addr × Option Str)
def OkP (H : Hp) (p : Addr × Option Str) : Prop := match p.2 with
  | none => GxR.TabG H p.1
  | some q => LamX.TabS H p.1 q
def Ok (T : Tb) (H : Hp) : Prop := ∀ p ∈ T, OkP H p
def nTbl : HO → Prop
  | .tbl _ => False
  | _ => True
structure Sm (T : Tb) (H H' : Hp) : Prop where
  keep : ∀ b o, H b = some o → nTbl o → H' b = some o
  ok : Ok T H → Ok T H'
  free : ∀ l, H' l = none → H l = none
theorem nTbl_ne {o : HO} (h : nTbl o) (ps : Array Value) : o ≠ .tbl ps := fun e => by rw [e] at h; exact h
theorem Sm.k {T : Tb} {H H' : Hp} (s : Sm T H H') {b : Addr} {o : HO} (e : H b = some o) (n : nTbl o := by trivial) : H' b = some o := s.keep b o e n
theorem Sm.refl {T : Tb} {H : Hp} : Sm T H H := ⟨fun _ _ e _ => e, fun h => h, fun _ h => h⟩
theorem Sm.trans {T : Tb} {H H1 H2 : Hp} (a : Sm T H H1) (b : Sm T H1 H2) : Sm T H H2 := ⟨fun c o e n => b.keep c o (a.keep c o e n) n, fun h => b.ok (a.ok h), fun l h => a.free l (b.free l h)⟩
theorem Sm.seq {T : Tb} {K : PySem.W.Frag} {H H' : Hp} {a : Addr} {xs : List V} (e : Sm T H H') (h : SqL K H a xs) : SqL K H' a xs := by
  rcases h with (h | ⟨o, h⟩) | h
  · exact .inl (.inl (e.keep _ _ h trivial))
  · exact .inl (.inr ⟨o, e.keep _ _ h trivial⟩)
  · exact .inr h
theorem same_tup {T : Tb} {K : PySem.W.Frag} {H H' : Hp} {a : Addr} {xs : List V} (e : Sm T H H') (h : SqT K H a xs) : SqT K H' a xs := by
  rcases h with (h | ⟨o, h⟩) | h
  · exact .inl (.inl (e.keep _ _ h trivial))
  · exact .inl (.inr ⟨o, e.keep _ _ h trivial⟩)
  · exact .inr h
theorem Sm.lst {T : Tb} {H H' : Hp} {a : Addr} {xs : List V} (e : Sm T H H') (h : H a = some (.lst xs)) : H' a = some (.lst xs) := e.keep _ _ h trivial
theorem okP_ext {H H' : Hp} {p : Addr × Option Str} (h : OkP H p) (e : ∀ b o, H b = some o → H' b = some o) : OkP H' p := by
  obtain ⟨P, q⟩ := p
  cases q with
  | none =>
    obtain ⟨ps, h1, h2⟩ := (show GxR.TabG H P from h)
    exact ⟨ps, e _ _ h1, h2⟩
  | some q => exact LamX.TabS.ext (show LamX.TabS H P q from h) e
/-- the one list at p is changed -/
theorem okP_mut {H : Hp} {p : Addr × Option Str} {a : Addr} {o : HO} {xs : List V} (h : OkP H p) (ha : H a = some (.lst xs)) : OkP (upd H a o) p := by
  have k : ∀ b u, H b = some u → u ≠ .lst xs → upd H a o b = some u := fun b u e n => by
    rw [upd_ne (fun z => n (by rw [z, ha] at e; exact (Option.some.inj e).symm))]
    exact e
  obtain ⟨P, q⟩ := p
  cases q with
  | none =>
    obtain ⟨ps, h1, h2⟩ := (show GxR.TabG H P from h)
    exact ⟨ps, k _ _ h1 (fun z => by cases z), h2⟩
  | some q =>
    obtain ⟨ps, h1, h2, h3⟩ := (show LamX.TabS H P q from h)
    refine ⟨ps, k _ _ h1 (fun z => by cases z), h2, fun pos cv hc => ?_⟩
    obtain ⟨c, e1, e2⟩ := h3 pos cv hc
    exact ⟨c, e1, k _ _ e2 (fun z => by unfold LamX.CodeO at z; cases z)⟩
theorem same_upd {T : Tb} {H : Hp} {p : Addr} {o : HO} (h : H p = none) : Sm T H (upd H p o) := by
  have k : ∀ b x, H b = some x → upd H p o b = some x := fun b x e => by
    rw [upd_ne (ne_of_none e h)]
    exact e
  refine ⟨fun b x e _ => k b x e, fun h q hq => okP_ext (h q hq) k, fun l hl => ?_⟩
  cases q : H l with
  | none => rfl
  | some x => rw [k _ _ q] at hl; cases hl
theorem same_mut {T : Tb} {H H' : Hp} {p : Addr} {o : HO} {xs : List V} (e : Sm T H H') (h : H p = none) (hp : H' p = some (.lst xs)) : Sm T H (upd H' p o) := by
  refine ⟨fun b x q n => ?_, fun hk q hq => okP_mut (e.ok hk q hq) hp, fun l hl => ?_⟩
  · rw [upd_ne (ne_of_none q h)]
    exact e.keep b x q n
  · by_cases z : l = p
    · rw [z]; exact h
    · rw [upd_ne z] at hl
      exact e.free l hl
theorem seq_k {t u : TS} {D : Ends} {σ : L2.St} {H : Hp} (P : L2.St → Hp → Prop) (hu : ∀ σ' H', P σ' H' → u D σ' H') (h : (∀ σ' H', P σ' H' → u D σ' H') → tSeq t u D σ H) : tSeq t u D σ H := h hu
theorem seq_if {c : TT} {t1 t2 u : TS} {D : Ends} {σ : L2.St} {H : Hp} (P : L2.St → Hp → Prop) (hu : ∀ σ' H', P σ' H' → u D σ' H') (h : (∀ σ' H', P σ' H' → u D σ' H') → tSeq (tIfS c t1 t2) u D σ H) : tSeq (tIfS c t1 t2) u D σ H := h hu
theorem seq_as {te : TE} {g : TG} {u : TS} {D : Ends} {σ : L2.St} {H : Hp} (P : L2.St → Hp → Prop) (hu : ∀ σ' H', P σ' H' → u D σ' H') (h : (∀ σ' H', P σ' H' → u D σ' H') → tSeq (tAsg te g) u D σ H) : tSeq (tAsg te g) u D σ H := h hu
theorem sz {n : Nat} (h : n ≤ 10000) : n ≤ sizeLine := Nat.le_trans h (by decide)
theorem szl {n : Nat} (h : n < 10000) : n < sizeLine := Nat.lt_of_lt_of_le h (by decide)
/-! ### data -/
mutual
theorem dp_same {T : Tb} {K : PySem.W.Frag} {H H' : Hp} (e : Sm T H H') : ∀ (d : PyData) (v : V), Dp K H v d → Dp K H' v d
  | .none, _, h => by cases h; exact .non
  | .bool b, _, h => by cases h; exact .bl b
  | .int i, _, h => by cases h; exact .int i
  | .str x, _, h => by cases h; exact .str x
  | .list ds, _, h => by
    cases h with
    | lst hs ha => exact .lst (e.seq hs) (dpa_same e ds _ ha)
  | .tuple ds, _, h => by
    cases h with
    | tup hs ha => exact .tup (same_tup e hs) (dpa_same e ds _ ha)
  | .dict _, _, h => by cases h
theorem dpa_same {T : Tb} {K : PySem.W.Frag} {H H' : Hp} (e : Sm T H H') : ∀ (ds : List PyData) (vs : List V), DpAll K H vs ds → DpAll K H' vs ds
  | [], _, h => by cases h; exact .nil
  | d :: ds, _, h => by
    cases h with
    | cons h1 h2 => exact .cons (dp_same e d _ h1) (dpa_same e ds _ h2)
end
theorem dpa_len {K : PySem.W.Frag} {H : Hp} : ∀ {vs : List V} {ds : List PyData}, DpAll K H vs ds → vs.length = ds.length
  | _, [], h => by cases h; rfl
  | _, _ :: _, h => by
    cases h with
    | cons _ h2 => exact congrArg (· + 1) (dpa_len h2)
theorem dpa_get {K : PySem.W.Frag} {H : Hp} : ∀ {vs : List V} {ds : List PyData}, DpAll K H vs ds → ∀ {i : Nat} {d : PyData}, ds[i]? = some d → ∃ v, vs[i]? = some v ∧ Dp K H v d
  | _, [], h, i, d, e => by simp at e
  | _, d0 :: ds, h, 0, d, e => by
    cases h with
    | cons h1 h2 =>
      obtain rfl : d0 = d := Option.some.inj e
      exact ⟨_, rfl, h1⟩
  | _, d0 :: ds, h, i + 1, d, e => by
    cases h with
    | cons h1 h2 => exact dpa_get h2 (i := i) e
def depOk : Nat → PyData → Bool
  | _, .none => true
  | _, .bool _ => true
  | _, .int _ => true
  | _, .str _ => true
  | n + 1, .list ds => decide (ds.length ≤ 9000) && ds.all (depOk n)
  | n + 1, .tuple ds => decide (ds.length ≤ 9000) && ds.all (depOk n)
  | _, _ => false
def tyD : PyData → String
  | .none => "NoneType"
  | .bool _ => "bool"
  | .int _ => "int"
  | .str _ => "str"
  | .list _ => "list"
  | .tuple _ => "tuple"
  | .dict _ => "dict"
theorem tyx_of {K : PySem.W.Frag} {H : Hp} : ∀ {d : PyData} {v : V}, Dp K H v d → TyX K H v (.type (tyD d))
  | _, _, .non => .base .non
  | _, _, .bl b => .base (.bl b)
  | _, _, .int i => .base (.int i)
  | _, _, .str x => .base (.str x)
  | _, _, .lst (.inl (.inl h)) _ => .base (.lst h)
  | _, _, .lst (.inl (.inr ⟨_, h⟩)) _ => .base (.frz h)
  | _, _, .lst (.inr ⟨_, _, _, h, c, _⟩) _ => .kList h c
  | _, _, .tup (.inl (.inl h)) _ => .base (.tup h)
  | _, _, .tup (.inl (.inr ⟨_, h⟩)) _ => .fTuple h
  | _, _, .tup (.inr ⟨_, _, _, h, c, _⟩) _ => .kTuple h c
theorem rep_all (n : Nat) : (List.replicate n true).all id = true := by
  induction n with
  | zero => rfl
  | succ n ih => rw [List.replicate_succ, List.all_cons, ih]; rfl
def rLen (K : PySem.W.Frag) : List V → Hp → VK → Prop := fun xs H Q => ∃ p ys, xs = [.ref p] ∧ (SqL K H p ys ∨ SqT K H p ys) ∧ Q (.int ys.length) H
def rLst (K : PySem.W.Frag) : List V → Hp → VK → Prop := fun xs H Q => ∃ p ys, xs = [.ref p] ∧ (SqL K H p ys ∨ SqT K H p ys) ∧ ∀ (l : Addr), H l = none → Q (.ref l) (upd H l (.lst ys))
theorem call_list1 {X : Cx} : CallR X (.type "list") (rLst X.K) := call_list_of
theorem call_len1 {X : Cx} : CallR X (.builtin "len") (rLen X.K) := call_len_seq
theorem kb_bool_bool : kitB "bool" "bool" = some true := by decide +kernel
theorem kb_bool_int : kitB "bool" "int" = some true := by decide +kernel
theorem kb_bool_str : kitB "bool" "str" = some false := by decide +kernel
theorem kb_bool_list : kitB "bool" "list" = some false := by decide +kernel
theorem kb_bool_tuple : kitB "bool" "tuple" = some false := by decide +kernel
theorem kb_int_bool : kitB "int" "bool" = some false := by decide +kernel
theorem kb_int_int : kitB "int" "int" = some true := by decide +kernel
theorem kb_int_str : kitB "int" "str" = some false := by decide +kernel
theorem kb_int_list : kitB "int" "list" = some false := by decide +kernel
theorem kb_int_tuple : kitB "int" "tuple" = some false := by decide +kernel
theorem kb_str_bool : kitB "str" "bool" = some false := by decide +kernel
theorem kb_str_int : kitB "str" "int" = some false := by decide +kernel
theorem kb_str_str : kitB "str" "str" = some true := by decide +kernel
theorem kb_str_list : kitB "str" "list" = some false := by decide +kernel
theorem kb_str_tuple : kitB "str" "tuple" = some false := by decide +kernel
theorem kb_list_bool : kitB "list" "bool" = some false := by decide +kernel
theorem kb_list_int : kitB "list" "int" = some false := by decide +kernel
theorem kb_list_str : kitB "list" "str" = some false := by decide +kernel
theorem kb_list_list : kitB "list" "list" = some true := by decide +kernel
theorem kb_list_tuple : kitB "list" "tuple" = some false := by decide +kernel
theorem kb_tuple_bool : kitB "tuple" "bool" = some false := by decide +kernel
theorem kb_tuple_int : kitB "tuple" "int" = some false := by decide +kernel
theorem kb_tuple_str : kitB "tuple" "str" = some false := by decide +kernel
theorem kb_tuple_list : kitB "tuple" "list" = some false := by decide +kernel
theorem kb_tuple_tuple : kitB "tuple" "tuple" = some true := by decide +kernel
theorem kb_NoneType_bool : kitB "NoneType" "bool" = some false := by decide +kernel
theorem kb_NoneType_int : kitB "NoneType" "int" = some false := by decide +kernel
theorem kb_NoneType_str : kitB "NoneType" "str" = some false := by decide +kernel
theorem kb_NoneType_list : kitB "NoneType" "list" = some false := by decide +kernel
theorem kb_NoneType_tuple : kitB "NoneType" "tuple" = some false := by decide +kernel
theorem tyes_t {σ : L2.St} {H : Hp} {Q : Bool → Hp → Prop} (h : Q true H) : tYes σ H Q := h
theorem tyes_i {σ : L2.St} {H : Hp} {A B : Hp → Prop} (h : A H) : tYes σ H (fun b H3 => if b = true then A H3 else B H3) := iteT (A := A H) (B := B H) h
/-! ### draws -/
def Drawn : List Int → List Int → Prop
  | [], [] => True
  | d :: ds, q :: qs => (0 ≤ d ∧ d < q) ∧ Drawn ds qs
  | _, _ => False
theorem Drawn.cons {ds qs : List Int} {q : Int} (h : Drawn ds (q :: qs)) : ∃ d r, ds = d :: r ∧ 0 ≤ d ∧ d < q ∧ Drawn r qs := by
  cases ds with
  | nil => exact h.elim
  | cons d r => exact ⟨d, r, rfl, h.1.1, h.1.2, h.2⟩
theorem Drawn.nil {ds : List Int} (h : Drawn ds []) : ds = [] := by
  cases ds with
  | nil => rfl
  | cons d r => exact h.elim
theorem Drawn.snoc : ∀ {ds qs : List Int} {d q : Int}, Drawn ds qs → 0 ≤ d → d < q → Drawn (ds ++ [d]) (qs ++ [q])
  | [], [], _, _, _, h0, h1 => ⟨⟨h0, h1⟩, trivial⟩
  | [], _ :: _, _, _, h, _, _ => h.elim
  | _ :: _, [], _, _, h, _, _ => h.elim
  | _ :: _, _ :: _, _, _, h, h0, h1 => ⟨h.1, Drawn.snoc h.2 h0 h1⟩
theorem Drawn.length : ∀ {ds qs : List Int}, Drawn ds qs → ds.length = qs.length
  | [], [], _ => rfl
  | [], _ :: _, h => h.elim
  | _ :: _, [], h => h.elim
  | _ :: _, _ :: _, h => congrArg (· + 1) (Drawn.length h.2)
/-! ### amounts -/
abbrev Am := Int × Int
def tv (x : Am) : List V := [.int x.1, .int x.2]
def amt (n d : Int) : Am := ((if d < 0 then -n else n) / (Nat.gcd n.natAbs d.natAbs : Nat), (d.natAbs : Int) / (Nat.gcd n.natAbs d.natAbs : Nat))
theorem amD_dp {K : PySem.W.Frag} {H : Hp} {p : Addr} {x : Am} (h : SqT K H p (tv x)) : Dp K H (.ref p) (.tuple [.int x.1, .int x.2]) := .tup h (.cons (.int _) (.cons (.int _) .nil))
abbrev amD (x : Am) : PyData := .tuple [.int x.1, .int x.2]
theorem tup_dp {K : PySem.W.Frag} {H : Hp} {p : Addr} {x : Am} (h : H p = some (.tup (tv x))) : Dp K H (.ref p) (amD x) := amD_dp (SqT.of h)
theorem pd_at {K : PySem.W.Frag} {H : Hp} {v : V} {x : Am} (h : Dp K H v (amD x)) : ∃ b, v = .ref b ∧ SqT K H b (tv x) := by
  cases h with
  | tup hs ha =>
    cases ha with
    | cons h1 h2 =>
      cases h2 with
      | cons h3 h4 =>
        cases h4
        cases h1
        cases h3
        exact ⟨_, rfl, hs⟩
theorem dpa_app {K : PySem.W.Frag} {H : Hp} : ∀ {vs : List V} {ds : List PyData} {ws : List V} {es : List PyData}, DpAll K H vs ds → DpAll K H ws es → DpAll K H (vs ++ ws) (ds ++ es)
  | _, [], _, _, h, g => by cases h; exact g
  | _, _ :: _, _, _, h, g => by
    cases h with
    | cons h1 h2 => exact .cons h1 (dpa_app h2 g)
theorem dpa_take {K : PySem.W.Frag} {H : Hp} : ∀ {vs : List V} {ds : List PyData} (n : Nat), DpAll K H vs ds → DpAll K H (vs.take n) (ds.take n)
  | _, _, 0, _ => .nil
  | _, [], n + 1, h => by cases h; exact .nil
  | _, _ :: _, n + 1, h => by
    cases h with
    | cons h1 h2 => exact .cons h1 (dpa_take n h2)
theorem dpa_drop {K : PySem.W.Frag} {H : Hp} : ∀ {vs : List V} {ds : List PyData} (n : Nat), DpAll K H vs ds → DpAll K H (vs.drop n) (ds.drop n)
  | _, _, 0, h => h
  | _, [], n + 1, h => by cases h; exact .nil
  | _, _ :: _, n + 1, h => by
    cases h with
    | cons h1 h2 => exact dpa_drop n h2
/-- pairs stay where a list is changed -/
theorem pd_mut {K : PySem.W.Frag} {H : Hp} {v : V} {x : Am} {a : Addr} {o : HO} {xs : List V} (h : Dp K H v (amD x)) (ha : H a = some (.lst xs)) : Dp K (upd H a o) v (amD x) := by
  obtain ⟨b, rfl, hs⟩ := pd_at h
  refine amD_dp ?_
  rcases hs with (hs | ⟨u, hs⟩) | hs
  · exact .inl (.inl (by rw [upd_ne (ne_of hs ha (fun z => by cases z))]; exact hs))
  · exact .inl (.inr ⟨u, by rw [upd_ne (ne_of hs ha (fun z => by cases z))]; exact hs⟩)
  · exact .inr hs
theorem pds_mut {K : PySem.W.Frag} {H : Hp} {a : Addr} {o : HO} {xs : List V} (ha : H a = some (.lst xs)) : ∀ {vs : List V} {qs : List Am}, DpAll K H vs (qs.map amD) → DpAll K (upd H a o) vs (qs.map amD)
  | _, [], h => by cases h; exact .nil
  | _, _ :: _, h => by
    cases h with
    | cons h1 h2 => exact .cons (pd_mut h1 ha) (pds_mut ha h2)
theorem cut_take (xs : List V) (k : Nat) {z : Int} (hz : z = (k : Int)) : cutV xs none (some z) = xs.take k := by
  subst hz
  unfold cutV
  rw [HT.sIx_none, HT.sIx_nat, List.drop_zero, Nat.sub_zero]
  by_cases h : k ≤ xs.length
  · rw [Nat.min_eq_left h]
  · rw [Nat.min_eq_right (by omega), List.take_length, List.take_of_length_le (by omega)]
theorem cut_drop (xs : List V) (k : Nat) {z : Int} (hz : z = (k : Int)) : cutV xs (some z) none = xs.drop k := by
  subst hz
  unfold cutV
  rw [HT.sIx_none, HT.sIx_nat]
  by_cases h : k ≤ xs.length
  · rw [Nat.min_eq_left h, List.take_of_length_le (by rw [List.length_drop]; omega)]
  · rw [Nat.min_eq_right (by omega), List.drop_length, List.drop_of_length_le (by omega), List.take_nil]
theorem dpa_rep {K : PySem.W.Frag} {H : Hp} {vs : List V} {qs : List Am} (h : DpAll K H vs (qs.map amD)) : ∀ n, DpAll K H (List.replicate n vs).flatten (((List.replicate n qs).flatten).map amD)
  | 0 => .nil
  | n + 1 => by
    rw [List.replicate_succ, List.replicate_succ, List.flatten_cons, List.flatten_cons, List.map_append]
    exact dpa_app h (dpa_rep h n)
theorem len_rep {α : Type} (l : List α) : ∀ n, ((List.replicate n l).flatten).length = n * l.length
  | 0 => by simp
  | n + 1 => by rw [List.replicate_succ, List.flatten_cons, List.length_append, len_rep l n, Nat.succ_mul, Nat.add_comm]
/-! ### told tuples in a list that grows -/
def noL : Nat → PyData → Bool
  | _, .none => true
  | _, .bool _ => true
  | _, .int _ => true
  | _, .str _ => true
  | n + 1, .tuple ds => ds.all (noL n)
  | _, _ => false
theorem sqT_mut {K : PySem.W.Frag} {H : Hp} {t a : Addr} {o : HO} {xs ys : List V} (hs : SqT K H t ys) (ha : H a = some (.lst xs)) : SqT K (upd H a o) t ys := by
  rcases hs with (hs | ⟨u, hs⟩) | hs
  · exact .inl (.inl (by rw [upd_ne (ne_of hs ha (fun z => by cases z))]; exact hs))
  · exact .inl (.inr ⟨u, by rw [upd_ne (ne_of hs ha (fun z => by cases z))]; exact hs⟩)
  · exact .inr hs
mutual
theorem noL_mut {K : PySem.W.Frag} {H : Hp} {a : Addr} {o : HO} {xs : List V} (ha : H a = some (.lst xs)) : ∀ (n : Nat) (d : PyData) (v : V), noL n d = true → Dp K H v d → Dp K (upd H a o) v d
  | _, .none, _, _, h => by cases h; exact .non
  | _, .bool b, _, _, h => by cases h; exact .bl b
  | _, .int i, _, _, h => by cases h; exact .int i
  | _, .str x, _, _, h => by cases h; exact .str x
  | 0, .tuple _, _, e, _ => by cases e
  | n + 1, .tuple ds, _, e, h => by
    cases h with
    | tup hs hall => exact .tup (sqT_mut hs ha) (noLs_mut ha n ds _ e hall)
  | 0, .list _, _, e, _ => by cases e
  | _ + 1, .list _, _, e, _ => by cases e
  | 0, .dict _, _, e, _ => by cases e
  | _ + 1, .dict _, _, e, _ => by cases e
theorem noLs_mut {K : PySem.W.Frag} {H : Hp} {a : Addr} {o : HO} {xs : List V} (ha : H a = some (.lst xs)) : ∀ (n : Nat) (ds : List PyData) (vs : List V), ds.all (noL n) = true → DpAll K H vs ds → DpAll K (upd H a o) vs ds
  | _, [], _, _, h => by cases h; exact .nil
  | n, d :: ds, _, e, h => by
    cases h with
    | cons h1 h2 =>
      rw [List.all_cons, Bool.and_eq_true] at e
      exact .cons (noL_mut ha n d _ e.1 h1) (noLs_mut ha n ds _ e.2 h2)
end
/-- the list at fo holds ds -/
def Fd (K : PySem.W.Frag) (H : Hp) (fo : Addr) (ds : List PyData) : Prop := ∃ ts, H fo = some (.lst ts) ∧ DpAll K H ts ds
theorem Fd.keep {T : Tb} {K : PySem.W.Frag} {H H' : Hp} {fo : Addr} {ds : List PyData} (h : Fd K H fo ds) (s : Sm T H H') : Fd K H' fo ds := by
  obtain ⟨ts, h1, h2⟩ := h
  exact ⟨ts, s.k h1, dpa_same s _ _ h2⟩
theorem Fd.push {K : PySem.W.Frag} {H : Hp} {fo : Addr} {ds : List PyData} {ts : List V} {d : PyData} {v : V} (h1 : H fo = some (.lst ts)) (h2 : DpAll K H ts ds) (hv : Dp K H v d) (n1 : ds.all (noL 3) = true := by rfl) (n2 : noL 3 d = true := by rfl) :
    Fd K (upd H fo (.lst (ts ++ [v]))) fo (ds ++ [d]) :=
  ⟨ts ++ [v], upd_same, dpa_app (noLs_mut h1 3 ds _ n1 h2) (.cons (noL_mut h1 3 d v n2 hv) .nil)⟩
theorem Fd.dp {K : PySem.W.Frag} {H : Hp} {fo : Addr} {ds : List PyData} (h : Fd K H fo ds) : Dp K H (.ref fo) (.list ds) := by
  obtain ⟨ts, h1, h2⟩ := h
  exact .lst (SqL.of h1) h2
theorem depOk_ams {qs : List Am} (h : qs.length ≤ 9000) : depOk 5 (.list (qs.map amD)) = true := by
  show (decide ((qs.map amD).length ≤ 9000) && (qs.map amD).all (depOk 4)) = true
  rw [List.length_map, decide_eq_true h, Bool.true_and, List.all_map]
  exact List.all_eq_true.mpr fun q _ => rfl

def topS (i : Nat) : Stmt := PySem.Challenge.pw_pailchain_k41_whole_logs_of_chains.main.body.getD i (.Pass ⟨0, 0, 0, 0⟩)
abbrev s_l_word : Stmt := topS 65
theorem sc_l_word : FnScope ["_law_asked", "e"] ["_law_asked"] (defScope s_l_word) := ⟨rfl, rfl, rfl, by decide +kernel, rfl, by decide +kernel, by decide +kernel⟩
abbrev s_p_is_number : Stmt := topS 26
theorem sc_p_is_number : FnScope ["thing"] ["thing"] (defScope s_p_is_number) := ⟨rfl, rfl, rfl, by decide +kernel, rfl, by decide +kernel, by decide +kernel⟩
abbrev s_p_is_within : Stmt := topS 27
theorem sc_p_is_within : FnScope ["thing", "least", "most"] ["thing", "least", "most"] (defScope s_p_is_within) := ⟨rfl, rfl, rfl, by decide +kernel, rfl, by decide +kernel, by decide +kernel⟩
abbrev s_p_common_divisor : Stmt := topS 3
theorem sc_p_common_divisor : FnScope ["one", "other"] ["one", "other"] (defScope s_p_common_divisor) := ⟨rfl, rfl, rfl, by decide +kernel, rfl, by decide +kernel, by decide +kernel⟩
abbrev s_p_amount : Stmt := topS 4
theorem sc_p_amount : FnScope ["num", "den", "shared"] ["num", "den"] (defScope s_p_amount) := ⟨rfl, rfl, rfl, by decide +kernel, rfl, by decide +kernel, by decide +kernel⟩
abbrev s_p_plus : Stmt := topS 5
theorem sc_p_plus : FnScope ["one", "other"] ["one", "other"] (defScope s_p_plus) := ⟨rfl, rfl, rfl, by decide +kernel, rfl, by decide +kernel, by decide +kernel⟩
abbrev s_p_minus : Stmt := topS 6
theorem sc_p_minus : FnScope ["one", "other"] ["one", "other"] (defScope s_p_minus) := ⟨rfl, rfl, rfl, by decide +kernel, rfl, by decide +kernel, by decide +kernel⟩
abbrev s_p_times : Stmt := topS 7
theorem sc_p_times : FnScope ["one", "other"] ["one", "other"] (defScope s_p_times) := ⟨rfl, rfl, rfl, by decide +kernel, rfl, by decide +kernel, by decide +kernel⟩
abbrev s_p_over : Stmt := topS 8
theorem sc_p_over : FnScope ["one", "other"] ["one", "other"] (defScope s_p_over) := ⟨rfl, rfl, rfl, by decide +kernel, rfl, by decide +kernel, by decide +kernel⟩
abbrev s_p_below : Stmt := topS 9
theorem sc_p_below : FnScope ["one", "other"] ["one", "other"] (defScope s_p_below) := ⟨rfl, rfl, rfl, by decide +kernel, rfl, by decide +kernel, by decide +kernel⟩
abbrev s_p_lesser : Stmt := topS 10
theorem sc_p_lesser : FnScope ["one", "other"] ["one", "other"] (defScope s_p_lesser) := ⟨rfl, rfl, rfl, by decide +kernel, rfl, by decide +kernel, by decide +kernel⟩
abbrev s_p_PailError___init__ : Stmt := inClass (topS 12) 0
theorem sc_p_PailError___init__ : FnScope ["self", "word"] ["self", "word"] (defScope s_p_PailError___init__) := ⟨rfl, rfl, rfl, by decide +kernel, rfl, by decide +kernel, by decide +kernel⟩
abbrev s_p_BadWay___init__ : Stmt := inClass (topS 13) 0
theorem sc_p_BadWay___init__ : FnScope ["self"] ["self"] (defScope s_p_BadWay___init__) := ⟨rfl, rfl, rfl, by decide +kernel, rfl, by decide +kernel, by decide +kernel⟩
abbrev s_p_BadName___init__ : Stmt := inClass (topS 14) 0
theorem sc_p_BadName___init__ : FnScope ["self"] ["self"] (defScope s_p_BadName___init__) := ⟨rfl, rfl, rfl, by decide +kernel, rfl, by decide +kernel, by decide +kernel⟩
abbrev s_p_Taken___init__ : Stmt := inClass (topS 15) 0
theorem sc_p_Taken___init__ : FnScope ["self"] ["self"] (defScope s_p_Taken___init__) := ⟨rfl, rfl, rfl, by decide +kernel, rfl, by decide +kernel, by decide +kernel⟩
abbrev s_p_BadPace___init__ : Stmt := inClass (topS 16) 0
theorem sc_p_BadPace___init__ : FnScope ["self"] ["self"] (defScope s_p_BadPace___init__) := ⟨rfl, rfl, rfl, by decide +kernel, rfl, by decide +kernel, by decide +kernel⟩
abbrev s_p_Full___init__ : Stmt := inClass (topS 17) 0
theorem sc_p_Full___init__ : FnScope ["self"] ["self"] (defScope s_p_Full___init__) := ⟨rfl, rfl, rfl, by decide +kernel, rfl, by decide +kernel, by decide +kernel⟩
abbrev s_p_NoHand___init__ : Stmt := inClass (topS 18) 0
theorem sc_p_NoHand___init__ : FnScope ["self"] ["self"] (defScope s_p_NoHand___init__) := ⟨rfl, rfl, rfl, by decide +kernel, rfl, by decide +kernel, by decide +kernel⟩
abbrev s_p_BadCount___init__ : Stmt := inClass (topS 19) 0
theorem sc_p_BadCount___init__ : FnScope ["self"] ["self"] (defScope s_p_BadCount___init__) := ⟨rfl, rfl, rfl, by decide +kernel, rfl, by decide +kernel, by decide +kernel⟩
abbrev s_p_Nobody___init__ : Stmt := inClass (topS 20) 0
theorem sc_p_Nobody___init__ : FnScope ["self"] ["self"] (defScope s_p_Nobody___init__) := ⟨rfl, rfl, rfl, by decide +kernel, rfl, by decide +kernel, by decide +kernel⟩
abbrev s_p_BadLabour___init__ : Stmt := inClass (topS 21) 0
theorem sc_p_BadLabour___init__ : FnScope ["self"] ["self"] (defScope s_p_BadLabour___init__) := ⟨rfl, rfl, rfl, by decide +kernel, rfl, by decide +kernel, by decide +kernel⟩
abbrev s_l_cell : Stmt := topS 60
theorem sc_l_cell : FnScope ["_law_script", "_law_k"] ["_law_script", "_law_k"] (defScope s_l_cell) := ⟨rfl, rfl, rfl, by decide +kernel, rfl, by decide +kernel, by decide +kernel⟩
abbrev s_l_draws : Stmt := topS 61
theorem sc_l_draws : FnScope ["_law_cell_here", "_law_parts", "_law_one", "_law_two", "_law_six", "_law_found", "_law_part"] ["_law_cell_here", "_law_parts"] (defScope s_l_draws) := ⟨rfl, rfl, rfl, by decide +kernel, rfl, by decide +kernel, by decide +kernel⟩
abbrev s_l_many : Stmt := topS 63
theorem sc_l_many : FnScope ["_law_script", "_law_few"] ["_law_script", "_law_few"] (defScope s_l_many) := ⟨rfl, rfl, rfl, by decide +kernel, rfl, by decide +kernel, by decide +kernel⟩
abbrev s_l_split : Stmt := topS 62
theorem sc_l_split : FnScope ["_law_cell_here", "_law_many_here", "_law_found", "_law_big", "_law_k"] ["_law_cell_here", "_law_many_here"] (defScope s_l_split) := ⟨rfl, rfl, rfl, by decide +kernel, rfl, by decide +kernel, by decide +kernel⟩
abbrev s_p_check_pace : Stmt := topS 30
theorem sc_p_check_pace : FnScope ["pace"] ["pace"] (defScope s_p_check_pace) := ⟨rfl, rfl, rfl, by decide +kernel, rfl, by decide +kernel, by decide +kernel⟩
abbrev s_p_check_paces : Stmt := topS 31
theorem sc_p_check_paces : FnScope ["paces", "most", "pace"] ["paces", "most"] (defScope s_p_check_paces) := ⟨rfl, rfl, rfl, by decide +kernel, rfl, by decide +kernel, by decide +kernel⟩
abbrev s_p_is_name : Stmt := topS 28
theorem sc_p_is_name : FnScope ["text", "sign"] ["text"] (defScope s_p_is_name) := ⟨rfl, rfl, rfl, by decide +kernel, rfl, by decide +kernel, by decide +kernel⟩
abbrev s_p_check_name : Stmt := topS 29
theorem sc_p_check_name : FnScope ["name"] ["name"] (defScope s_p_check_name) := ⟨rfl, rfl, rfl, by decide +kernel, rfl, by decide +kernel, by decide +kernel⟩
abbrev s_p_Chain_take_pail : Stmt := inClass (topS 46) 23
theorem sc_p_Chain_take_pail : FnScope ["self", "number"] ["self"] (defScope s_p_Chain_take_pail) := ⟨rfl, rfl, rfl, by decide +kernel, rfl, by decide +kernel, by decide +kernel⟩
abbrev s_p_Chain_enter : Stmt := inClass (topS 46) 1
theorem sc_p_Chain_enter : FnScope ["self", "name", "pace"] ["self", "name", "pace"] (defScope s_p_Chain_enter) := ⟨rfl, rfl, rfl, by decide +kernel, rfl, by decide +kernel, by decide +kernel⟩
abbrev s_p_Chain_hands : Stmt := inClass (topS 46) 9
theorem sc_p_Chain_hands : FnScope ["self"] ["self"] (defScope s_p_Chain_hands) := ⟨rfl, rfl, rfl, by decide +kernel, rfl, by decide +kernel, by decide +kernel⟩
abbrev s_p_Chain_emptied : Stmt := inClass (topS 46) 14
theorem sc_p_Chain_emptied : FnScope ["self"] ["self"] (defScope s_p_Chain_emptied) := ⟨rfl, rfl, rfl, by decide +kernel, rfl, by decide +kernel, by decide +kernel⟩
abbrev s_p_Chain_pails : Stmt := inClass (topS 46) 15
theorem sc_p_Chain_pails : FnScope ["self"] ["self"] (defScope s_p_Chain_pails) := ⟨rfl, rfl, rfl, by decide +kernel, rfl, by decide +kernel, by decide +kernel⟩
abbrev s_p_Chain_number_of : Stmt := inClass (topS 46) 21
theorem sc_p_Chain_number_of : FnScope ["self", "name"] ["self", "name"] (defScope s_p_Chain_number_of) := ⟨rfl, rfl, rfl, by decide +kernel, rfl, by decide +kernel, by decide +kernel⟩
abbrev s_p_Chain_place : Stmt := inClass (topS 46) 12
theorem sc_p_Chain_place : FnScope ["self", "name"] ["self", "name"] (defScope s_p_Chain_place) := ⟨rfl, rfl, rfl, by decide +kernel, rfl, by decide +kernel, by decide +kernel⟩
abbrev s_p_Chain_ledger : Stmt := inClass (topS 46) 17
theorem sc_p_Chain_ledger : FnScope ["self", "name"] ["self", "name"] (defScope s_p_Chain_ledger) := ⟨rfl, rfl, rfl, by decide +kernel, rfl, by decide +kernel, by decide +kernel⟩
abbrev s_p_Chain_paces : Stmt := inClass (topS 46) 22
theorem sc_p_Chain_paces : FnScope ["self", "name"] ["self"] (defScope s_p_Chain_paces) := ⟨rfl, rfl, rfl, by decide +kernel, rfl, by decide +kernel, by decide +kernel⟩
abbrev s_p_Chain_hour : Stmt := inClass (topS 46) 8
theorem sc_p_Chain_hour : FnScope ["self"] ["self"] (defScope s_p_Chain_hour) := ⟨rfl, rfl, rfl, by decide +kernel, rfl, by decide +kernel, by decide +kernel⟩
abbrev s_p_speeds : Stmt := topS 33
theorem sc_p_speeds : FnScope ["paces", "places", "found", "at", "speed"] ["paces", "places"] (defScope s_p_speeds) := ⟨rfl, rfl, rfl, by decide +kernel, rfl, by decide +kernel, by decide +kernel⟩
abbrev s_p_hours_at : Stmt := topS 35
theorem sc_p_hours_at : FnScope ["gap", "speed"] ["gap", "speed"] (defScope s_p_hours_at) := ⟨rfl, rfl, rfl, by decide +kernel, rfl, by decide +kernel, by decide +kernel⟩
abbrev s_p_meeting : Stmt := topS 34
theorem sc_p_meeting : FnScope ["labour", "paces", "places", "hours", "going", "at", "nearing"] ["labour", "paces", "places"] (defScope s_p_meeting) := ⟨rfl, rfl, rfl, by decide +kernel, rfl, by decide +kernel, by decide +kernel⟩
abbrev s_p_walked : Stmt := topS 36
theorem sc_p_walked : FnScope ["paces", "places", "hours", "going", "place", "speed"] ["paces", "places", "hours"] (defScope s_p_walked) := ⟨rfl, rfl, rfl, by decide +kernel, rfl, by decide +kernel, by decide +kernel⟩
abbrev s_p_ledger_on : Stmt := topS 45
theorem sc_p_ledger_on : FnScope ["ledger", "pace", "speed", "hours", "time", "done", "lost", "more", "short"] ["ledger", "pace", "speed", "hours"] (defScope s_p_ledger_on) := ⟨rfl, rfl, rfl, by decide +kernel, rfl, by decide +kernel, by decide +kernel⟩
abbrev s_p_Chain_till_meeting : Stmt := inClass (topS 46) 26
theorem sc_p_Chain_till_meeting : FnScope ["self"] ["self"] (defScope s_p_Chain_till_meeting) := ⟨rfl, rfl, rfl, by decide +kernel, rfl, by decide +kernel, by decide +kernel⟩
abbrev s_p_Chain_walk : Stmt := inClass (topS 46) 27
theorem sc_p_Chain_walk : FnScope ["self", "hours", "paces", "going", "name", "pace", "speed"] ["self", "hours"] (defScope s_p_Chain_walk) := ⟨rfl, rfl, rfl, by decide +kernel, rfl, by decide +kernel, by decide +kernel⟩
abbrev s_p_Chain_mark : Stmt := inClass (topS 46) 24
theorem sc_p_Chain_mark : FnScope ["self", "at", "pail"] ["self", "at"] (defScope s_p_Chain_mark) := ⟨rfl, rfl, rfl, by decide +kernel, rfl, by decide +kernel, by decide +kernel⟩
abbrev s_p_Chain_mark_from : Stmt := inClass (topS 46) 25
theorem sc_p_Chain_mark_from : FnScope ["self", "first", "at"] ["self", "first"] (defScope s_p_Chain_mark_from) := ⟨rfl, rfl, rfl, by decide +kernel, rfl, by decide +kernel, by decide +kernel⟩
abbrev s_p_Chain_next_leaver : Stmt := inClass (topS 46) 31
theorem sc_p_Chain_next_leaver : FnScope ["self", "at"] ["self"] (defScope s_p_Chain_next_leaver) := ⟨rfl, rfl, rfl, by decide +kernel, rfl, by decide +kernel, by decide +kernel⟩
abbrev s_p_Chain_turn : Stmt := inClass (topS 46) 30
theorem sc_p_Chain_turn : FnScope ["self", "rows", "leaver"] ["self"] (defScope s_p_Chain_turn) := ⟨rfl, rfl, rfl, by decide +kernel, rfl, by decide +kernel, by decide +kernel⟩
abbrev s_p_Chain_turns : Stmt := inClass (topS 46) 29
theorem sc_p_Chain_turns : FnScope ["self", "rows"] ["self"] (defScope s_p_Chain_turns) := ⟨rfl, rfl, rfl, by decide +kernel, rfl, by decide +kernel, by decide +kernel⟩
abbrev s_p_is_stretch : Stmt := topS 40
theorem sc_p_is_stretch : FnScope ["thing", "part"] ["thing"] (defScope s_p_is_stretch) := ⟨rfl, rfl, rfl, by decide +kernel, rfl, by decide +kernel, by decide +kernel⟩
abbrev s_p_check_way : Stmt := topS 41
theorem sc_p_check_way : FnScope ["way", "stretch"] ["way"] (defScope s_p_check_way) := ⟨rfl, rfl, rfl, by decide +kernel, rfl, by decide +kernel, by decide +kernel⟩
abbrev s_p_labour : Stmt := topS 42
theorem sc_p_labour : FnScope ["way", "count", "toil"] ["way"] (defScope s_p_labour) := ⟨rfl, rfl, rfl, by decide +kernel, rfl, by decide +kernel, by decide +kernel⟩
abbrev s_p_check_way_t : Stmt := topS 41
theorem sc_p_check_way_t : FnScope ["way", "stretch"] ["way"] (defScope s_p_check_way_t) := ⟨rfl, rfl, rfl, by decide +kernel, rfl, by decide +kernel, by decide +kernel⟩
abbrev s_p_labour_t : Stmt := topS 42
theorem sc_p_labour_t : FnScope ["way", "count", "toil"] ["way"] (defScope s_p_labour_t) := ⟨rfl, rfl, rfl, by decide +kernel, rfl, by decide +kernel, by decide +kernel⟩
abbrev s_p_Chain___init__ : Stmt := inClass (topS 46) 0
theorem sc_p_Chain___init__ : FnScope ["self", "way"] ["self", "way"] (defScope s_p_Chain___init__) := ⟨rfl, rfl, rfl, by decide +kernel, rfl, by decide +kernel, by decide +kernel⟩
abbrev s_p_Chain___init___t : Stmt := inClass (topS 46) 0
theorem sc_p_Chain___init___t : FnScope ["self", "way"] ["self", "way"] (defScope s_p_Chain___init___t) := ⟨rfl, rfl, rfl, by decide +kernel, rfl, by decide +kernel, by decide +kernel⟩
abbrev s_p_Chain_outs : Stmt := inClass (topS 46) 7
theorem sc_p_Chain_outs : FnScope ["self", "count", "rows", "end"] ["self", "count"] (defScope s_p_Chain_outs) := ⟨rfl, rfl, rfl, by decide +kernel, rfl, by decide +kernel, by decide +kernel⟩
abbrev s_p_check_ordered : Stmt := topS 52
theorem sc_p_check_ordered : FnScope ["labour", "paces"] ["labour", "paces"] (defScope s_p_check_ordered) := ⟨rfl, rfl, rfl, by decide +kernel, rfl, by decide +kernel, by decide +kernel⟩
abbrev s_p_way_of : Stmt := topS 53
theorem sc_p_way_of : FnScope ["labour", "way", "begin"] ["labour"] (defScope s_p_way_of) := ⟨rfl, rfl, rfl, by decide +kernel, rfl, by decide +kernel, by decide +kernel⟩
abbrev s_p_begun : Stmt := topS 54
theorem sc_p_begun : FnScope ["labour", "paces", "chain", "at"] ["labour", "paces"] (defScope s_p_begun) := ⟨rfl, rfl, rfl, by decide +kernel, rfl, by decide +kernel, by decide +kernel⟩
abbrev s_l_same : Stmt := topS 64
theorem sc_l_same : FnScope ["_law_found", "_law_due", "_law_k"] ["_law_found", "_law_due"] (defScope s_l_same) := ⟨rfl, rfl, rfl, by decide +kernel, rfl, by decide +kernel, by decide +kernel⟩
abbrev s_l_gcd : Stmt := topS 66
theorem sc_l_gcd : FnScope ["_law_one", "_law_other"] ["_law_one", "_law_other"] (defScope s_l_gcd) := ⟨rfl, rfl, rfl, by decide +kernel, rfl, by decide +kernel, by decide +kernel⟩
abbrev s_l_amt : Stmt := topS 67
theorem sc_l_amt : FnScope ["_law_num", "_law_den", "_law_by"] ["_law_num", "_law_den"] (defScope s_l_amt) := ⟨rfl, rfl, rfl, by decide +kernel, rfl, by decide +kernel, by decide +kernel⟩
abbrev s_l_mul : Stmt := topS 69
theorem sc_l_mul : FnScope ["_law_one", "_law_number"] ["_law_one", "_law_number"] (defScope s_l_mul) := ⟨rfl, rfl, rfl, by decide +kernel, rfl, by decide +kernel, by decide +kernel⟩
abbrev s_l_less : Stmt := topS 70
theorem sc_l_less : FnScope ["_law_one", "_law_other"] ["_law_one", "_law_other"] (defScope s_l_less) := ⟨rfl, rfl, rfl, by decide +kernel, rfl, by decide +kernel, by decide +kernel⟩
abbrev s_l_task : Stmt := topS 74
theorem sc_l_task : FnScope ["_law_cell_here", "_law_most", "_law_drawn", "_law_many_here", "_law_paces", "_law_length", "_law_den", "_law_cap", "_law_hours", "_law_one"] ["_law_cell_here", "_law_most"] (defScope s_l_task) := ⟨rfl, rfl, rfl, by decide +kernel, rfl, by decide +kernel, by decide +kernel⟩
abbrev s_l_add : Stmt := topS 68
theorem sc_l_add : FnScope ["_law_one", "_law_other"] ["_law_one", "_law_other"] (defScope s_l_add) := ⟨rfl, rfl, rfl, by decide +kernel, rfl, by decide +kernel, by decide +kernel⟩
abbrev s_p_is_told : Stmt := topS 57
theorem sc_p_is_told : FnScope ["row", "known", "pair", "part"] ["row", "known"] (defScope s_p_is_told) := ⟨rfl, rfl, rfl, by decide +kernel, rfl, by decide +kernel, by decide +kernel⟩
abbrev s_p_row_now : Stmt := topS 56
theorem sc_p_row_now : FnScope ["chain", "name"] ["chain"] (defScope s_p_row_now) := ⟨rfl, rfl, rfl, by decide +kernel, rfl, by decide +kernel, by decide +kernel⟩
abbrev s_p_log_fault : Stmt := topS 58
theorem sc_p_log_fault : FnScope ["labour", "paces", "rows", "chain", "number", "row"] ["labour", "paces", "rows"] (defScope s_p_log_fault) := ⟨rfl, rfl, rfl, by decide +kernel, rfl, by decide +kernel, by decide +kernel⟩
abbrev s_l_way : Stmt := topS 71
theorem sc_l_way : FnScope ["_law_cell_here", "_law_drawn", "_law_cap", "_law_many_here", "_law_k"] ["_law_cell_here"] (defScope s_l_way) := ⟨rfl, rfl, rfl, by decide +kernel, rfl, by decide +kernel, by decide +kernel⟩
abbrev s_l_labour : Stmt := topS 72
theorem sc_l_labour : FnScope ["_law_way_here", "_law_found", "_law_count", "_law_toil", "_law_step"] ["_law_way_here"] (defScope s_l_labour) := ⟨rfl, rfl, rfl, by decide +kernel, rfl, by decide +kernel, by decide +kernel⟩
abbrev s_l_draws_f : Stmt := topS 61
theorem sc_l_draws_f : FnScope ["_law_cell_here", "_law_parts", "_law_one", "_law_two", "_law_six", "_law_found", "_law_part"] ["_law_cell_here", "_law_parts"] (defScope s_l_draws_f) := ⟨rfl, rfl, rfl, by decide +kernel, rfl, by decide +kernel, by decide +kernel⟩
abbrev s_l_name : Stmt := topS 73
theorem sc_l_name : FnScope ["_law_k", "_law_salt", "_law_letters", "_law_place", "_law_behind_it", "_law_fill", "_law_first", "_law_telling"] ["_law_k", "_law_salt"] (defScope s_l_name) := ⟨rfl, rfl, rfl, by decide +kernel, rfl, by decide +kernel, by decide +kernel⟩
abbrev s_LAW : Stmt := topS 75
theorem sc_LAW : FnScope ["_law_script", "_law_first", "_law_second", "_law_third", "_law_length", "_law_hours", "_law_way_here", "_law_line", "_law_k", "_law_names", "_law_whole", "_law_at", "_law_spot", "_law_hour", "_law_places", "_law_off", "_law_bent", "_law_found", "_law_due", "_law_paces", "_law_rows", "_law_pair", "_law_name_here"] ["_law_script"] (defScope s_LAW) := ⟨rfl, rfl, rfl, by decide +kernel, rfl, by decide +kernel, by decide +kernel⟩
structure Bn (mg : Str → Option Value) : Prop where
  ValueError_ : mg "ValueError" = none
  abs_ : mg "abs" = none
  all_ : mg "all" = none
  bool_ : mg "bool" = none
  enumerate_ : mg "enumerate" = none
  int_ : mg "int" = none
  isinstance_ : mg "isinstance" = none
  len_ : mg "len" = none
  list_ : mg "list" = none
  max_ : mg "max" = none
  min_ : mg "min" = none
  range_ : mg "range" = none
  reversed_ : mg "reversed" = none
  str_ : mg "str" = none
  sum_ : mg "sum" = none
  tuple_ : mg "tuple" = none
  zip_ : mg "zip" = none

theorem gcd_cut {a b : Nat} (hb : 0 < b) : ∃ g x y : Nat, 0 < g ∧ g = Nat.gcd a b ∧ a = g * x ∧ b = g * y ∧ 0 < y ∧ Nat.gcd x y = 1 := by
  have hg : 0 < Nat.gcd a b := Nat.gcd_pos_of_pos_right _ hb
  obtain ⟨x, hx⟩ := Nat.gcd_dvd_left a b
  obtain ⟨y, hy⟩ := Nat.gcd_dvd_right a b
  refine ⟨Nat.gcd a b, x, y, hg, rfl, hx, hy, ?_, ?_⟩
  · cases y with
    | zero => rw [Nat.mul_zero] at hy; omega
    | succ n => exact Nat.succ_pos n
  · have e : Nat.gcd a b * Nat.gcd x y = Nat.gcd a b * 1 := by
      have h2 : Nat.gcd (Nat.gcd a b * x) (Nat.gcd a b * y) = Nat.gcd a b * Nat.gcd x y := Nat.gcd_mul_left _ _ _
      rw [← hx, ← hy] at h2
      rw [← h2, Nat.mul_one]
    exact Nat.eq_of_mul_eq_mul_left hg e
/-- an amount in lowest terms -/
def Low (x : Int × Int) : Prop := 0 < x.2 ∧ Nat.gcd x.1.natAbs x.2.natAbs = 1
theorem amt_spec {n d : Int} (hd : d ≠ 0) : Low (amt n d) ∧ (amt n d).1 * d = n * (amt n d).2 ∧ (amt n d).1.natAbs ≤ n.natAbs ∧ (amt n d).2.natAbs ≤ d.natAbs := by
  obtain ⟨g, x, y, hg, eg, ex, ey, hy, h1⟩ := gcd_cut (a := n.natAbs) (b := d.natAbs) (by omega)
  have gi : ((g : Nat) : Int) ≠ 0 := by omega
  have e2 : (amt n d).2 = (y : Int) := by
    show ((d.natAbs : Nat) : Int) / ((Nat.gcd n.natAbs d.natAbs : Nat) : Int) = _
    rw [← eg, ey, Int.natCast_mul, Int.mul_ediv_cancel_left _ gi]
  have hyd : d.natAbs ≥ y := by
    rw [ey]; exact Nat.le_mul_of_pos_left _ hg
  have hxn : n.natAbs ≥ x := by
    rw [ex]; exact Nat.le_mul_of_pos_left _ hg
  have exi : ((n.natAbs : Nat) : Int) = (g : Int) * (x : Int) := by rw [ex, Int.natCast_mul]
  have eyi : ((d.natAbs : Nat) : Int) = (g : Int) * (y : Int) := by rw [ey, Int.natCast_mul]
  have main : ∀ (s : Int), (s = 1 ∨ s = -1) → (if d < 0 then -n else n) = s * ((g : Int) * (x : Int)) → (n = s * ((g : Int) * (x : Int)) ∧ d = (g : Int) * (y : Int) ∨ n = -(s * ((g : Int) * (x : Int))) ∧ d = -((g : Int) * (y : Int))) →
      Low (amt n d) ∧ (amt n d).1 * d = n * (amt n d).2 ∧ (amt n d).1.natAbs ≤ n.natAbs ∧ (amt n d).2.natAbs ≤ d.natAbs := by
    intro s hs e hnd
    have e1 : (amt n d).1 = s * (x : Int) := by
      show (if d < 0 then -n else n) / ((Nat.gcd n.natAbs d.natAbs : Nat) : Int) = _
      rw [← eg, e, Int.mul_left_comm, Int.mul_ediv_cancel_left _ gi]
    have ab : (s * (x : Int)).natAbs = x := by
      rcases hs with rfl | rfl
      · rw [Int.one_mul, Int.natAbs_natCast]
      · rw [Int.neg_mul, Int.one_mul, Int.natAbs_neg, Int.natAbs_natCast]
    refine ⟨⟨by rw [e2]; omega, ?_⟩, ?_, ?_, ?_⟩
    · rw [e1, e2, ab, Int.natAbs_natCast]; exact h1
    · rw [e1, e2]
      rcases hnd with ⟨a, b⟩ | ⟨a, b⟩
      · rw [a, b, Int.mul_assoc, Int.mul_assoc, Int.mul_left_comm (x : Int) (g : Int) (y : Int), Int.mul_assoc]
      · rw [a, b, Int.mul_neg, Int.neg_mul, Int.mul_assoc, Int.mul_assoc, Int.mul_left_comm (x : Int) (g : Int) (y : Int), Int.mul_assoc]
    · rw [e1, ab]; exact hxn
    · rw [e2, Int.natAbs_natCast]; exact hyd
  by_cases hdn : d < 0
  · by_cases hnn : n < 0
    · exact main 1 (.inl rfl) (by rw [if_pos hdn, Int.one_mul]; omega) (.inr ⟨by rw [Int.one_mul]; omega, by omega⟩)
    · exact main (-1) (.inr rfl) (by rw [if_pos hdn, Int.neg_mul, Int.one_mul]; omega) (.inr ⟨by rw [Int.neg_mul, Int.one_mul]; omega, by omega⟩)
  · by_cases hnn : n < 0
    · exact main (-1) (.inr rfl) (by rw [if_neg hdn, Int.neg_mul, Int.one_mul]; omega) (.inl ⟨by rw [Int.neg_mul, Int.one_mul]; omega, by omega⟩)
    · exact main 1 (.inl rfl) (by rw [if_neg hdn, Int.one_mul]; omega) (.inl ⟨by rw [Int.one_mul]; omega, by omega⟩)
/-- two amounts in lowest terms of the same worth are the same -/
theorem low_eq {x y : Int × Int} (hx : Low x) (hy : Low y) (e : x.1 * y.2 = y.1 * x.2) : x = y := by
  obtain ⟨a, b⟩ := x
  obtain ⟨c, d⟩ := y
  obtain ⟨hb, g1⟩ := hx
  obtain ⟨hd, g2⟩ := hy
  simp only at hb g1 hd g2 e
  have en : a.natAbs * d.natAbs = c.natAbs * b.natAbs := by rw [← Int.natAbs_mul, ← Int.natAbs_mul, e]
  have h1 : b.natAbs ∣ d.natAbs := by
    have : b.natAbs ∣ a.natAbs * d.natAbs := ⟨c.natAbs, by rw [en, Nat.mul_comm]⟩
    exact Nat.Coprime.dvd_of_dvd_mul_left (show Nat.Coprime b.natAbs a.natAbs by rw [Nat.Coprime, Nat.gcd_comm]; exact g1) this
  have h2 : d.natAbs ∣ b.natAbs := by
    have : d.natAbs ∣ c.natAbs * b.natAbs := ⟨a.natAbs, by rw [← en, Nat.mul_comm]⟩
    exact Nat.Coprime.dvd_of_dvd_mul_left (show Nat.Coprime d.natAbs c.natAbs by rw [Nat.Coprime, Nat.gcd_comm]; exact g2) this
  have h3 : b.natAbs = d.natAbs := Nat.dvd_antisymm h1 h2
  have h4 : b = d := by omega
  subst h4
  have h5 : a = c := Int.eq_of_mul_eq_mul_right (by omega) e
  rw [h5]
theorem amt_low {x : Int × Int} (h : Low x) : amt x.1 x.2 = x := by
  have s := amt_spec (n := x.1) (d := x.2) (by have := h.1; omega)
  exact low_eq s.1 h s.2.1
theorem amt_eq {n d m e : Int} (hd : d ≠ 0) (he : e ≠ 0) (h : n * e = m * d) : amt n d = amt m e := by
  have s := amt_spec (n := n) (d := d) hd
  have t := amt_spec (n := m) (d := e) he
  refine low_eq s.1 t.1 ?_
  -- (amt n d).1 * d = n * (amt n d).2 ; (amt m e).1 * e = m * (amt m e).2
  have key : ((amt n d).1 * (amt m e).2) * (d * e) = ((amt m e).1 * (amt n d).2) * (d * e) := by
    calc ((amt n d).1 * (amt m e).2) * (d * e) = ((amt n d).1 * d) * ((amt m e).2 * e) := by ac_rfl
      _ = (n * (amt n d).2) * ((amt m e).2 * e) := by rw [s.2.1]
      _ = (n * e) * ((amt n d).2 * (amt m e).2) := by ac_rfl
      _ = (m * d) * ((amt n d).2 * (amt m e).2) := by rw [h]
      _ = (m * (amt m e).2) * ((amt n d).2 * d) := by ac_rfl
      _ = ((amt m e).1 * e) * ((amt n d).2 * d) := by rw [t.2.1]
      _ = ((amt m e).1 * (amt n d).2) * (d * e) := by ac_rfl
  exact Int.eq_of_mul_eq_mul_right (Int.mul_ne_zero hd he) key

section
variable {P : Program} {w : World} {K : PySem.W.Frag} {T : Tb} {mg : Str → Option Value} {base : Heap}
/-! ### refusals: own error classes whose __init__ calls the base's -/
/-- C.m(e, ..), m a def read off the own class C -/
theorem pe_clsfn {X : Cx} {x m : Str} {C f : Addr} {mc : Value} {k : Nat} {fd : FuncData} {ps : List Str} {sp : Sp} {e : Expr} {es : List Expr} {t : TA} {p1 p2 pos : Pos} {pl : Sem Bool}
    (r : ClX.CRead X.K C mc) (hat : PySem.W.findCls X.K (.ref C) mc m = some (.val (.ref f))) (F : FnOk X.prog X.w X.K X.mg X.base CX0 k f fd ps sp) (hr : Room k X.A) (hg : Gl X x) (hm : X.mg x = some (.ref C))
    (hk : PySem.W.keepIn X.K (.ref f) = true) (hb : Binds X.K fd ps []) (ha : PA X (e :: es) t)
    (hc : eval (.Call (.Attribute (.Name x p1) m p2) (e :: es) [] pos) X.env = (do
      let ov ← eval (.Name x p1) X.env
      standAt p2.atName
      let (f, first) ← holding [ov] (getMethod ov m pl)
      callWith pos f first (backTo pos (starEach (e :: es) X.env)) (backToKw pos (keywordEach [] X.env))) := by rfl)
    (hdb : (x == ("__debug__" : Str)) = false := by decide) (he : starEach (e :: es) X.env = (false, eval e X.env) :: starEach es X.env := by rfl) (hpl : (backTo pos (starEach es X.env)).any (·.1) = false := by rfl) :
    PE X (.Call (.Attribute (.Name x p1) m p2) (e :: es) [] pos) (tCall sp [] E0 t) := by
  refine ⟨fun pins s σ H Q I h => ?_⟩
  refine PySem.W.methodCall_KW (ld_glob I hg hm ?_ hdb) hc
  refine PySem.W.method_cls I.kIn r.ga (PySem.W.cls_value I.kIn r.rd hat rfl ?_)
  show wpAny _ _ (callWith pos (Value.ref f) [] (backTo pos (starEach (e :: es) X.env)) []) _ _ _
  refine PySem.W.callWith_K (h₀ := X.base) I.ok.mod.kin hk (thn (ha.run pos pins _ σ H _ (I.tok _) h) fun us s1 ⟨vs, H1, I1, r1, q1⟩ => ⟨I1.kIn, ?_⟩) he hpl
  exact run_fn F hr hb .nil pass0 I1 r1 q1
/-- C(), C's own __init__ keeping sp -/
theorem pmk_oex0 {X : Cx} {x : Str} {C fI : Addr} {k : Nat} {fd : FuncData} {ps : List Str} {sp : Sp} {p pos : Pos} (T : OexC X.K C) (iC : PySem.W.findIn X.K (.ref C) "__init__" = some (some (.ref fI))) (tI : PySem.W.typeIn X.K (.ref fI) = some (.type "function"))
    (F1 : FnOk X.prog X.w X.K X.mg X.base CX0 k fI fd ps sp) (hr : Room (k + 1) X.A) (hb : Binds X.K fd ps []) (hg : Gl X x) (hm : X.mg x = some (.ref C)) (hdb : (x == ("__debug__" : Str)) = false := by decide) :
    PMk X (.Call (.Name x p) [] [] pos) (tMkO C sp [] tNil) := by
  intro pins s σ H Q I h
  obtain ⟨nm, q, N, bs, bm, sn, sub, ab, col, dd, k0, k1, k2, k3, k5, hC, hbm⟩ := T.cls
  refine wpAny_Call_Name_kw (ld_glob I hg hm ?_ hdb)
  refine PySem.W.callWith_K0 I.kIn T.kC ?_
  show wpAny _ _ (call (.ref C) []) _ _ _
  obtain ⟨hz, q1⟩ : ([] : List V).length ≤ 1000 ∧ _ := h
  obtain ⟨hp, g, dr, tk, os⟩ := s
  have hsz : hp.objs.size ≤ hp.objs.size + 1 := Nat.le_succ _
  have hn : H (hp.objs.size + 1) = none := I.hok.fresh hsz
  have hq := q1 (hp.objs.size + 1) hn
  have kk : ∀ b o, hp.get? b = some o → ((hp.push (PySem.W.kdv_tup [])).push (PySem.HandSPX.excO C hp.objs.size)).get? b = some o := fun b o e => Heap.get?_push_of_some _ (Heap.get?_push_of_some _ e)
  have hget : ((hp.push (PySem.W.kdv_tup [])).push (PySem.HandSPX.excO C hp.objs.size)).get? (hp.objs.size + 1) = some (PySem.HandSPX.excO C hp.objs.size) := by heap_get
  have I2 : Inv X pins σ (upd H (hp.objs.size + 1) (exo (hp.objs.size + 1) C none)) ⟨(hp.push (PySem.W.kdv_tup [])).push (PySem.HandSPX.excO C hp.objs.size), g, dr, tk, os⟩ :=
    I.laid (t' := tk) (a := hp.objs.size + 1) (o := exo (hp.objs.size + 1) C none) (h' := (hp.push (PySem.W.kdv_tup [])).push (PySem.HandSPX.excO C hp.objs.size)) kk hsz (exo_ok hget)
  have r2 : Vals (V.ref (hp.objs.size + 1) :: ([] ++ [])) ([Value.ref (hp.objs.size + 1)] ++ []) := .cons rfl .nil
  have hl : (Value.ref (hp.objs.size + 1) :: [] ++ []).length = ps.length := by
    have e := r2.length
    rw [F1.len _ _ _ _ hq] at e
    exact e.symm
  have hus : ([] : List Value).length ≤ sizeLine := Nat.zero_le _
  refine wpAny_call (PySem.HandSPX.call_own F.excBase_ValueError (fun Y => PySem.HandSPX.refsVE_contains Y bm hbm) (I.kIn _ _ hC) (PySem.W.looks_findIn I.kIn iC) (fun self => PySem.W.bind_fn I.kIn self tI) hus
    (codeAny_mono (F1.run _ X.stack _ _ ⟨Value.ref (hp.objs.size + 1) :: [], []⟩ ([Value.ref (hp.objs.size + 1)] ++ []) _ _ (fun _ _ _ => False) (hr.make C [] []) (I2.env0.make C [] []) (hb _ (Value.ref (hp.objs.size + 1) :: []) I2.kIn hl) r2 hq) fun r s' hq' => ?_))
  cases r with
  | error er => exact (show False from hq').elim
  | ok fl =>
    cases fl with
    | ret u =>
      obtain ⟨v, H2, os2, bare2, un2, hok2, rv, ev, d, fs, ea, ed, hd1, q2⟩ := hq'
      subst ev
      obtain ⟨h2, g2, d2, t2, os'⟩ := s'
      exact ⟨rv, mk_end (raises_own T.exC T.tyC) I hsz kk un2 hok2 os2 bare2 ea ed hd1 q2⟩
    | next => exact False.elim hq'
    | brk => exact False.elim hq'
    | cont => exact False.elim hq'
/-- what stands of a refusal that flies: its word -/
def Rf (K : PySem.W.Frag) (CP : Addr) (word : Str) (cls : Value) (d : Option Addr) (H' : Hp) : Prop :=
  ∃ C dd, cls = .ref C ∧ d = some dd ∧ XfC K C ∧ PySem.W.findIn K (.ref C) "word" = some none ∧ PySem.W.exmOne K (.ref C) (.ref CP) = some true ∧ H' dd = some (.xd [(("word" : Str), .str word)])
theorem Rf.keep {T : Tb} {K : PySem.W.Frag} {CP : Addr} {word : Str} {cls : Value} {d : Option Addr} {H H' : Hp} (h : Rf K CP word cls d H) (s : Sm T H H') : Rf K CP word cls d H' := by
  obtain ⟨C, dd, h1, h2, h3, h4, h5, h6⟩ := h
  exact ⟨C, dd, h1, h2, h3, h4, h5, s.k h6⟩
/-- the promise of PailError.__init__ and of those under it -/
def spInit2 (K : PySem.W.Frag) : Sp := fun vs H Q _ => ∃ (a C : Addr) (w : Str), vs = [.ref a, .str w] ∧ OexC K C ∧ PySem.W.findIn K (.ref C) "word" = some none ∧ H a = some (exo a C none) ∧
  ∀ dx, H dx = none → dx ≠ a → Q .non (upd (upd H dx (exd dx [(("word" : Str), .str w)])) a (exo a C (some dx)))
def spInit (w : Str) (K : PySem.W.Frag) : Sp := fun vs H Q _ => ∃ (a C : Addr), vs = [.ref a] ∧ OexC K C ∧ PySem.W.findIn K (.ref C) "word" = some none ∧ H a = some (exo a C none) ∧
  ∀ dx, H dx = none → dx ≠ a → Q .non (upd (upd H dx (exd dx [(("word" : Str), .str w)])) a (exo a C (some dx)))
/-- the error class by the name x, its word -/
structure Err (P : Program) (w : World) (K : PySem.W.Frag) (mg : Str → Option Value) (base : Heap) (CP : Addr) (x word : Str) : Prop where
  ex : ∃ (C fI : Addr) (fd : FuncData), mg x = some (.ref C) ∧ OexC K C ∧ XfC K C ∧ PySem.W.findIn K (.ref C) "word" = some none ∧ PySem.W.exmOne K (.ref C) (.ref CP) = some true ∧
    PySem.W.findIn K (.ref C) "__init__" = some (some (.ref fI)) ∧ PySem.W.typeIn K (.ref fI) = some (.type "function") ∧ FnOk P w K mg base CX0 2 fI fd ["self"] (spInit word K) ∧ Binds K fd ["self"] []
def tErr (K : PySem.W.Frag) (CP : Addr) (word : Str) : L2.St → Hp → XK → Prop := fun _ H Q => ∀ cls dd, H dd = none → Rf K CP word cls (some dd) (upd H dd (.xd [(("word" : Str), .str word)])) → Q cls (some dd) (upd H dd (.xd [(("word" : Str), .str word)]))
theorem pmk_err {X : Cx} {CP : Addr} {x word : Str} {p pos : Pos} (R : Err X.prog X.w X.K X.mg X.base CP x word) (hr : Room 3 X.A) (hg : Gl X x) (hdb : (x == ("__debug__" : Str)) = false := by decide) :
    PMk X (.Call (.Name x p) [] [] pos) (tErr X.K CP word) := by
  obtain ⟨C, fI, fd, g, oc, xf, nw, ex, iC, tI, F, b⟩ := R.ex
  intro pins s σ H Q I h
  refine pmk_oex0 (k := 2) oc iC tI F hr b hg g hdb pins s σ H Q I ⟨Nat.zero_le _, fun a ha => ⟨a, C, rfl, oc, nw, upd_same, fun dx hdx hne => ⟨rfl, dx, [(("word" : Str), .str word)], upd_same, ?_, ?_, ?_⟩⟩⟩
  · rw [upd_ne hne, upd_same]
  · rw [upd_ne hne] at hdx
    exact hdx
  · have hd : H dx = none := by
      rw [upd_ne hne] at hdx
      exact hdx
    have e : upd (L2.del (upd (upd (upd H a (exo a C none)) dx (exd dx [(("word" : Str), .str word)])) a (exo a C (some dx))) a) dx (.xd [(("word" : Str), .str word)]) = upd H dx (.xd [(("word" : Str), .str word)]) := by
      funext c
      by_cases h1 : c = dx
      · rw [h1, upd_same, upd_same]
      · rw [upd_ne h1, upd_ne h1]
        by_cases h2 : c = a
        · rw [h2, L2.del_same, ha]
        · rw [L2.del_ne h2, upd_ne h2, upd_ne h1, upd_ne h2]
    rw [e]
    exact h (.ref C) dx hd ⟨C, dx, rfl, rfl, xf, nw, ex, upd_same⟩
/-- e.word, e the refusal that the suite holds -/
def tXw (K : PySem.W.Frag) (a : Addr) (cls : Value) (d : Option Addr) (te : TE) : TE := fun σ H Q => te σ H fun x H1 => x = .ref a ∧ ∃ (C dd : Addr) (v : V), cls = .ref C ∧ XfC K C ∧ PySem.W.findIn K (.ref C) "word" = some none ∧ d = some dd ∧ H1 dd = some (.xd [(("word" : Str), v)]) ∧ Q v H1
theorem pe_xw {X : Cx} {a : Addr} {oe : Obj} {cls : Value} {d : Option Addr} {pn : List (Addr × Obj)} {e : Expr} {te : TE} {pos : Pos}
    (hz : Zc cls d oe) (hf : ∃ vs, oe.data = .fields vs) (he : PE (X.suite a ((a, oe) :: pn)) e te) (hb : attributeBase e "word" X.env (eval e X.env) = eval e X.env := by rfl) :
    PE (X.suite a ((a, oe) :: pn)) (.Attribute e "word" pos) (tXw X.K a cls d te) := by
  refine ⟨fun pins s σ H Q I h => ?_⟩
  refine attr_of hb (thn (he.run pins s σ H _ I h) fun u s1 hh => ?_)
  obtain ⟨x, H1, I1, rx, ex, C, dd, v, ec, T, hno, ed, ea, q⟩ := hh
  subst ex
  obtain rfl : u = Value.ref a := rx
  subst ec
  subst ed
  obtain ⟨ha, _⟩ := I1.pin (a, oe) (List.mem_append_left _ List.mem_cons_self)
  obtain ⟨vs, hd⟩ := hf
  have hx : ObjOk X.prog X.w H1 s1.heap dd (.xd [(("word" : Str), v)]) := I1.hok dd _ ea
  obtain ⟨mA, hns, hr⟩ := hx
  obtain ⟨od, ho, hl⟩ := lookIn_ns hns
  have l : List.lookup ("word" : Str) [(("word" : Str), v)] = some v := by simp [List.lookup]
  obtain ⟨u, hu, ru⟩ := RelO.some_of (v := v) (o := mA "word") (by rw [← l]; exact hr "word")
  have J : PySem.W.InstAt s1.heap a oe C (some od) := ⟨ha, hz.1, by unfold PySem.W.notCls; rw [hd] <;> rfl, by rw [hz.2]; exact ho⟩
  exact HandSPX.exc_get I1.kIn J T.ga T.gg T.exC (PySem.W.findObj_own T.hdC hno rfl (by rw [hl, hu])) (handed_of ru) ⟨v, H1, I1.tok _, ru, q⟩
/-! ### a def that may raise, ready to be called -/
structure Fx (P : Program) (w : World) (K : PySem.W.Frag) (mg : Str → Option Value) (base : Heap) (k : Nat) (x : Str) (ps : List Str) (sp : Sp) : Prop where
  ex : ∃ f fd, FnOk P w K mg base (L2.CX P w) k f fd ps sp ∧ mg x = some (.ref f) ∧ PySem.W.keepIn K (.ref f) = true ∧ Binds K fd ps []
theorem Fx.mk' {P : Program} {w : World} {K : PySem.W.Frag} {mg : Str → Option Value} {base : Heap} {k : Nat} {x : Str} {ps : List Str} {sp : Sp} {f : Addr} {fd : FuncData}
    (h : FnOk P w K mg base (L2.CX P w) k f fd ps sp) (g : mg x = some (.ref f)) (kp : PySem.W.keepIn K (.ref f) = true) (b : Binds K fd ps []) : Fx P w K mg base k x ps sp := ⟨⟨f, fd, h, g, kp, b⟩⟩
theorem pe_fx {X : Cx} {k : Nat} {x : Str} {ps : List Str} {sp : Sp} {e : Expr} {es : List Expr} {t : TA} {p pos : Pos} {E : XK} (F : Fx X.prog X.w X.K X.mg X.base k x ps sp) (hr : Room k X.A) (tk : Takes X (fun cls d _ H => E cls d H)) (ha : PA X (e :: es) t) (hg : Gl X x := by rfl) (hdb : (x == ("__debug__" : Str)) = false := by decide)
    (he : starEach (e :: es) X.env = (false, eval e X.env) :: starEach es X.env := by rfl) (hpl : (backTo pos (starEach es X.env)).any (·.1) = false := by rfl) :
    PE X (.Call (.Name x p) (e :: es) [] pos) (tCall sp [] E t) := by
  obtain ⟨f, fd, h, g, kp, b⟩ := F.ex
  exact pe_call h hr hg g kp b .nil (passes_call tk fun _ _ _ _ h => h) ha hdb he hpl
/-- .. where nothing is to be let out -/
theorem pe_fx0 {X : Cx} {k : Nat} {x : Str} {ps : List Str} {sp : Sp} {e : Expr} {es : List Expr} {t : TA} {p pos : Pos} (F : Fx X.prog X.w X.K X.mg X.base k x ps sp) (hr : Room k X.A) (ha : PA X (e :: es) t) (hg : Gl X x := by rfl) (hdb : (x == ("__debug__" : Str)) = false := by decide)
    (he : starEach (e :: es) X.env = (false, eval e X.env) :: starEach es X.env := by rfl) (hpl : (backTo pos (starEach es X.env)).any (·.1) = false := by rfl) :
    PE X (.Call (.Name x p) (e :: es) [] pos) (tCall sp [] E0 t) := by
  obtain ⟨f, fd, h, g, kp, b⟩ := F.ex
  exact pe_call h hr hg g kp b .nil passL ha hdb he hpl
/-! ### a def whose code object is told -/
structure FunC (K : PySem.W.Frag) (x qual : Str) (st : Stmt) (f : Addr) (fd : FuncData) (c : Addr) : Prop where
  ex : ∃ (oc : Value) (od : Option Addr) (kV doc pm : Value) (an : Option Addr) (ct : Value) (osl : Array (Option Value)),
    fd = PySem.W.fnOf x qual (defArgs st) (defBody st) (defScope st) .none kV doc pm an (.ref c) ct ∧ K.lookup f = some ⟨oc, od, .func fd, osl⟩ ∧ PySem.W.codeIn K (.ref c) qual = true
  kp : PySem.W.keepIn K (.ref f) = true
theorem FunC.ok {P : Program} {w : World} {K : PySem.W.Frag} {mg : Str → Option Value} {base : Heap} {x qual : Str} {st : Stmt} {f c : Addr} {fd : FuncData} {N ps : List Str} {k : Nat} {sp : Sp} (F : FunC K x qual st f fd c) (S : FnScope N ps (defScope st)) (len : ∀ vs H Q E, sp vs H Q E → vs.length = ps.length)
    (hbody : ∀ (A : Around) (outer : List Env) (s : Shared) (H : Hp) (vs : List V) (Q : VK) (E : XK), Room k (A.deeper (envOfC qual (defScope st) s.heap.objs.size f (.ref c))) → sp vs H Q E →
      ∃ t, PSs (cxOf CX0 P w K mg base N qual (defScope st) f (.ref c) A outer s H E).nox (defBody st) t ∧ t { nx := fun _ H' => Q .non H', rt := Q } (start N vs) H) : FnOk P w K mg base CX0 (k + 1) f fd ps sp := by
  obtain ⟨oc, od, kV, doc, pm, an, ct, osl, rfl, lk, hcd⟩ := F.ex
  refine fn_of lk hcd S len fun A outer s H vs Q E hr hsp => ?_
  obtain ⟨t, h, q⟩ := hbody A outer s H vs Q E hr hsp
  exact ⟨t, h.nox, q⟩
theorem FunC.okX {P : Program} {w : World} {K : PySem.W.Frag} {mg : Str → Option Value} {base : Heap} {x qual : Str} {st : Stmt} {f c : Addr} {fd : FuncData} {N ps : List Str} {k : Nat} {sp : Sp} (F : FunC K x qual st f fd c) (S : FnScope N ps (defScope st)) (len : ∀ vs H Q E, sp vs H Q E → vs.length = ps.length)
    (hbody : ∀ (A : Around) (outer : List Env) (s : Shared) (H : Hp) (vs : List V) (Q : VK) (E : XK), Room k (A.deeper (envOfC qual (defScope st) s.heap.objs.size f (.ref c))) → sp vs H Q E →
      ∃ t, PSs (cxOf (L2.CX P w) P w K mg base N qual (defScope st) f (.ref c) A outer s H E) (defBody st) t ∧ t { nx := fun _ H' => Q .non H', rt := Q } (start N vs) H) : FnOk P w K mg base (L2.CX P w) (k + 1) f fd ps sp := by
  obtain ⟨oc, od, kV, doc, pm, an, ct, osl, rfl, lk, hcd⟩ := F.ex
  exact fn_of lk hcd S len fun A outer s H vs Q E hr hsp => hbody A outer s H vs Q E hr hsp
theorem FunC.binds {K : PySem.W.Frag} {x qual : Str} {st : Stmt} {f c : Addr} {fd : FuncData} {ps : List Str} (F : FunC K x qual st f fd c)
    (h : ∀ (kV doc pm : Value) (an : Option Addr) (ct : Value) (us : List Value), us.length = ps.length → bindArgs (PySem.W.fnOf x qual (defArgs st) (defBody st) (defScope st) .none kV doc pm an (.ref c) ct) ⟨us, []⟩ = pure (ps.zip us)) : Binds K fd ps [] := by
  obtain ⟨oc, od, kV, doc, pm, an, ct, osl, rfl, lk, hcd⟩ := F.ex
  exact .all (h kV doc pm an ct)
theorem exm_of {K : PySem.W.Frag} {C S : Addr} (h1 : PySem.W.subIn K (.ref S) (.type "BaseException") = some true) (h2 : PySem.W.isClsIn K S = true) (h3 : PySem.W.typeIn K (.ref S) = some (.type "type")) (h4 : PySem.W.subIn K (.ref C) (.ref S) = some true) :
    PySem.W.exmOne K (.ref C) (.ref S) = some true := by
  have e1 : (PySem.W.subIn K (.ref S) (.type "BaseException") == some true) = true := by rw [h1] <;> rfl
  have e2 : ((PySem.W.clsIn K S).isSome && PySem.W.typeIn K (.ref S) == some (.type "type")) = true := by
    have h2' : (PySem.W.clsIn K S).isSome = true := h2
    rw [h2', h3] <;> rfl
  show (if (PySem.W.subIn K (.ref S) (.type "BaseException") == some true) = true then (if ((PySem.W.clsIn K S).isSome && PySem.W.typeIn K (.ref S) == some (.type "type")) = true then PySem.W.subIn K (.ref C) (.ref S) else none) else none) = some true
  rw [if_pos e1, if_pos e2]
  exact h4

/-! ### generator expressions -/
theorem sm_tabbed {T : Tb} {H H' : Hp} {P : Addr} (hn : (T.map (·.1)).Nodup) (hP : (P, (none : Option Str)) ∈ T) (ht : GxR.TabG H P) (h : GxR.Tabbed P H H') : Sm T H H' := by
  obtain ⟨ps, e, _⟩ := ht
  have ne : ∀ b o, H b = some o → nTbl o → b ≠ P := fun b o q n z => by
    rw [z, e] at q
    cases q
    exact n
  refine ⟨fun b o q n => by rw [h.2 b (ne b o q n)]; exact q, fun k p hp => ?_, fun l hl => ?_⟩
  · by_cases hb : p.1 = P
    · have ep : p = (P, none) := by
        obtain ⟨i, hi, e1⟩ := List.getElem_of_mem hp
        obtain ⟨j, hj, e2⟩ := List.getElem_of_mem hP
        have hij : i = j := by
          have a1 : (T.map (·.1))[i]? = some P := by rw [List.getElem?_map, List.getElem?_eq_getElem hi, e1]; exact congrArg some hb
          have a2 : (T.map (·.1))[j]? = some P := by rw [List.getElem?_map, List.getElem?_eq_getElem hj, e2]; rfl
          exact nd_ix hn a1 a2
        subst hij
        rw [← e1, e2]
      rw [ep]
      exact h.1
    · have q := k p hp
      obtain ⟨P', w⟩ := p
      have hb : P' ≠ P := hb
      cases w with
      | none =>
        obtain ⟨ps', a1, a2⟩ := (show GxR.TabG H P' from q)
        exact ⟨ps', by rw [h.2 _ hb]; exact a1, a2⟩
      | some w =>
        obtain ⟨ps', a1, a2, a3⟩ := (show LamX.TabS H P' w from q)
        refine ⟨ps', by rw [h.2 _ hb]; exact a1, a2, fun pos cv hc => ?_⟩
        obtain ⟨c, e1, e2⟩ := a3 pos cv hc
        refine ⟨c, e1, ?_⟩
        rw [h.2 c (ne c _ e2 (by unfold LamX.CodeO; trivial))]
        exact e2
  · by_cases z : l = P
    · obtain ⟨ps', a1, _⟩ := h.1
      rw [z, a1] at hl
      cases hl
    · rw [← h.2 l z]
      exact hl
/-- the element of a generator over ints, in the generator's frame -/
def EltI (X : Cx) (scope : Scope) (x : Str) (elt : Expr) (F : Int → Value → Prop) : Prop :=
  ∀ (cenv : Env) (A' : Around) (E' : Value → Shared → Prop) (i : Int) (t : Tok) (s₂ : Shared) (m₂ : Str → Option Value), cenv.scope = scope → cenv.globals = X.env.globals → cenv.builtins = builtinsNs → A'.handled = none → A'.depth ≤ X.A.depth + 1 → A'.units ≤ X.A.units + 8 →
    X.K.In s₂.heap → s₂.heap.NoLimit → s₂.heap.Ns mainGlobals X.mg → (∃ mb, s₂.heap.Ns builtinsNs mb ∧ ∀ y : Str, y ≠ "__name__" → mb y = bootBuiltins y) → s₂.heap.Ns cenv.locals m₂ → m₂ x = some (.int i t) →
    wpAny (model X.prog X.w) A' (eval elt cenv) (fun y s₃ => F i y ∧ Keeps s₂ s₃) E' s₂
/-- over pairs of ints -/
def EltP (X : Cx) (scope : Scope) (xa xb : Str) (elt : Expr) (f : Int → Int → Int) : Prop :=
  ∀ (cenv : Env) (A' : Around) (E' : Value → Shared → Prop) (i j : Int) (t u : Tok) (s₂ : Shared) (m₂ : Str → Option Value), cenv.scope = scope → A'.handled = none →
    (-(2 ^ 64) < i ∧ i < 2 ^ 64) → s₂.heap.Ns cenv.locals m₂ → m₂ xa = some (.int i t) → m₂ xb = some (.int j u) →
    wpAny (model X.prog X.w) A' (eval elt cenv) (fun y s₃ => (∃ v, y = .int (f i j) v) ∧ Keeps s₂ s₃) E' s₂
section
variable {X : Cx} {pins : List (Addr × Obj)} {σ : L2.St} {H : Hp} {s : Shared}
theorem gen_tup {c P : Addr} {elt iter : Expr} {x : Str} {px gpos : Pos} {scope : Scope} {pb : Int → Bool} {te : TE} {k : Nat} {Q' : Value → Shared → Prop} {R : List Int → Hp → Prop}
    (hr : Room k X.A) (TB : GxR.TabB X.base X.mg c P) (hcode : X.env.code = .ref c) (S : GxR.GenS X.env scope x) (hi : PE X iter te) (hel : EltI X scope x elt (fun i y => y = .bool (pb i)))
    (hs : ∀ v, genFold iter X.env v = pure v) (I : Inv X pins σ H s) (h : te σ H fun v H1 => ∃ (a : Addr) (ns : List Int), v = .ref a ∧ SqT X.K H1 a (ns.map V.int) ∧ GxR.TabG H1 P ∧ R ns H1)
    (hQ : ∀ ns H1 g s5, R ns H1 → (∃ (fp wr : List Addr) (G : Array GenState → Array GenState → Prop) (F : Nat → Value → Prop) (St : Nat → Shared → Prop),
      WalksS X.prog X.w X.A.in1 g fp wr G ns.length F St ∧ St 0 s5 ∧ TruthOf X.prog X.w X.A.in1 F (fun j => (ns.map pb).getD j false) ∧ ∀ s', Moved wr G s5 s' → ∃ H2, GxR.Tabbed P H1 H2 ∧ Inv X pins σ H2 s') → Q' (.ref g) s5) :
    wpAny (model X.prog X.w) X.A (eval (.GeneratorExp elt [⟨.Name x px, iter, [], 0⟩] scope gpos) X.env) Q' X.xe s := by
  refine wpAny_GeneratorExp_walksQD hr.hd S.co (closure_ok S.free) S.cell S.dot S.loc S.kind (by have := hr.dp; omega) ?_ hs
  refine thn (hi.run pins s σ H _ I h) fun xv s1 ⟨v, H1, I1, r1, q1⟩ => ?_
  obtain ⟨a, ns, rfl, hS, ⟨ps, hP, ht⟩, q1⟩ := q1
  cases r1
  obtain ⟨its, rv, hTup, hz⟩ := I1.tuple hS
  have hT : s1.heap.IsTuple a its.toArray := let ⟨o, ho, hc, n, hd⟩ := hTup; ⟨o, ho, hc, n, hd⟩
  have hlt : a < s1.heap.objs.size := by obtain ⟨_, e, _⟩ := hT; exact Heap.lt_size e
  refine wpAny_pyIter_tuple hT ?_
  have hPs : s1.heap.get? P = some { cls := .none, data := .fields ps } := I1.hok P _ hP
  have hPlt : P < s1.heap.objs.size := Heap.lt_size hPs
  let o : Obj := { cls := .type "tuple_iterator", data := .fields #[.ref a, .int 0 0] }
  show (s1.heap.push o).NoLimit ∧ _
  have hP2 : (s1.heap.push o).get? P = some { cls := .none, data := .fields ps } := Heap.get?_push_of_some _ hPs
  have cd : PySem.W.CodeHd (s1.heap.push o) c P := TB.code.keeps fun b u e => Heap.get?_push_of_some _ (I1.bk b u e)
  have lim2 : (s1.heap.push o).NoLimit := I1.nolimit.push o
  have hni : ∀ (i : Nat) (v : Value), its.toArray[i]? = some v → ∃ (z : Int) (t : Tok), ns[i]? = some z ∧ v = .int z t := fun i v hv => by
    have hv' : its[i]? = some v := by simpa using hv
    have hl : i < (ns.map V.int).length := by
      rw [rv.length]
      exact (List.getElem?_eq_some_iff.mp hv').1
    obtain ⟨u, hu, ru⟩ := rv.get (List.getElem?_eq_getElem hl)
    rw [hv'] at hu
    cases hu
    rw [List.length_map] at hl
    rw [List.getElem_map] at ru
    obtain ⟨t, e⟩ := ru
    exact ⟨ns[i], t, List.getElem?_eq_getElem hl, e⟩
  have cont : ∀ (code : Value) (h3 : Heap) (tk : Nat) (ps' : Array Value), Heap.ExtBut P (s1.heap.push o) h3 → (s1.heap.push o).objs.size ≤ h3.objs.size → h3.get? P = some { cls := .none, data := .fields ps' } → (∃ more, ps' = ps ++ more) → TriplesOk ps'.toList →
      wpAny (model X.prog X.w) X.A (builtinsFor X.env.globals X.env.builtins) (fun bi s₄ =>
        ∃ Ia fp wr n₀ Pf St₀ pz F, Value.ref s1.heap.objs.size = .ref Ia ∧ (∀ A' : Around, A'.handled = none → Walks X.prog X.w A' Ia fp wr n₀ Pf St₀) ∧ St₀ 0 s₄.heap ∧ (∀ b ∈ fp, b < s₄.heap.objs.size) ∧ s₄.heap.NoLimit ∧ cStatics ∉ wr ∧
          (∀ href : Heap, (∀ b o, s₄.heap.get? b = some o → href.get? b = some o) →
            QuietGenD X.prog X.w (genEnv scope (cloFrom X.env.cells scope.names []) s₄.heap.objs.size code bi X.env) x [] elt (List.range s₄.heap.objs.size) wr Pf pz F href (X.A.depth + 1) (X.A.units + 8)) ∧
          (∀ a h₅ tk gs, gs.bare = true → s₄.heap.objs.size < a → h₅.objs.size = a + 1 → (∀ b o, s₄.heap.get? b = some o → h₅.get? b = some o) →
            WalksS X.prog X.w X.A.in4 a (a :: s₄.heap.objs.size :: List.range s₄.heap.objs.size) (s₄.heap.objs.size :: wr) (GenOnlyQ s₄.gens.size) (passing pz n₀ 0).length
              (fun j y => ∃ i, (passing pz n₀ 0)[j]? = some i ∧ F i y) (GenAt X.prog X.w X.A.in4 a s₄.gens.size s₄.heap.objs.size (List.range s₄.heap.objs.size) wr pz n₀ F) →
            GenAt X.prog X.w X.A.in4 a s₄.gens.size s₄.heap.objs.size (List.range s₄.heap.objs.size) wr pz n₀ F 0 { s₄ with gens := s₄.gens.push gs, toks := tk, heap := h₅ } →
            Q' (.ref a) { s₄ with gens := s₄.gens.push gs, toks := tk, heap := h₅ })) X.xe { s1 with heap := h3, toks := tk } := by
    intro code h3 tk ps' hx hsz hP3 hmore ht3
    obtain ⟨bm, ob, e1, e2, e3, e4, e5, e6, e7, e8⟩ := TB.bm
    have hcP : cStatics ≠ P := fun e => by
      obtain ⟨_, hns, _⟩ := I1.nolimit
      obtain ⟨o', es, ep, ho, hd, _⟩ := hns
      rw [e, hPs] at ho
      cases ho
      cases hd
    have hcl : cStatics < s1.heap.objs.size := let ⟨_, hns, _⟩ := I1.nolimit; hns.lt
    have sz2 : (s1.heap.push o).objs.size = s1.heap.objs.size + 1 := Heap.size_push ..
    have keep3 : ∀ b u, b ≠ P → s1.heap.get? b = some u → h3.get? b = some u := fun b u hb e => hx b u hb (Heap.get?_push_of_some _ e)
    have glob3 : h3.Ns X.env.globals X.mg := by rw [I1.ok.glob]; exact ((I1.mod.glob.keeps I1.bk).push o).extBut hx TB.gP
    refine wpAny_builtinsFor (m := X.mg) glob3 e1 e2 (keep3 _ _ e4 (I1.bk _ _ e5)) e6 e7 e8 ?_
    have haP : a ≠ P := fun e => by
      obtain ⟨o', ho', hc', _⟩ := hT
      rw [e, hPs] at ho'
      cases ho'
      cases hc'
    refine ⟨s1.heap.objs.size, [s1.heap.objs.size, a], [s1.heap.objs.size], its.toArray.size, (fun i v => its.toArray[i]? = some v), (fun i h => h.IsTupleIter s1.heap.objs.size a i ∧ h.IsTuple a its.toArray), (fun _ => true), (fun i y => ∃ z, ns[i]? = some z ∧ y = .bool (pb z)), rfl, fun A' hA => Walks.tuple hA _ _ (Nat.ne_of_lt hlt) its.toArray, ?_, ?_, lim2.extBut hx hcP, ?_, ?_, ?_⟩
    · have h0 : (s1.heap.push o).IsTupleIter s1.heap.objs.size a 0 ∧ (s1.heap.push o).IsTuple a its.toArray := ⟨⟨_, Heap.get?_push_size _ rfl, rfl, rfl⟩, hT.push _⟩
      refine (Walks.tuple (prog := X.prog) (w := X.w) hr.hd _ _ (Nat.ne_of_lt hlt) its.toArray).frame _ _ _ h0 fun b hb u e => hx b u (fun z => ?_) e
      rcases List.mem_cons.mp hb with z2 | z2
      · exact Nat.ne_of_lt hPlt (z.symm.trans z2)
      · rcases List.mem_cons.mp z2 with z2 | z2
        · exact haP (z2.symm.trans z)
        · cases z2
    · intro b hb
      show b < h3.objs.size
      have sz3 : s1.heap.objs.size + 1 ≤ h3.objs.size := by rw [← sz2]; exact hsz
      rcases List.mem_cons.mp hb with z | z
      · rw [z]
        exact sz3
      · rcases List.mem_cons.mp z with z | z
        · rw [z]
          exact Nat.lt_trans hlt sz3
        · cases z
    · intro z
      rcases List.mem_cons.mp z with z | z
      · exact Nat.ne_of_lt hcl z
      · cases z
    · intro href hhref
      have up : ∀ (s₂ : Shared), (∀ b ∈ List.range h3.objs.size, b ∉ [s1.heap.objs.size] → ∀ o, href.get? b = some o → s₂.heap.get? b = some o) → ∀ b u, b ≠ P → s1.heap.get? b = some u → s₂.heap.get? b = some u := fun s₂ hk b u hb e => by
        have h1 := keep3 b u hb e
        refine hk b (List.mem_range.mpr (Heap.lt_size h1)) (fun z => ?_) u (hhref b u h1)
        rcases List.mem_cons.mp z with z | z
        · rw [z] at e
          exact Nat.lt_irrefl _ (Heap.lt_size e)
        · cases z
      refine ⟨fun A' E' i v s₂ m₂ hA _ _ hPv hn hm hk => ?_, fun A' E' i v s₂ m₂ hA hD hU hPv hp hn hm hk => ?_⟩
      · simp only [List.forIn_nil]
        exact wpAny_pure ⟨rfl, GxR.keeps_refl _⟩
      · obtain ⟨z, t, hz1, rfl⟩ := hni i v hPv
        have u2 := up s₂ hk
        have baseK : ∀ b u, X.base.get? b = some u → b ≠ P → s₂.heap.get? b = some u := fun b u e hb => u2 b u hb (I1.bk b u e)
        have nP : X.base.get? P = none := by
          cases q : X.base.get? P with
          | none => rfl
          | some u =>
            have := (I1.bs P u q).2
            rw [hP] at this
            cases this
        have baseA : ∀ b u, X.base.get? b = some u → s₂.heap.get? b = some u := fun b u e => baseK b u e (fun z => by rw [z, nP] at e; cases e)
        obtain ⟨mb, hb1, hb2⟩ := I1.mod.blt
        exact wpAny_mono (hel _ A' E' z t s₂ m₂ rfl rfl rfl hA hD hU (I1.ok.mod.kin.keeps baseA) (I1.ok.mod.nolimit.keeps baseA) (I1.mod.glob.keeps baseA) ⟨mb, hb1.keeps baseA, hb2⟩ hn hm) (fun y s3 r => ⟨⟨z, hz1, r.1⟩, r.2⟩) fun _ _ e => e
    · intro g h5 tk5 gs hgb hag hsz5 hk5 W5 hat
      simp only [GxR.passing_true, List.length_range] at W5
      have hsize : its.toArray.size = ns.length := by
        have := rv.length
        rw [List.length_map] at this
        rw [List.size_toArray]
        exact this.symm
      rw [hsize] at W5 hat
      refine hQ ns H1 g _ q1 ⟨_, _, _, _, _, W5.in4_1, hat, ?_, fun s' hm => ?_⟩
      · intro j y sj Qj Ej hy hQj
        obtain ⟨i, hij, z, hz1, rfl⟩ := hy
        obtain ⟨hj, ej⟩ := List.getElem?_eq_some_iff.mp hij
        rw [List.getElem_range] at ej
        subst ej
        have e9 : (ns.map pb).getD j false = pb z := by rw [List.getD_eq_getElem?_getD, List.getElem?_map, hz1]; rfl
        have hQ2 : Qj ((ns.map pb).getD j false) sj := hQj
        rw [e9] at hQ2
        exact wpAny_truthy_bool hQ2
      · obtain ⟨more, em⟩ := hmore
        have nwr : ∀ b u, s1.heap.get? b = some u → b ∉ h3.objs.size :: [s1.heap.objs.size] := fun b u e hb => by
          have hl := Heap.lt_size e
          rcases List.mem_cons.mp hb with z | z
          · rw [z] at hl
            have h9 : (h3.objs.size : Nat) < s1.heap.objs.size := hl
            omega
          · rcases List.mem_cons.mp z with z | z
            · rw [z] at hl
              exact Nat.lt_irrefl _ hl
            · cases z
        have J := GxR.inv_tab (more := more) (h' := s'.heap) (g' := s'.gens) (d' := s'.drawn) (t' := s'.toks) I1 hP (fun b u hb e => hm.heap b u (nwr b u e) (hk5 b u (keep3 b u hb e)))
          (by rw [← em]; exact hm.heap P _ (nwr P _ hPs) (hk5 P _ hP3)) (AllBare.movedS (I1.bare.push hgb) hm)
        rw [GxR.sh_eta s1 s' hm.os] at J
        refine ⟨upd H1 P (.tbl (ps ++ more)), ⟨⟨ps ++ more, upd_same, by rw [← em]; exact ht3⟩, fun b hb => upd_ne hb⟩, J⟩
  refine ⟨lim2, ?_⟩
  cases hf : codeAmong gpos ps.toList with
  | none =>
    refine wpAny_genexprCodeX hcode (cd.code hP2 ht) (cd.tab hP2) hf fun c' h' tk hx hge hlt hco' _ htab' _ => ?_
    obtain ⟨o1, vs, f1, tf, fl, tg, inF, tx, tt, op, _, _, _, _, _, _, _, _, _, htr, _⟩ := hco'
    exact cont _ h' tk _ hx (Nat.le_trans hge (Nat.le_of_lt hlt)) htab'.2 ⟨_, rfl⟩ htr
  | some cv =>
    refine wpAny_genexprCode_hit hcode (cd.code hP2 ht) hf ?_
    exact cont cv (s1.heap.push o) s1.toks ps (Heap.ExtBut.refl _ _) (Nat.le_refl _) hP2 ⟨#[], by simp⟩ ht
theorem all_getD (ns : List Int) (pb : Int → Bool) : (List.range ns.length).all (fun j => (ns.map pb).getD j false) = ns.all pb := by
  rw [Bool.eq_iff_iff, List.all_eq_true, List.all_eq_true]
  constructor
  · intro h z hz
    obtain ⟨j, hj, e⟩ := List.getElem_of_mem hz
    have q := h j (List.mem_range.mpr hj)
    rw [List.getD_eq_getElem?_getD, List.getElem?_map, List.getElem?_eq_getElem hj] at q
    rw [← e]
    exact q
  · intro h j hj
    have hj' := List.mem_range.mp hj
    rw [List.getD_eq_getElem?_getD, List.getElem?_map, List.getElem?_eq_getElem hj']
    exact h _ (List.getElem_mem hj')
/-- all(test for x in e), e a tuple of ints -/
def tAllI (K : PySem.W.Frag) (T : Tb) (P : Addr) (pb : Int → Bool) (te : TE) : TE := fun σ H Q => te σ H fun v H1 => ∃ (a : Addr) (ns : List Int), v = .ref a ∧ SqT K H1 a (ns.map V.int) ∧ GxR.TabG H1 P ∧ (Ok T H1 ∧ ∀ H2, Sm T H1 H2 → Q (.bl (ns.all pb)) H2)
theorem pe_allI {T : Tb} {c P : Addr} {elt iter : Expr} {x : Str} {px p pos gpos : Pos} {scope : Scope} {pb : Int → Bool} {te : TE} {k : Nat} (hn : (T.map (·.1)).Nodup) (hPT : (P, (none : Option Str)) ∈ T)
    (hr : Room k X.A) (hg : Gl X "all") (hm : X.mg "all" = none) (hb : bootBuiltins "all" = some (.builtin "all")) (TB : GxR.TabB X.base X.mg c P) (hcode : X.env.code = .ref c) (S : GxR.GenS X.env scope x) (hi : PE X iter te) (hel : EltI X scope x elt (fun i y => y = .bool (pb i)))
    (hs : ∀ v, genFold iter X.env v = pure v)
    (he : starEach [.GeneratorExp elt [⟨.Name x px, iter, [], 0⟩] scope gpos] X.env = (false, eval (.GeneratorExp elt [⟨.Name x px, iter, [], 0⟩] scope gpos) X.env) :: starEach [] X.env := by rfl) :
    PE X (.Call (.Name "all" p) [.GeneratorExp elt [⟨.Name x px, iter, [], 0⟩] scope gpos] [] pos) (tAllI X.K T P pb te) := by
  refine ⟨fun pins s σ H Q I h => ?_⟩
  refine wpAny_Call_Name_kw (ld_blt I hg hm hb ?_)
  refine PyProof.Rows.callWith_builtin1 ?_ he (by rfl)
  rw [he]
  show wpAny _ _ (spliced ((false, eval (.GeneratorExp elt [⟨.Name x px, iter, [], 0⟩] scope gpos) X.env) :: backTo pos (starEach [] X.env))) _ _ s
  refine Calls.spliced_cons (gen_tup (R := fun ns H1 => Ok T H1 ∧ ∀ H2, Sm T H1 H2 → Q (.bl (ns.all pb)) H2) hr TB hcode S hi hel hs I h fun ns H1 g s5 hR hG => ?_)
  obtain ⟨fp, wr, G, F, St, W, hst, htr, hI⟩ := hG
  refine Calls.spliced_nil ?_
  refine call_all_walkS (W.self 0 _ _ _ hst ⟨g, fp, wr, G, _, F, St, _, rfl, W, hst, htr, fun s' hmv => ?_⟩)
  obtain ⟨H2, hT, J⟩ := hI s' hmv
  refine ⟨.bl _, H2, J, rfl, ?_⟩
  rw [all_getD ns pb]
  exact hR.2 H2 (sm_tabbed hn hPT (hR.1 _ hPT) hT)
end
section
variable {X : Cx} {pins : List (Addr × Obj)} {σ : L2.St} {H : Hp} {s : Shared}
/-- a list of pairs of ints -/
def Pairs (K : PySem.W.Frag) (H : Hp) (a : Addr) (ps : List (Int × Int)) : Prop := ∃ vs : List V, SqL K H a vs ∧ vs.length = ps.length ∧ ∀ (i : Nat) (p : Int × Int), ps[i]? = some p → ∃ b, vs[i]? = some (.ref b) ∧ SqT K H b [.int p.1, .int p.2]
theorem Pairs.keep {T : Tb} {K : PySem.W.Frag} {H H' : Hp} {a : Addr} {ps : List (Int × Int)} (h : Pairs K H a ps) (s : Sm T H H') : Pairs K H' a ps := by
  obtain ⟨vs, h1, h2, h3⟩ := h
  refine ⟨vs, s.seq h1, h2, fun i p e => ?_⟩
  obtain ⟨b, e1, e2⟩ := h3 i p e
  exact ⟨b, e1, same_tup s e2⟩
theorem gen_pairs {c P : Addr} {elt iter : Expr} {xa xb : Str} {pa pb pt gpos : Pos} {kt : Nat} {scope : Scope} {f : Int → Int → Int} {te : TE} {k : Nat} {Q' : Value → Shared → Prop} {R : List (Int × Int) → Hp → Prop}
    (hr : Room k X.A) (TB : GxR.TabB X.base X.mg c P) (hcode : X.env.code = .ref c) (S : GxR.GenS X.env scope xa) (hxb : scope.names.lookup xb = some .local) (hab : xa ≠ xb) (hi : PE X iter te) (hel : EltP X scope xa xb elt f)
    (hs : ∀ v, genFold iter X.env v = pure v) (I : Inv X pins σ H s) (h : te σ H fun v H1 => ∃ (a : Addr) (qs : List (Int × Int)), v = .ref a ∧ Pairs X.K H1 a qs ∧ (∀ q ∈ qs, -(2 ^ 64) < q.1 ∧ q.1 < 2 ^ 64) ∧ GxR.TabG H1 P ∧ R qs H1)
    (hQ : ∀ qs H1 g s5, R qs H1 → (∃ (fp wr : List Addr) (G : Array GenState → Array GenState → Prop) (F : Nat → Value → Prop) (St : Nat → Shared → Prop),
      WalksS X.prog X.w X.A.in1 g fp wr G qs.length F St ∧ St 0 s5 ∧ (∀ b ∈ fp, b < s5.heap.objs.size) ∧ (∀ i v, F i v → ∃ t, v = .int ((qs.map fun (q : Int × Int) => f q.1 q.2).getD i 0) t) ∧ ∀ s', Moved wr G s5 s' → ∃ H2, GxR.Tabbed P H1 H2 ∧ Inv X pins σ H2 s') → Q' (.ref g) s5) :
    wpAny (model X.prog X.w) X.A (eval (.GeneratorExp elt [⟨.Tuple [.Name xa pa, .Name xb pb] kt pt, iter, [], 0⟩] scope gpos) X.env) Q' X.xe s := by
  refine wpAny_GeneratorExp_walksQT hr.hd S.co (closure_ok S.free) S.cell S.dot S.loc hxb hab S.kind (by have := hr.dp; omega) ?_ hs
  refine thn (hi.run pins s σ H _ I h) fun xv s1 ⟨v, H1, I1, r1, q1⟩ => ?_
  obtain ⟨a, qs, rfl, ⟨vs, hS, hvl, hvp⟩, hbd, ⟨ps, hP, ht⟩, q1⟩ := q1
  cases r1
  obtain ⟨its, rv, ⟨o0, n0, ho0, hc0, _, hd0⟩, hz⟩ := I1.list hS
  have hL : s1.heap.IsList a its.toArray := ⟨o0, ho0, hc0, n0, hd0⟩
  have hlt : a < s1.heap.objs.size := Heap.lt_size ho0
  have hlen : its.toArray.size = qs.length := by rw [List.size_toArray, ← rv.length, hvl]
  have hpair : ∀ j, j < its.toArray.size → ∃ (b : Addr) (t u : Tok) (q : Int × Int), qs[j]? = some q ∧ its.toArray[j]? = some (.ref b) ∧ s1.heap.IsTuple b #[.int q.1 t, .int q.2 u] := fun j hj => by
    have hj' : j < qs.length := by rw [← hlen]; exact hj
    obtain ⟨b, e1, e2⟩ := hvp j _ (List.getElem?_eq_getElem hj')
    obtain ⟨u', hu, ru⟩ := rv.get e1
    obtain rfl : u' = Value.ref b := ru
    obtain ⟨its2, rv2, ⟨o2, ho2, hc2, n2, hd2⟩, _⟩ := I1.tuple e2
    cases rv2 with
    | cons r1 rr =>
      cases rr with
      | cons r2 rn =>
        cases rn
        obtain ⟨t1, rfl⟩ := r1
        obtain ⟨t2, rfl⟩ := r2
        exact ⟨b, t1, t2, qs[j], List.getElem?_eq_getElem hj', by simpa using hu, ⟨o2, ho2, hc2, n2, hd2⟩⟩
  refine wpAny_pyIter_list hL ?_
  have hPs : s1.heap.get? P = some { cls := .none, data := .fields ps } := I1.hok P _ hP
  have hPlt : P < s1.heap.objs.size := Heap.lt_size hPs
  let o : Obj := { cls := .type "list_iterator", data := .fields #[.ref a, .int 0 0] }
  show (s1.heap.push o).NoLimit ∧ _
  have hP2 : (s1.heap.push o).get? P = some { cls := .none, data := .fields ps } := Heap.get?_push_of_some _ hPs
  have cd : PySem.W.CodeHd (s1.heap.push o) c P := TB.code.keeps fun b u e => Heap.get?_push_of_some _ (I1.bk b u e)
  have lim2 : (s1.heap.push o).NoLimit := I1.nolimit.push o
  let Ts : Nat → Addr := fun j => match its.toArray[j]? with | some (.ref b) => b | _ => 0
  have hTs : ∀ j, j < its.toArray.size → its.toArray[j]? = some (.ref (Ts j)) := fun j hj => by
    obtain ⟨b, t, u, q, _, e, _⟩ := hpair j hj
    show _ = some (Value.ref (match its.toArray[j]? with | some (.ref b) => b | _ => 0))
    rw [e]
  have hvals : ∃ vals : Nat → Array Value, ∀ j, j < its.toArray.size → s1.heap.IsTuple (Ts j) (vals j) ∧ ∃ (t u : Tok) (q : Int × Int), qs[j]? = some q ∧ vals j = #[.int q.1 t, .int q.2 u] := by
    have : ∀ j, ∃ va : Array Value, j < its.toArray.size → s1.heap.IsTuple (Ts j) va ∧ ∃ (t u : Tok) (q : Int × Int), qs[j]? = some q ∧ va = #[.int q.1 t, .int q.2 u] := fun j => by
      by_cases hj : j < its.toArray.size
      · obtain ⟨b, t, u, q, e1, e, e2⟩ := hpair j hj
        have eb : Ts j = b := by
          have := hTs j hj
          rw [e] at this
          cases this
          rfl
        exact ⟨_, fun _ => ⟨by rw [eb]; exact e2, t, u, q, e1, rfl⟩⟩
      · exact ⟨#[], fun z => absurd z hj⟩
    exact ⟨fun j => Classical.choose (this j), fun j hj => Classical.choose_spec (this j) hj⟩
  obtain ⟨vals, hvals⟩ := hvals
  have hTlt : ∀ j, j < its.toArray.size → Ts j < s1.heap.objs.size := fun j hj => by
    obtain ⟨⟨o', ho', _⟩, _⟩ := hvals j hj
    exact Heap.lt_size ho'
  have W : ∀ A' : Around, A'.handled = none → WalksU X.prog X.w A' s1.heap.objs.size (s1.heap.objs.size :: a :: (List.range its.toArray.size).map Ts) [s1.heap.objs.size] its.toArray.size (fun j v => j < its.toArray.size ∧ v = vals j) _ _ :=
    fun A' hA => (WalksU.listOfTuples (prog := X.prog) (w := X.w) hA s1.heap.objs.size a (Nat.ne_of_lt hlt) its.toArray Ts vals hTs (fun j hj => Nat.ne_of_lt (hTlt j hj))).bound
  have notP : ∀ b, b ∈ s1.heap.objs.size :: a :: (List.range its.toArray.size).map Ts → b ≠ P := fun b hb z => by
    rcases List.mem_cons.mp hb with z2 | z2
    · exact Nat.ne_of_lt hPlt (z.symm.trans z2)
    · rcases List.mem_cons.mp z2 with z2 | z2
      · rw [← z, z2, ho0] at hPs
        cases hPs
        cases hc0
      · obtain ⟨j, hj, e⟩ := List.mem_map.mp z2
        obtain ⟨⟨o', ho', hc', _⟩, _⟩ := hvals j (List.mem_range.mp hj)
        rw [e, z, hPs] at ho'
        cases ho'
        cases hc'
  have cont : ∀ (code : Value) (h3 : Heap) (tk : Nat) (ps' : Array Value), Heap.ExtBut P (s1.heap.push o) h3 → (s1.heap.push o).objs.size ≤ h3.objs.size → h3.get? P = some { cls := .none, data := .fields ps' } → (∃ more, ps' = ps ++ more) → TriplesOk ps'.toList →
      wpAny (model X.prog X.w) X.A (builtinsFor X.env.globals X.env.builtins) (fun bi s₄ =>
        ∃ Ia fp wr n₀ Pt St₀ Mid pz F, Value.ref s1.heap.objs.size = .ref Ia ∧ (∀ A' : Around, A'.handled = none → WalksU X.prog X.w A' Ia fp wr n₀ Pt St₀ Mid) ∧ (∀ i vals, Pt i vals → ∃ va vb, vals = #[va, vb]) ∧ St₀ 0 s₄.heap ∧ (∀ b ∈ fp, b < s₄.heap.objs.size) ∧ s₄.heap.NoLimit ∧ cStatics ∉ wr ∧
          (∀ href : Heap, (∀ b o, s₄.heap.get? b = some o → href.get? b = some o) →
            QuietGenT X.prog X.w (genEnv scope (cloFrom X.env.cells scope.names []) s₄.heap.objs.size code bi X.env) xa xb [] elt (List.range s₄.heap.objs.size) wr Pt pz F href) ∧
          (∀ a h₅ tk gs, gs.bare = true → s₄.heap.objs.size < a → h₅.objs.size = a + 1 → (∀ b o, s₄.heap.get? b = some o → h₅.get? b = some o) →
            WalksS X.prog X.w X.A.in4 a (a :: s₄.heap.objs.size :: List.range s₄.heap.objs.size) (s₄.heap.objs.size :: wr) (GenOnlyQ s₄.gens.size) (passing pz n₀ 0).length
              (fun j y => ∃ i, (passing pz n₀ 0)[j]? = some i ∧ F i y) (GenAt X.prog X.w X.A.in4 a s₄.gens.size s₄.heap.objs.size (List.range s₄.heap.objs.size) wr pz n₀ F) →
            GenAt X.prog X.w X.A.in4 a s₄.gens.size s₄.heap.objs.size (List.range s₄.heap.objs.size) wr pz n₀ F 0 { s₄ with gens := s₄.gens.push gs, toks := tk, heap := h₅ } →
            Q' (.ref a) { s₄ with gens := s₄.gens.push gs, toks := tk, heap := h₅ })) X.xe { s1 with heap := h3, toks := tk } := by
    intro code h3 tk ps' hx hsz hP3 hmore ht3
    obtain ⟨bm, ob, e1, e2, e3, e4, e5, e6, e7, e8⟩ := TB.bm
    have hcP : cStatics ≠ P := fun e => by
      obtain ⟨_, hns, _⟩ := I1.nolimit
      obtain ⟨o', es, ep, ho, hd, _⟩ := hns
      rw [e, hPs] at ho
      cases ho
      cases hd
    have hcl : cStatics < s1.heap.objs.size := let ⟨_, hns, _⟩ := I1.nolimit; hns.lt
    have sz2 : (s1.heap.push o).objs.size = s1.heap.objs.size + 1 := Heap.size_push ..
    have sz3 : s1.heap.objs.size + 1 ≤ h3.objs.size := by rw [← sz2]; exact hsz
    have keep3 : ∀ b u, b ≠ P → s1.heap.get? b = some u → h3.get? b = some u := fun b u hb e => hx b u hb (Heap.get?_push_of_some _ e)
    have glob3 : h3.Ns X.env.globals X.mg := by rw [I1.ok.glob]; exact ((I1.mod.glob.keeps I1.bk).push o).extBut hx TB.gP
    refine wpAny_builtinsFor (m := X.mg) glob3 e1 e2 (keep3 _ _ e4 (I1.bk _ _ e5)) e6 e7 e8 ?_
    refine ⟨s1.heap.objs.size, _, [s1.heap.objs.size], its.toArray.size, _, _, _, (fun _ => true), (fun i y => ∃ q t, qs[i]? = some q ∧ y = .int (f q.1 q.2) t), rfl, W, ?_, ?_, ?_, lim2.extBut hx hcP, ?_, ?_, ?_⟩
    · rintro i va ⟨hi', rfl⟩
      obtain ⟨_, t, u, q, _, e⟩ := hvals i hi'
      exact ⟨_, _, e⟩
    · have h0 : (s1.heap.push o).IsListIter s1.heap.objs.size a 0 ∧ (s1.heap.push o).IsList a its.toArray ∧ ∀ k, k < its.toArray.size → (s1.heap.push o).IsTuple (Ts k) (vals k) :=
        ⟨⟨_, Heap.get?_push_size _ rfl, rfl, rfl⟩, hL.push _, fun k hk => (hvals k hk).1.push _⟩
      exact (W X.A hr.hd).frame _ _ _ h0 fun b hb u e => hx b u (notP b hb) e
    · intro b hb
      show b < h3.objs.size
      rcases List.mem_cons.mp hb with z | z
      · rw [z]
        exact sz3
      · rcases List.mem_cons.mp z with z | z
        · rw [z]
          exact Nat.lt_trans hlt sz3
        · obtain ⟨j, hj, e⟩ := List.mem_map.mp z
          rw [← e]
          exact Nat.lt_trans (hTlt j (List.mem_range.mp hj)) sz3
    · intro z
      rcases List.mem_cons.mp z with z | z
      · exact Nat.ne_of_lt hcl z
      · cases z
    · intro href hhref
      refine ⟨fun A' E' i va vb s₂ m₂ hA hPv hn hma hmb hk => ?_, fun A' E' i va vb s₂ m₂ hA hPv hp hn hma hmb hk => ?_⟩
      · simp only [List.forIn_nil]
        exact wpAny_pure ⟨rfl, GxR.keeps_refl _⟩
      · obtain ⟨hi', ev⟩ := hPv
        obtain ⟨_, t, u, q, hq, e⟩ := hvals i hi'
        rw [e] at ev
        obtain ⟨rfl, rfl⟩ : va = .int q.1 t ∧ vb = .int q.2 u := by simpa using congrArg Array.toList ev
        exact wpAny_mono (hel _ A' E' q.1 q.2 t u s₂ m₂ rfl hA (hbd q (List.mem_of_getElem? hq)) hn hma hmb) (fun y s3 r => ⟨let ⟨v, hv⟩ := r.1; ⟨q, v, hq, hv⟩, r.2⟩) fun _ _ e => e
    · intro g h5 tk5 gs hgb hag hsz5 hk5 W5 hat
      simp only [GxR.passing_true, List.length_range] at W5
      rw [hlen] at W5 hat
      refine hQ qs H1 g _ q1 ⟨_, _, _, _, _, W5.in4_1, hat, ?_, ?_, fun s' hm => ?_⟩
      · intro b hb
        show b < h5.objs.size
        have hag' : h3.objs.size < g := hag
        rcases List.mem_cons.mp hb with z | z
        · rw [z, hsz5]
          exact Nat.lt_succ_self _
        · rcases List.mem_cons.mp z with z | z
          · rw [z, hsz5]
            exact Nat.lt_succ_of_lt hag'
          · rw [hsz5]
            exact Nat.lt_succ_of_lt (Nat.lt_trans (List.mem_range.mp z) hag')
      · intro j y hy
        obtain ⟨i, hij, q, t, hq, rfl⟩ := hy
        obtain ⟨hj, ej⟩ := List.getElem?_eq_some_iff.mp hij
        rw [List.getElem_range] at ej
        subst ej
        exact ⟨t, by rw [List.getD_eq_getElem?_getD, List.getElem?_map, hq]; rfl⟩
      · obtain ⟨more, em⟩ := hmore
        have nwr : ∀ b u, s1.heap.get? b = some u → b ∉ h3.objs.size :: [s1.heap.objs.size] := fun b u e hb => by
          have hl := Heap.lt_size e
          rcases List.mem_cons.mp hb with z | z
          · rw [z] at hl
            have h9 : (h3.objs.size : Nat) < s1.heap.objs.size := hl
            omega
          · rcases List.mem_cons.mp z with z | z
            · rw [z] at hl
              exact Nat.lt_irrefl _ hl
            · cases z
        have J := GxR.inv_tab (more := more) (h' := s'.heap) (g' := s'.gens) (d' := s'.drawn) (t' := s'.toks) I1 hP (fun b u hb e => hm.heap b u (nwr b u e) (hk5 b u (keep3 b u hb e)))
          (by rw [← em]; exact hm.heap P _ (nwr P _ hPs) (hk5 P _ hP3)) (AllBare.movedS (I1.bare.push hgb) hm)
        rw [GxR.sh_eta s1 s' hm.os] at J
        refine ⟨upd H1 P (.tbl (ps ++ more)), ⟨⟨ps ++ more, upd_same, by rw [← em]; exact ht3⟩, fun b hb => upd_ne hb⟩, J⟩
  refine ⟨lim2, ?_⟩
  cases hf : codeAmong gpos ps.toList with
  | none =>
    refine wpAny_genexprCodeX hcode (cd.code hP2 ht) (cd.tab hP2) hf fun c' h' tk hx hge hlt hco' _ htab' _ => ?_
    obtain ⟨o1, vs, f1, tf, fl, tg, inF, tx, tt, op, _, _, _, _, _, _, _, _, _, htr, _⟩ := hco'
    exact cont _ h' tk _ hx (Nat.le_trans hge (Nat.le_of_lt hlt)) htab'.2 ⟨_, rfl⟩ htr
  | some cv =>
    refine wpAny_genexprCode_hit hcode (cd.code hP2 ht) hf ?_
    exact cont cv (s1.heap.push o) s1.toks ps (Heap.ExtBut.refl _ _) (Nat.le_refl _) hP2 ⟨#[], by simp⟩ ht
/-- sum(elt for a, b in e), e a list of pairs of ints -/
def tSumP (K : PySem.W.Frag) (T : Tb) (P : Addr) (f : Int → Int → Int) (te : TE) : TE := fun σ H Q => te σ H fun v H1 => ∃ (a : Addr) (qs : List (Int × Int)), v = .ref a ∧ Pairs K H1 a qs ∧ (∀ q ∈ qs, -(2 ^ 64) < q.1 ∧ q.1 < 2 ^ 64) ∧ GxR.TabG H1 P ∧
  ((Ok T H1 ∧ ∀ j, j < qs.length → InLong ((qs.map fun (q : Int × Int) => f q.1 q.2).getD j 0) ∧ InLong (((qs.map fun (q : Int × Int) => f q.1 q.2).take (j + 1)).sum)) ∧ ∀ H2, Sm T H1 H2 → Q (.int (qs.map fun (q : Int × Int) => f q.1 q.2).sum) H2)
theorem pe_sumP {T : Tb} {c P : Addr} {elt iter : Expr} {xa xb : Str} {pa pb pt p pos gpos : Pos} {kt : Nat} {scope : Scope} {f : Int → Int → Int} {te : TE} {k : Nat} (hn : (T.map (·.1)).Nodup) (hPT : (P, (none : Option Str)) ∈ T)
    (hr : Room k X.A) (hg : Gl X "sum") (hm : X.mg "sum" = none) (hb : bootBuiltins "sum" = some (.builtin "sum")) (TB : GxR.TabB X.base X.mg c P) (hcode : X.env.code = .ref c) (S : GxR.GenS X.env scope xa) (hxb : scope.names.lookup xb = some .local) (hab : xa ≠ xb) (hi : PE X iter te) (hel : EltP X scope xa xb elt f)
    (hs : ∀ v, genFold iter X.env v = pure v)
    (he : starEach [.GeneratorExp elt [⟨.Tuple [.Name xa pa, .Name xb pb] kt pt, iter, [], 0⟩] scope gpos] X.env = (false, eval (.GeneratorExp elt [⟨.Tuple [.Name xa pa, .Name xb pb] kt pt, iter, [], 0⟩] scope gpos) X.env) :: starEach [] X.env := by rfl) :
    PE X (.Call (.Name "sum" p) [.GeneratorExp elt [⟨.Tuple [.Name xa pa, .Name xb pb] kt pt, iter, [], 0⟩] scope gpos] [] pos) (tSumP X.K T P f te) := by
  refine ⟨fun pins s σ H Q I h => ?_⟩
  refine wpAny_Call_Name_kw (ld_blt I hg hm hb ?_)
  refine PyProof.Rows.callWith_builtin1 ?_ he (by rfl)
  rw [he]
  show wpAny _ _ (spliced ((false, eval (.GeneratorExp elt [⟨.Tuple [.Name xa pa, .Name xb pb] kt pt, iter, [], 0⟩] scope gpos) X.env) :: backTo pos (starEach [] X.env))) _ _ s
  refine Calls.spliced_cons (gen_pairs (R := fun qs H1 => (Ok T H1 ∧ ∀ j, j < qs.length → InLong ((qs.map fun (q : Int × Int) => f q.1 q.2).getD j 0) ∧ InLong (((qs.map fun (q : Int × Int) => f q.1 q.2).take (j + 1)).sum)) ∧ ∀ H2, Sm T H1 H2 → Q (.int (qs.map fun (q : Int × Int) => f q.1 q.2).sum) H2) hr TB hcode S hxb hab hi hel hs I h fun qs H1 g s5 hR hG => ?_)
  obtain ⟨fp, wr, G, F, St, W, hst, hfp, hval, hI⟩ := hG
  refine Calls.spliced_nil ?_
  refine call_sum_walkS (W.self 0 _ _ _ hst ⟨g, fp, wr, G, _, F, St, (fun i => (qs.map fun (q : Int × Int) => f q.1 q.2).getD i 0), rfl, W, hst, hfp, hval, fun j hj => ⟨(hR.1.2 j hj).1, by rw [preSum_getD]; exact (hR.1.2 j hj).2⟩, fun s' t' hmv => ?_⟩)
  obtain ⟨H2, hT, J⟩ := hI s' hmv
  refine ⟨.int _, H2, J, ⟨t', rfl⟩, ?_⟩
  rw [preSum_getD, show qs.length = (qs.map fun (q : Int × Int) => f q.1 q.2).length by rw [List.length_map], List.take_length]
  exact hR.2 H2 (sm_tabbed hn hPT (hR.1.1 _ hPT) hT)
end
def genB (scope : Scope) (x : Str) : Bool := decide (scope.kind = .function) && !scope.isCoroutine && (scope.names.all fun y => !decide (y.2 = .cell) && !decide (y.2 = .free)) && decide (scope.names.lookup (".0" : Str) = some .local) && decide (scope.names.lookup x = some .local)
theorem gens_by {env : Env} {scope : Scope} {x : Str} (h : genB scope x = true) : GxR.GenS env scope x := by
  unfold genB at h
  simp only [Bool.and_eq_true, Bool.not_eq_true', decide_eq_true_eq, decide_eq_false_iff_not, List.all_eq_true] at h
  obtain ⟨⟨⟨⟨h1, h2⟩, h3⟩, h4⟩, h5⟩ := h
  exact ⟨h1, h2, fun y hy => (h3 y hy).1, h4, h5, fun y hy e => absurd e (h3 y hy).2⟩

/-! ### sum over a tuple of pairs -/
theorem walksU_tup {prog : Program} {w : World} {A : Around} (hd0 : A.handled = none) (J tp : Addr) (hJ : tp ≠ J) (its : Array Value) (Ts : Nat → Addr) (vals : Nat → Array Value)
    (ht : ∀ j, j < its.size → its[j]? = some (.ref (Ts j))) (hn : ∀ j, j < its.size → Ts j ≠ J) :
    WalksU prog w A J (J :: tp :: (List.range its.size).map Ts) [J] its.size (fun j v => v = vals j)
      (fun j h => h.IsTupleIter J tp j ∧ h.IsTuple tp its ∧ ∀ n, n < its.size → h.IsTuple (Ts n) (vals n))
      (fun j Tt h => (j < its.size ∧ Tt = Ts j) ∧ h.IsTupleIter J tp (j + 1) ∧ h.IsTuple tp its ∧ ∀ n, n < its.size → h.IsTuple (Ts n) (vals n)) where
  sub := fun d hd => by
    rw [List.mem_singleton.mp hd]
    exact List.mem_cons_self
  frame := fun _ _ _ q hk => by
    refine ⟨q.1.at fun o e => hk J (by simp) o e, q.2.1.at fun o e => hk tp (by simp) o e, fun n hn' => (q.2.2 n hn').at fun o e => hk (Ts n) ?_ o e⟩
    exact List.mem_cons_of_mem _ (List.mem_cons_of_mem _ (List.mem_map.mpr ⟨n, List.mem_range.mpr hn', rfl⟩))
  item := fun i s Q E hi q hQ => by
    refine wpAny_pyNext_tuple_item q.1 q.2.1 (x := .ref (Ts i)) (ht i hi) fun h' q' b => ?_
    have all' : ∀ n, n < its.size → h'.IsTuple (Ts n) (vals n) := fun n hn' => (q.2.2 n hn').extBut b.extBut (hn n hn')
    refine hQ (Ts i) (vals i) h' s.toks rfl (all' i hi) ⟨⟨hi, rfl⟩, q', q.2.1.extBut b.extBut hJ, all'⟩ fun d o hd e => ?_
    exact b.extBut d o (fun z => hd (by simp [z])) e
  go := fun _ _ _ _ _ s Q _ hm hQ => by
    obtain ⟨o, ho, hc, hd⟩ := hm.2.1
    exact go_of ho hc hd (by decide) (hQ s.heap hm.2 fun _ _ _ e => e)
  apart := fun j Tt _ hm hmem => by
    have e := List.mem_singleton.mp hmem
    exact hn j hm.1.1 (hm.1.2 ▸ e)
  done := fun s Q E q hQ => wpAny_pyNext_tuple_end hd0 q.1 q.2.1 (by simp) fun h' b => hQ h' s.toks fun d o hd e => b d o (fun z => hd (by simp [z])) e
  self := fun _ _ _ _ q hQ => wpAny_pyIter_tupleiter q.1 hQ
section
variable {X : Cx} {pins : List (Addr × Obj)} {σ : L2.St} {H : Hp} {s : Shared}
/-- a tuple of pairs of ints -/
def PairsT (K : PySem.W.Frag) (H : Hp) (a : Addr) (ps : List (Int × Int)) : Prop := ∃ vs : List V, SqT K H a vs ∧ vs.length = ps.length ∧ ∀ (i : Nat) (p : Int × Int), ps[i]? = some p → ∃ b, vs[i]? = some (.ref b) ∧ SqT K H b [.int p.1, .int p.2]
theorem PairsT.keep {T : Tb} {K : PySem.W.Frag} {H H' : Hp} {a : Addr} {ps : List (Int × Int)} (h : PairsT K H a ps) (s : Sm T H H') : PairsT K H' a ps := by
  obtain ⟨vs, h1, h2, h3⟩ := h
  refine ⟨vs, same_tup s h1, h2, fun i p e => ?_⟩
  obtain ⟨b, e1, e2⟩ := h3 i p e
  exact ⟨b, e1, same_tup s e2⟩
theorem gen_pairsT {c P : Addr} {elt iter : Expr} {xa xb : Str} {pa pb pt gpos : Pos} {kt : Nat} {scope : Scope} {f : Int → Int → Int} {te : TE} {k : Nat} {Q' : Value → Shared → Prop} {R : List (Int × Int) → Hp → Prop}
    (hr : Room k X.A) (TB : GxR.TabB X.base X.mg c P) (hcode : X.env.code = .ref c) (S : GxR.GenS X.env scope xa) (hxb : scope.names.lookup xb = some .local) (hab : xa ≠ xb) (hi : PE X iter te) (hel : EltP X scope xa xb elt f)
    (hs : ∀ v, genFold iter X.env v = pure v) (I : Inv X pins σ H s) (h : te σ H fun v H1 => ∃ (a : Addr) (qs : List (Int × Int)), v = .ref a ∧ PairsT X.K H1 a qs ∧ (∀ q ∈ qs, -(2 ^ 64) < q.1 ∧ q.1 < 2 ^ 64) ∧ GxR.TabG H1 P ∧ R qs H1)
    (hQ : ∀ qs H1 g s5, R qs H1 → (∃ (fp wr : List Addr) (G : Array GenState → Array GenState → Prop) (F : Nat → Value → Prop) (St : Nat → Shared → Prop),
      WalksS X.prog X.w X.A.in1 g fp wr G qs.length F St ∧ St 0 s5 ∧ (∀ b ∈ fp, b < s5.heap.objs.size) ∧ (∀ i v, F i v → ∃ t, v = .int ((qs.map fun (q : Int × Int) => f q.1 q.2).getD i 0) t) ∧ ∀ s', Moved wr G s5 s' → ∃ H2, GxR.Tabbed P H1 H2 ∧ Inv X pins σ H2 s') → Q' (.ref g) s5) :
    wpAny (model X.prog X.w) X.A (eval (.GeneratorExp elt [⟨.Tuple [.Name xa pa, .Name xb pb] kt pt, iter, [], 0⟩] scope gpos) X.env) Q' X.xe s := by
  refine wpAny_GeneratorExp_walksQT hr.hd S.co (closure_ok S.free) S.cell S.dot S.loc hxb hab S.kind (by have := hr.dp; omega) ?_ hs
  refine thn (hi.run pins s σ H _ I h) fun xv s1 ⟨v, H1, I1, r1, q1⟩ => ?_
  obtain ⟨a, qs, rfl, ⟨vs, hS, hvl, hvp⟩, hbd, ⟨ps, hP, ht⟩, q1⟩ := q1
  cases r1
  obtain ⟨its, rv, ⟨o0, ho0, hc0, n0, hd0⟩, hz⟩ := I1.tuple hS
  have hL : s1.heap.IsTuple a its.toArray := ⟨o0, ho0, hc0, n0, hd0⟩
  have hlt : a < s1.heap.objs.size := Heap.lt_size ho0
  have hlen : its.toArray.size = qs.length := by rw [List.size_toArray, ← rv.length, hvl]
  have hpair : ∀ j, j < its.toArray.size → ∃ (b : Addr) (t u : Tok) (q : Int × Int), qs[j]? = some q ∧ its.toArray[j]? = some (.ref b) ∧ s1.heap.IsTuple b #[.int q.1 t, .int q.2 u] := fun j hj => by
    have hj' : j < qs.length := by rw [← hlen]; exact hj
    obtain ⟨b, e1, e2⟩ := hvp j _ (List.getElem?_eq_getElem hj')
    obtain ⟨u', hu, ru⟩ := rv.get e1
    obtain rfl : u' = Value.ref b := ru
    obtain ⟨its2, rv2, ⟨o2, ho2, hc2, n2, hd2⟩, _⟩ := I1.tuple e2
    cases rv2 with
    | cons r1 rr =>
      cases rr with
      | cons r2 rn =>
        cases rn
        obtain ⟨t1, rfl⟩ := r1
        obtain ⟨t2, rfl⟩ := r2
        exact ⟨b, t1, t2, qs[j], List.getElem?_eq_getElem hj', by simpa using hu, ⟨o2, ho2, hc2, n2, hd2⟩⟩
  refine wpAny_pyIter_tuple hL ?_
  have hPs : s1.heap.get? P = some { cls := .none, data := .fields ps } := I1.hok P _ hP
  have hPlt : P < s1.heap.objs.size := Heap.lt_size hPs
  let o : Obj := { cls := .type "tuple_iterator", data := .fields #[.ref a, .int 0 0] }
  show (s1.heap.push o).NoLimit ∧ _
  have hP2 : (s1.heap.push o).get? P = some { cls := .none, data := .fields ps } := Heap.get?_push_of_some _ hPs
  have cd : PySem.W.CodeHd (s1.heap.push o) c P := TB.code.keeps fun b u e => Heap.get?_push_of_some _ (I1.bk b u e)
  have lim2 : (s1.heap.push o).NoLimit := I1.nolimit.push o
  let Ts : Nat → Addr := fun j => match its.toArray[j]? with | some (.ref b) => b | _ => 0
  have hTs : ∀ j, j < its.toArray.size → its.toArray[j]? = some (.ref (Ts j)) := fun j hj => by
    obtain ⟨b, t, u, q, _, e, _⟩ := hpair j hj
    show _ = some (Value.ref (match its.toArray[j]? with | some (.ref b) => b | _ => 0))
    rw [e]
  have hvals : ∃ vals : Nat → Array Value, ∀ j, j < its.toArray.size → s1.heap.IsTuple (Ts j) (vals j) ∧ ∃ (t u : Tok) (q : Int × Int), qs[j]? = some q ∧ vals j = #[.int q.1 t, .int q.2 u] := by
    have : ∀ j, ∃ va : Array Value, j < its.toArray.size → s1.heap.IsTuple (Ts j) va ∧ ∃ (t u : Tok) (q : Int × Int), qs[j]? = some q ∧ va = #[.int q.1 t, .int q.2 u] := fun j => by
      by_cases hj : j < its.toArray.size
      · obtain ⟨b, t, u, q, e1, e, e2⟩ := hpair j hj
        have eb : Ts j = b := by
          have := hTs j hj
          rw [e] at this
          cases this
          rfl
        exact ⟨_, fun _ => ⟨by rw [eb]; exact e2, t, u, q, e1, rfl⟩⟩
      · exact ⟨#[], fun z => absurd z hj⟩
    exact ⟨fun j => Classical.choose (this j), fun j hj => Classical.choose_spec (this j) hj⟩
  obtain ⟨vals, hvals⟩ := hvals
  have hTlt : ∀ j, j < its.toArray.size → Ts j < s1.heap.objs.size := fun j hj => by
    obtain ⟨⟨o', ho', _⟩, _⟩ := hvals j hj
    exact Heap.lt_size ho'
  have W : ∀ A' : Around, A'.handled = none → WalksU X.prog X.w A' s1.heap.objs.size (s1.heap.objs.size :: a :: (List.range its.toArray.size).map Ts) [s1.heap.objs.size] its.toArray.size (fun j v => j < its.toArray.size ∧ v = vals j) _ _ :=
    fun A' hA => (walksU_tup (prog := X.prog) (w := X.w) hA s1.heap.objs.size a (Nat.ne_of_lt hlt) its.toArray Ts vals hTs (fun j hj => Nat.ne_of_lt (hTlt j hj))).bound
  have notP : ∀ b, b ∈ s1.heap.objs.size :: a :: (List.range its.toArray.size).map Ts → b ≠ P := fun b hb z => by
    rcases List.mem_cons.mp hb with z2 | z2
    · exact Nat.ne_of_lt hPlt (z.symm.trans z2)
    · rcases List.mem_cons.mp z2 with z2 | z2
      · rw [← z, z2, ho0] at hPs
        cases hPs
        cases hc0
      · obtain ⟨j, hj, e⟩ := List.mem_map.mp z2
        obtain ⟨⟨o', ho', hc', _⟩, _⟩ := hvals j (List.mem_range.mp hj)
        rw [e, z, hPs] at ho'
        cases ho'
        cases hc'
  have cont : ∀ (code : Value) (h3 : Heap) (tk : Nat) (ps' : Array Value), Heap.ExtBut P (s1.heap.push o) h3 → (s1.heap.push o).objs.size ≤ h3.objs.size → h3.get? P = some { cls := .none, data := .fields ps' } → (∃ more, ps' = ps ++ more) → TriplesOk ps'.toList →
      wpAny (model X.prog X.w) X.A (builtinsFor X.env.globals X.env.builtins) (fun bi s₄ =>
        ∃ Ia fp wr n₀ Pt St₀ Mid pz F, Value.ref s1.heap.objs.size = .ref Ia ∧ (∀ A' : Around, A'.handled = none → WalksU X.prog X.w A' Ia fp wr n₀ Pt St₀ Mid) ∧ (∀ i vals, Pt i vals → ∃ va vb, vals = #[va, vb]) ∧ St₀ 0 s₄.heap ∧ (∀ b ∈ fp, b < s₄.heap.objs.size) ∧ s₄.heap.NoLimit ∧ cStatics ∉ wr ∧
          (∀ href : Heap, (∀ b o, s₄.heap.get? b = some o → href.get? b = some o) →
            QuietGenT X.prog X.w (genEnv scope (cloFrom X.env.cells scope.names []) s₄.heap.objs.size code bi X.env) xa xb [] elt (List.range s₄.heap.objs.size) wr Pt pz F href) ∧
          (∀ a h₅ tk gs, gs.bare = true → s₄.heap.objs.size < a → h₅.objs.size = a + 1 → (∀ b o, s₄.heap.get? b = some o → h₅.get? b = some o) →
            WalksS X.prog X.w X.A.in4 a (a :: s₄.heap.objs.size :: List.range s₄.heap.objs.size) (s₄.heap.objs.size :: wr) (GenOnlyQ s₄.gens.size) (passing pz n₀ 0).length
              (fun j y => ∃ i, (passing pz n₀ 0)[j]? = some i ∧ F i y) (GenAt X.prog X.w X.A.in4 a s₄.gens.size s₄.heap.objs.size (List.range s₄.heap.objs.size) wr pz n₀ F) →
            GenAt X.prog X.w X.A.in4 a s₄.gens.size s₄.heap.objs.size (List.range s₄.heap.objs.size) wr pz n₀ F 0 { s₄ with gens := s₄.gens.push gs, toks := tk, heap := h₅ } →
            Q' (.ref a) { s₄ with gens := s₄.gens.push gs, toks := tk, heap := h₅ })) X.xe { s1 with heap := h3, toks := tk } := by
    intro code h3 tk ps' hx hsz hP3 hmore ht3
    obtain ⟨bm, ob, e1, e2, e3, e4, e5, e6, e7, e8⟩ := TB.bm
    have hcP : cStatics ≠ P := fun e => by
      obtain ⟨_, hns, _⟩ := I1.nolimit
      obtain ⟨o', es, ep, ho, hd, _⟩ := hns
      rw [e, hPs] at ho
      cases ho
      cases hd
    have hcl : cStatics < s1.heap.objs.size := let ⟨_, hns, _⟩ := I1.nolimit; hns.lt
    have sz2 : (s1.heap.push o).objs.size = s1.heap.objs.size + 1 := Heap.size_push ..
    have sz3 : s1.heap.objs.size + 1 ≤ h3.objs.size := by rw [← sz2]; exact hsz
    have keep3 : ∀ b u, b ≠ P → s1.heap.get? b = some u → h3.get? b = some u := fun b u hb e => hx b u hb (Heap.get?_push_of_some _ e)
    have glob3 : h3.Ns X.env.globals X.mg := by rw [I1.ok.glob]; exact ((I1.mod.glob.keeps I1.bk).push o).extBut hx TB.gP
    refine wpAny_builtinsFor (m := X.mg) glob3 e1 e2 (keep3 _ _ e4 (I1.bk _ _ e5)) e6 e7 e8 ?_
    refine ⟨s1.heap.objs.size, _, [s1.heap.objs.size], its.toArray.size, _, _, _, (fun _ => true), (fun i y => ∃ q t, qs[i]? = some q ∧ y = .int (f q.1 q.2) t), rfl, W, ?_, ?_, ?_, lim2.extBut hx hcP, ?_, ?_, ?_⟩
    · rintro i va ⟨hi', rfl⟩
      obtain ⟨_, t, u, q, _, e⟩ := hvals i hi'
      exact ⟨_, _, e⟩
    · have h0 : (s1.heap.push o).IsTupleIter s1.heap.objs.size a 0 ∧ (s1.heap.push o).IsTuple a its.toArray ∧ ∀ k, k < its.toArray.size → (s1.heap.push o).IsTuple (Ts k) (vals k) :=
        ⟨⟨_, Heap.get?_push_size _ rfl, rfl, rfl⟩, hL.push _, fun k hk => (hvals k hk).1.push _⟩
      exact (W X.A hr.hd).frame _ _ _ h0 fun b hb u e => hx b u (notP b hb) e
    · intro b hb
      show b < h3.objs.size
      rcases List.mem_cons.mp hb with z | z
      · rw [z]
        exact sz3
      · rcases List.mem_cons.mp z with z | z
        · rw [z]
          exact Nat.lt_trans hlt sz3
        · obtain ⟨j, hj, e⟩ := List.mem_map.mp z
          rw [← e]
          exact Nat.lt_trans (hTlt j (List.mem_range.mp hj)) sz3
    · intro z
      rcases List.mem_cons.mp z with z | z
      · exact Nat.ne_of_lt hcl z
      · cases z
    · intro href hhref
      refine ⟨fun A' E' i va vb s₂ m₂ hA hPv hn hma hmb hk => ?_, fun A' E' i va vb s₂ m₂ hA hPv hp hn hma hmb hk => ?_⟩
      · simp only [List.forIn_nil]
        exact wpAny_pure ⟨rfl, GxR.keeps_refl _⟩
      · obtain ⟨hi', ev⟩ := hPv
        obtain ⟨_, t, u, q, hq, e⟩ := hvals i hi'
        rw [e] at ev
        obtain ⟨rfl, rfl⟩ : va = .int q.1 t ∧ vb = .int q.2 u := by simpa using congrArg Array.toList ev
        exact wpAny_mono (hel _ A' E' q.1 q.2 t u s₂ m₂ rfl hA (hbd q (List.mem_of_getElem? hq)) hn hma hmb) (fun y s3 r => ⟨let ⟨v, hv⟩ := r.1; ⟨q, v, hq, hv⟩, r.2⟩) fun _ _ e => e
    · intro g h5 tk5 gs hgb hag hsz5 hk5 W5 hat
      simp only [GxR.passing_true, List.length_range] at W5
      rw [hlen] at W5 hat
      refine hQ qs H1 g _ q1 ⟨_, _, _, _, _, W5.in4_1, hat, ?_, ?_, fun s' hm => ?_⟩
      · intro b hb
        show b < h5.objs.size
        have hag' : h3.objs.size < g := hag
        rcases List.mem_cons.mp hb with z | z
        · rw [z, hsz5]
          exact Nat.lt_succ_self _
        · rcases List.mem_cons.mp z with z | z
          · rw [z, hsz5]
            exact Nat.lt_succ_of_lt hag'
          · rw [hsz5]
            exact Nat.lt_succ_of_lt (Nat.lt_trans (List.mem_range.mp z) hag')
      · intro j y hy
        obtain ⟨i, hij, q, t, hq, rfl⟩ := hy
        obtain ⟨hj, ej⟩ := List.getElem?_eq_some_iff.mp hij
        rw [List.getElem_range] at ej
        subst ej
        exact ⟨t, by rw [List.getD_eq_getElem?_getD, List.getElem?_map, hq]; rfl⟩
      · obtain ⟨more, em⟩ := hmore
        have nwr : ∀ b u, s1.heap.get? b = some u → b ∉ h3.objs.size :: [s1.heap.objs.size] := fun b u e hb => by
          have hl := Heap.lt_size e
          rcases List.mem_cons.mp hb with z | z
          · rw [z] at hl
            have h9 : (h3.objs.size : Nat) < s1.heap.objs.size := hl
            omega
          · rcases List.mem_cons.mp z with z | z
            · rw [z] at hl
              exact Nat.lt_irrefl _ hl
            · cases z
        have J := GxR.inv_tab (more := more) (h' := s'.heap) (g' := s'.gens) (d' := s'.drawn) (t' := s'.toks) I1 hP (fun b u hb e => hm.heap b u (nwr b u e) (hk5 b u (keep3 b u hb e)))
          (by rw [← em]; exact hm.heap P _ (nwr P _ hPs) (hk5 P _ hP3)) (AllBare.movedS (I1.bare.push hgb) hm)
        rw [GxR.sh_eta s1 s' hm.os] at J
        refine ⟨upd H1 P (.tbl (ps ++ more)), ⟨⟨ps ++ more, upd_same, by rw [← em]; exact ht3⟩, fun b hb => upd_ne hb⟩, J⟩
  refine ⟨lim2, ?_⟩
  cases hf : codeAmong gpos ps.toList with
  | none =>
    refine wpAny_genexprCodeX hcode (cd.code hP2 ht) (cd.tab hP2) hf fun c' h' tk hx hge hlt hco' _ htab' _ => ?_
    obtain ⟨o1, vs, f1, tf, fl, tg, inF, tx, tt, op, _, _, _, _, _, _, _, _, _, htr, _⟩ := hco'
    exact cont _ h' tk _ hx (Nat.le_trans hge (Nat.le_of_lt hlt)) htab'.2 ⟨_, rfl⟩ htr
  | some cv =>
    refine wpAny_genexprCode_hit hcode (cd.code hP2 ht) hf ?_
    exact cont cv (s1.heap.push o) s1.toks ps (Heap.ExtBut.refl _ _) (Nat.le_refl _) hP2 ⟨#[], by simp⟩ ht
/-- sum(elt for a, b in e), e a tuple of pairs of ints -/
def tSumPT (K : PySem.W.Frag) (T : Tb) (P : Addr) (f : Int → Int → Int) (te : TE) : TE := fun σ H Q => te σ H fun v H1 => ∃ (a : Addr) (qs : List (Int × Int)), v = .ref a ∧ PairsT K H1 a qs ∧ (∀ q ∈ qs, -(2 ^ 64) < q.1 ∧ q.1 < 2 ^ 64) ∧ GxR.TabG H1 P ∧
  ((Ok T H1 ∧ ∀ j, j < qs.length → InLong ((qs.map fun (q : Int × Int) => f q.1 q.2).getD j 0) ∧ InLong (((qs.map fun (q : Int × Int) => f q.1 q.2).take (j + 1)).sum)) ∧ ∀ H2, Sm T H1 H2 → Q (.int (qs.map fun (q : Int × Int) => f q.1 q.2).sum) H2)
theorem pe_sumPT {T : Tb} {c P : Addr} {elt iter : Expr} {xa xb : Str} {pa pb pt p pos gpos : Pos} {kt : Nat} {scope : Scope} {f : Int → Int → Int} {te : TE} {k : Nat} (hn : (T.map (·.1)).Nodup) (hPT : (P, (none : Option Str)) ∈ T)
    (hr : Room k X.A) (hg : Gl X "sum") (hm : X.mg "sum" = none) (hb : bootBuiltins "sum" = some (.builtin "sum")) (TB : GxR.TabB X.base X.mg c P) (hcode : X.env.code = .ref c) (S : GxR.GenS X.env scope xa) (hxb : scope.names.lookup xb = some .local) (hab : xa ≠ xb) (hi : PE X iter te) (hel : EltP X scope xa xb elt f)
    (hs : ∀ v, genFold iter X.env v = pure v)
    (he : starEach [.GeneratorExp elt [⟨.Tuple [.Name xa pa, .Name xb pb] kt pt, iter, [], 0⟩] scope gpos] X.env = (false, eval (.GeneratorExp elt [⟨.Tuple [.Name xa pa, .Name xb pb] kt pt, iter, [], 0⟩] scope gpos) X.env) :: starEach [] X.env := by rfl) :
    PE X (.Call (.Name "sum" p) [.GeneratorExp elt [⟨.Tuple [.Name xa pa, .Name xb pb] kt pt, iter, [], 0⟩] scope gpos] [] pos) (tSumPT X.K T P f te) := by
  refine ⟨fun pins s σ H Q I h => ?_⟩
  refine wpAny_Call_Name_kw (ld_blt I hg hm hb ?_)
  refine PyProof.Rows.callWith_builtin1 ?_ he (by rfl)
  rw [he]
  show wpAny _ _ (spliced ((false, eval (.GeneratorExp elt [⟨.Tuple [.Name xa pa, .Name xb pb] kt pt, iter, [], 0⟩] scope gpos) X.env) :: backTo pos (starEach [] X.env))) _ _ s
  refine Calls.spliced_cons (gen_pairsT (R := fun qs H1 => (Ok T H1 ∧ ∀ j, j < qs.length → InLong ((qs.map fun (q : Int × Int) => f q.1 q.2).getD j 0) ∧ InLong (((qs.map fun (q : Int × Int) => f q.1 q.2).take (j + 1)).sum)) ∧ ∀ H2, Sm T H1 H2 → Q (.int (qs.map fun (q : Int × Int) => f q.1 q.2).sum) H2) hr TB hcode S hxb hab hi hel hs I h fun qs H1 g s5 hR hG => ?_)
  obtain ⟨fp, wr, G, F, St, W, hst, hfp, hval, hI⟩ := hG
  refine Calls.spliced_nil ?_
  refine call_sum_walkS (W.self 0 _ _ _ hst ⟨g, fp, wr, G, _, F, St, (fun i => (qs.map fun (q : Int × Int) => f q.1 q.2).getD i 0), rfl, W, hst, hfp, hval, fun j hj => ⟨(hR.1.2 j hj).1, by rw [preSum_getD]; exact (hR.1.2 j hj).2⟩, fun s' t' hmv => ?_⟩)
  obtain ⟨H2, hT, J⟩ := hI s' hmv
  refine ⟨.int _, H2, J, ⟨t', rfl⟩, ?_⟩
  rw [preSum_getD, show qs.length = (qs.map fun (q : Int × Int) => f q.1 q.2).length by rw [List.length_map], List.take_length]
  exact hR.2 H2 (sm_tabbed hn hPT (hR.1.1 _ hPT) hT)
end

/-! ### elements of generator expressions, in the model's own words -/
section
variable {X : Cx} {scope : Scope} {xa xb : Str} {p1 p2 p3 : Pos}
theorem ldl {M : Model} {s : Shared} {env : Env} {m : Str → Option Value} {x : Str} {pos : Pos} {v : Value} {Q : Value → Shared → Prop} {A : Around} {E : Value → Shared → Prop} (hk : env.scope.kind = .function) (hl : env.kindOf x = some .local) (hn : s.heap.Ns env.locals m) (hv : m x = some v) (h : Q v s)
    (hd : (x == ("__debug__" : Str)) = false := by decide) : wpAny M A (eval (.Name x pos) env) Q E s := wpAny_Name (wpAny_loadName_local hk hl hn hv h) hd
theorem elt_first (hk : scope.kind = .function) (hl : scope.names.lookup xa = some .local) (hd : (xa == ("__debug__" : Str)) = false := by decide) : EltP X scope xa xb (.Name xa p1) (fun i _ => i) := by
  intro cenv A' E' i j t u s₂ m₂ hs hA hb hn hma hmb
  exact ldl (by rw [hs]; exact hk) (show cenv.scope.names.lookup xa = some .local by rw [hs]; exact hl) hn hma ⟨⟨t, rfl⟩, GxR.keeps_refl _⟩ hd
theorem elt_mul (hk : scope.kind = .function) (hl : scope.names.lookup xa = some .local) (hl2 : scope.names.lookup xb = some .local) (hd : (xa == ("__debug__" : Str)) = false := by decide) (hd2 : (xb == ("__debug__" : Str)) = false := by decide) :
    EltP X scope xa xb (.BinOp (.Name xa p1) .Mult (.Name xb p2) p3) (fun i j => i * j) := by
  intro cenv A' E' i j t u s₂ m₂ hs hA hb hn hma hmb
  refine wpAny_BinOp ?_
  refine ldl (by rw [hs]; exact hk) (show cenv.scope.names.lookup xa = some .local by rw [hs]; exact hl) hn hma ?_ hd
  refine ldl (by rw [hs]; exact hk) (show cenv.scope.names.lookup xb = some .local by rw [hs]; exact hl2) hn hmb ?_ hd2
  exact mul_int ⟨⟨_, rfl⟩, GxR.keeps_tok _ _⟩ (show CMul i j from .inl hb).ok
end
/-- isinstance(x, T) of an int at the name x -/
theorem isi_int {prog : Program} {w : World} {K : PySem.W.Frag} {A : Around} {E : Value → Shared → Prop} {s : Shared} {env : Env} {m mg mb : Str → Option Value} {x T : Str} {Ts : String} {i : Int} {t : Tok} {b : Bool} {q1 q2 q3 q4 : Pos} {Q : Value → Shared → Prop}
    (KX : K.In s.heap) (hk : env.scope.kind = .function) (hl : env.kindOf x = some .local) (hn : s.heap.Ns env.locals m) (hv : m x = some (.int i t)) (hg : s.heap.Ns env.globals mg) (hb : s.heap.Ns env.builtins mb) (hbb : ∀ y : Str, y ≠ "__name__" → mb y = bootBuiltins y)
    (gi : env.kindOf "isinstance" = some .globalImplicit) (gT : env.kindOf T = some .globalImplicit) (mi : mg "isinstance" = none) (mT : mg T = none) (hT : bootBuiltins T = some (.type Ts)) (hTn : T ≠ "__name__") (kt : kitB "int" Ts = some b)
    (h : ∀ tk, Q (.bool b) { s with toks := tk }) (hd : (x == ("__debug__" : Str)) = false) (hdT : (T == ("__debug__" : Str)) = false)
    (he1 : starEach [.Name x q2, .Name T q3] env = (false, eval (.Name x q2) env) :: starEach [.Name T q3] env := by rfl) (he2 : starEach [.Name T q3] env = [(false, eval (.Name T q3) env)] := by rfl) :
    wpAny (model prog w) A (eval (.Call (.Name "isinstance" q1) [.Name x q2, .Name T q3] [] q4) env) Q E s := by
  refine wpAny_Call_Name_kw (Calls.Name_function_global hk gi (Calls.loadGlobal_builtin hg mi hb ((hbb "isinstance" (by decide)).trans (by decide +kernel : bootBuiltins "isinstance" = some (.builtin "isinstance"))) ?_))
  refine PyProof.Rows.callWith_builtin1 ?_ he1 (by rw [he2]; rfl)
  rw [he1, he2]
  show wpAny _ _ (spliced ((false, eval (.Name x q2) env) :: (false, eval (.Name T q3) env) :: [])) _ _ s
  refine Calls.spliced_cons (ldl hk hl hn hv (Calls.spliced_cons (Calls.Name_function_global hk gT (Calls.loadGlobal_builtin hg mT hb ((hbb T hTn).trans hT) (Calls.spliced_nil ?_)) hdT)) hd)
  exact PySem.W.kia_one PySem.W.kitx_int KX True.intro (kit_ty kt) (fun z => nomatch z) h
/-- the text of is_number -/
def numBody (n0 n1 n2 n3 n4 n5 n6 n7 n8 n9 n10 : Pos) : List Stmt := [.Return (some (.BoolOp .And [.Call (.Name "isinstance" n0) [.Name "thing" n1, .Name "int" n2] [] n3, .UnaryOp .Not (.Call (.Name "isinstance" n4) [.Name "thing" n5, .Name "bool" n6] [] n7) n8] n9)) n10]
def numArgs (p : Pos) : Arguments := { posonlyargs := [], args := [{ arg := "thing", annotation := none, pos := p }], vararg := none, kwonlyargs := [], kw_defaults := [], kwarg := none, defaults := [] }
def numScope : Scope := { kind := .function, names := [(PySem.Str.ofString "thing", .local), (PySem.Str.ofString "isinstance", .globalImplicit), (PySem.Str.ofString "int", .globalImplicit), (PySem.Str.ofString "bool", .globalImplicit)], isGenerator := false, isCoroutine := false, more := [] }
/-- what of is_number's text the walk needs -/
def NumAt (K : PySem.W.Frag) (f : Addr) : Prop := ∃ (oc : Value) (od : Option Addr) (kV doc pm : Value) (an : Option Addr) (cdv ct : Value) (osl : Array (Option Value)) (p n0 n1 n2 n3 n4 n5 n6 n7 n8 n9 n10 : Pos),
  K.lookup f = some ⟨oc, od, .func (PySem.W.fnOf "is_number" "is_number" (numArgs p) (numBody n0 n1 n2 n3 n4 n5 n6 n7 n8 n9 n10) numScope .none kV doc pm an cdv ct), osl⟩ ∧ PySem.W.codeIn K cdv "is_number" = true
theorem num_call {prog : Program} {w : World} {K : PySem.W.Frag} {mg mb : Str → Option Value} {A : Around} {E : Value → Shared → Prop} {s : Shared} {f : Addr} {i : Int} {t : Tok} {Q : Value → Shared → Prop} (N : NumAt K f) (KX : K.In s.heap) (hlim : s.heap.NoLimit) (hg : s.heap.Ns mainGlobals mg)
    (hb : s.heap.Ns builtinsNs mb) (hbb : ∀ y : Str, y ≠ "__name__" → mb y = bootBuiltins y) (mi : mg "isinstance" = none) (m1 : mg "int" = none) (m2 : mg "bool" = none) (hroom : A.depth < recursionLimit) (hq : ∀ s', Keeps s s' → Q (.bool true) s') :
    wpAny (model prog w) A (call (.ref f) [.int i t]) Q E s := by
  obtain ⟨oc, od, kV, doc, pm, an, cdv, ct, osl, p, n0, n1, n2, n3, n4, n5, n6, n7, n8, n9, n10, lk, hcd⟩ := N
  refine wpAny_call ?_
  refine Att.call_fn (binds := [("thing", .int i t)]) KX hlim lk hcd hroom (BindsTo.of_eq (by first | rfl | with_unfolding_all rfl)) (by first | rfl | decide | with_unfolding_all rfl) (fun s₁ IC => ?_) rfl rfl rfl
  obtain ⟨h₁, tk₁, rfl⟩ := IC.toInCall.same
  have kp : ∀ b o, s.heap.get? b = some o → h₁.get? b = some o := IC.toInCall.keep
  have hn := IC.toInCall.ns
  show wpAny _ _ (execs _ _) _ _ _
  refine wpAny_execs_cons (wpAny_Return_some ?_)
  refine BoolOp_and ?_
  refine isi_int (mg := mg) (mb := mb) (b := true) (KX.keeps kp) rfl rfl hn (by first | rfl | with_unfolding_all rfl | kernel_rfl) (hg.keeps kp) (hb.keeps kp) hbb rfl rfl mi m1 (by decide +kernel : bootBuiltins "int" = some (.type "int")) (by decide) kb_int_int (fun tk => ?_) (by decide) (by decide)
  refine wpAny_truthy_bool ?_
  show wpAny _ _ (eval (.BoolOp .And [.UnaryOp .Not (.Call (.Name "isinstance" n4) [.Name "thing" n5, .Name "bool" n6] [] n7) n8] n9) _) _ _ _
  refine BoolOp_one (UnaryOp_ ?_)
  refine isi_int (mg := mg) (mb := mb) (b := false) (KX.keeps kp) rfl rfl hn (by first | rfl | with_unfolding_all rfl | kernel_rfl) (hg.keeps kp) (hb.keeps kp) hbb rfl rfl mi m2 (by decide +kernel : bootBuiltins "bool" = some (.type "bool")) (by decide) kb_int_bool (fun tk => ?_) (by decide) (by decide)
  refine not_of (wpAny_truthy_bool ?_)
  exact hq _ ⟨h₁, tk, rfl, kp⟩
/-- the text of is_within -/
def withBody (n0 n1 n2 n3 n4 n5 n6 n7 n8 : Pos) : List Stmt := [.Return (some (.BoolOp .And [.Call (.Name "is_number" n0) [.Name "thing" n1] [] n2, .Compare (.Name "least" n3) [.LtE, .LtE] [.Name "thing" n4, .Name "most" n5] n6] n7)) n8]
def withArgs (p1 p2 p3 : Pos) : Arguments := { posonlyargs := [], args := [{ arg := "thing", annotation := none, pos := p1 }, { arg := "least", annotation := none, pos := p2 }, { arg := "most", annotation := none, pos := p3 }], vararg := none, kwonlyargs := [], kw_defaults := [], kwarg := none, defaults := [] }
def withScope : Scope := { kind := .function, names := [(PySem.Str.ofString "thing", .local), (PySem.Str.ofString "least", .local), (PySem.Str.ofString "most", .local), (PySem.Str.ofString "is_number", .globalImplicit)], isGenerator := false, isCoroutine := false, more := [] }
def WithAt (K : PySem.W.Frag) (f : Addr) : Prop := ∃ (oc : Value) (od : Option Addr) (kV doc pm : Value) (an : Option Addr) (cdv ct : Value) (osl : Array (Option Value)) (p1 p2 p3 n0 n1 n2 n3 n4 n5 n6 n7 n8 : Pos),
  K.lookup f = some ⟨oc, od, .func (PySem.W.fnOf "is_within" "is_within" (withArgs p1 p2 p3) (withBody n0 n1 n2 n3 n4 n5 n6 n7 n8) withScope .none kV doc pm an cdv ct), osl⟩ ∧ PySem.W.codeIn K cdv "is_within" = true
theorem with_call {prog : Program} {w : World} {K : PySem.W.Frag} {mg mb : Str → Option Value} {A : Around} {E : Value → Shared → Prop} {s : Shared} {f fn : Addr} {i l n : Int} {t tl tn : Tok} {Q : Value → Shared → Prop} (Wt : WithAt K f) (N : NumAt K fn) (kN : PySem.W.keepIn K (.ref fn) = true) (gN : mg "is_number" = some (.ref fn)) (KX : K.In s.heap) (hlim : s.heap.NoLimit) (hg : s.heap.Ns mainGlobals mg)
    (hb : s.heap.Ns builtinsNs mb) (hbb : ∀ y : Str, y ≠ "__name__" → mb y = bootBuiltins y) (mi : mg "isinstance" = none) (m1 : mg "int" = none) (m2 : mg "bool" = none) (hroom : A.depth + 1 < recursionLimit) (hq : ∀ s', Keeps s s' → Q (.bool (decide (l ≤ i) && decide (i ≤ n))) s') :
    wpAny (model prog w) A (call (.ref f) [.int i t, .int l tl, .int n tn]) Q E s := by
  obtain ⟨oc, od, kV, doc, pm, an, cdv, ct, osl, p1, p2, p3, n0, n1, n2, n3, n4, n5, n6, n7, n8, lk, hcd⟩ := Wt
  refine wpAny_call ?_
  refine Att.call_fn (binds := [("thing", .int i t), ("least", .int l tl), ("most", .int n tn)]) KX hlim lk hcd (by omega) (BindsTo.of_eq (by first | rfl | with_unfolding_all rfl)) (by first | rfl | decide | with_unfolding_all rfl) (fun s₁ IC => ?_) rfl rfl rfl
  obtain ⟨h₁, tk₁, rfl⟩ := IC.toInCall.same
  have kp : ∀ b o, s.heap.get? b = some o → h₁.get? b = some o := IC.toInCall.keep
  have hn := IC.toInCall.ns
  have hlim1 : h₁.NoLimit := hlim.keeps kp
  have hg1 := hg.keeps kp
  show wpAny _ _ (execs _ _) _ _ _
  refine wpAny_execs_cons (wpAny_Return_some ?_)
  refine BoolOp_and ?_
  refine wpAny_Call_Name_kw (Calls.Name_function_global rfl rfl (Calls.loadGlobal_global hg1 gN ?_))
  refine PySem.W.callWith_K (h₀ := h₁) (KX.keeps kp) kN ?_ (by rfl) (by rfl)
  show wpAny _ _ (spliced ((false, eval (.Name "thing" n1) _) :: [])) _ _ _
  refine Calls.spliced_cons (ldl (v := .int i t) rfl rfl hn (by first | rfl | with_unfolding_all rfl | kernel_rfl) (Calls.spliced_nil ⟨KX.keeps kp, ?_⟩) (by decide))
  refine num_call N (KX.keeps kp) hlim1 hg1 (hb.keeps kp) hbb mi m1 m2 (by show A.depth + 1 < _; omega) (fun s' hks => ?_)
  obtain ⟨h', tk', rfl, hkp⟩ := hks
  refine wpAny_truthy_bool ?_
  show wpAny _ _ (eval (.BoolOp .And [.Compare (.Name "least" n3) [.LtE, .LtE] [.Name "thing" n4, .Name "most" n5] n6] n7) _) _ _ _
  refine BoolOp_one ?_
  have kp2 : ∀ b o, s.heap.get? b = some o → h'.get? b = some o := fun b o e => hkp b o (kp b o e)
  refine Compare_chain (ldl (v := .int l tl) rfl rfl (hn.keeps hkp) (by first | rfl | with_unfolding_all rfl | kernel_rfl) (chain_link (ldl (v := .int i t) rfl rfl (hn.keeps hkp) (by first | rfl | with_unfolding_all rfl | kernel_rfl) (le_int (wpAny_truthy_bool ?_)) (by decide))) (by decide)) (by with_unfolding_all rfl)
  by_cases h1 : l ≤ i
  · rw [if_pos (decide_eq_true h1)]
    refine chain_last (ldl (v := .int n tn) rfl rfl (hn.keeps hkp) (by first | rfl | with_unfolding_all rfl | kernel_rfl) ?_ (by decide))
    refine le_int ?_
    have := hq ⟨h', s.gens, s.drawn, tk', s.os⟩ ⟨h', tk', rfl, kp2⟩
    rw [decide_eq_true h1, Bool.true_and] at this
    exact this
  · rw [if_neg (fun z => h1 (of_decide_eq_true z))]
    have := hq ⟨h', s.gens, s.drawn, tk', s.os⟩ ⟨h', tk', rfl, kp2⟩
    rw [decide_eq_false h1, Bool.false_and] at this
    show _
    rw [decide_eq_false h1]
    exact this
/-- is_within(x, 1, MOST) -/
theorem elt_num {X : Cx} {scope : Scope} {x M : Str} {f fn : Addr} {n : Int} {tn : Tok} {q0 q1 q2 q3 q4 : Pos} {k : Nat} (hr : Room k X.A) (Wt : WithAt X.K f) (kW : PySem.W.keepIn X.K (.ref f) = true) (gW : X.mg "is_within" = some (.ref f)) (N : NumAt X.K fn) (kp : PySem.W.keepIn X.K (.ref fn) = true) (gf : X.mg "is_number" = some (.ref fn)) (gM : X.mg M = some (.int n tn)) (hglob : X.env.globals = mainGlobals)
    (mi : X.mg "isinstance" = none) (m1 : X.mg "int" = none) (m2 : X.mg "bool" = none) (hk : scope.kind = .function) (hl : scope.names.lookup x = some .local) (hf : scope.names.lookup ("is_within" : Str) = some .globalImplicit) (hM : scope.names.lookup M = some .globalImplicit)
    (hd : (x == ("__debug__" : Str)) = false := by decide) (hdM : (M == ("__debug__" : Str)) = false := by decide) :
    EltI X scope x (.Call (.Name "is_within" q0) [.Name x q1, .Constant (.int 1) 0 q2, .Name M q3] [] q4) (fun i y => y = .bool (decide (1 ≤ i) && decide (i ≤ n))) := by
  intro cenv A' E' i t s₂ m₂ hs hG hB hA hD hU KX hlim hg hbl hn hm
  obtain ⟨mb, hb, hbb⟩ := hbl
  have hk' : cenv.scope.kind = .function := by rw [hs]; exact hk
  have hl' : cenv.kindOf x = some .local := show cenv.scope.names.lookup x = some .local by rw [hs]; exact hl
  have hf' : cenv.kindOf "is_within" = some .globalImplicit := show cenv.scope.names.lookup ("is_within" : Str) = _ by rw [hs]; exact hf
  have hM' : cenv.kindOf M = some .globalImplicit := show cenv.scope.names.lookup M = _ by rw [hs]; exact hM
  have hg' : s₂.heap.Ns cenv.globals X.mg := by rw [hG, hglob]; exact hg
  refine wpAny_Call_Name_kw (Calls.Name_function_global hk' hf' (Calls.loadGlobal_global hg' gW ?_))
  refine PySem.W.callWith_K (h₀ := s₂.heap) KX kW ?_ (by rfl) (by rfl)
  show wpAny _ _ (spliced ((false, eval (.Name x q1) cenv) :: (false, eval (.Constant (.int 1) 0 q2) cenv) :: (false, eval (.Name M q3) cenv) :: [])) _ _ s₂
  refine Calls.spliced_cons (ldl hk' hl' hn hm (Calls.spliced_cons (wpAny_Constant_int (Calls.spliced_cons (Calls.Name_function_global hk' hM' (Calls.loadGlobal_global hg' gM (Calls.spliced_nil ⟨KX, ?_⟩)) hdM)))) hd)
  exact with_call Wt N kp gf KX hlim hg hb hbb mi m1 m2 (by have := hr.dp; omega) (fun s' hks => ⟨rfl, hks⟩)

/-! ### all(elt for x in e for y in x) where every element comes out True -/
section
open PySem PySem.Spec PyProof.Rows L2
theorem compTurn_gen20 (elt it1 it2 t1 t2 : Expr) (scope : Scope) (pos : Pos) (it acc : Value) (env : Env) :
    compTurn (.GeneratorExp elt [⟨t1, it1, [], 0⟩, ⟨t2, it2, [], 0⟩] scope pos) 0 it acc env = (do
      standAt it1.pos
      match ← pyNext it with
      | none => pure (.done .next)
      | some v =>
        letOwnedTupleGo t1 it v
        assign t1 env v
        let x ← eval it2 env
        standAt it2.pos
        let x ← foldedSetIterable it2 env x
        let _ ← runOwn (.compStart (.GeneratorExp elt [⟨t1, it1, [], 0⟩, ⟨t2, it2, [], 0⟩] scope pos) 1 (← holding [x] (pyIter x)) acc env) env
        again (.compLoop (.GeneratorExp elt [⟨t1, it1, [], 0⟩, ⟨t2, it2, [], 0⟩] scope pos) 0 it acc env)) := by rfl
theorem compTurn_gen21 (elt it1 it2 t1 t2 : Expr) (scope : Scope) (pos : Pos) (it acc : Value) (env : Env) :
    compTurn (.GeneratorExp elt [⟨t1, it1, [], 0⟩, ⟨t2, it2, [], 0⟩] scope pos) 1 it acc env = (do
      standAt it2.pos
      match ← pyNext it with
      | none => pure (.done .next)
      | some v =>
        letOwnedTupleGo t2 it v
        assign t2 env v
        (do let v ← eval elt env; standAt elt.pos; let _ ← yieldOut env v)
        again (.compLoop (.GeneratorExp elt [⟨t1, it1, [], 0⟩, ⟨t2, it2, [], 0⟩] scope pos) 1 it acc env)) := by rfl
def Since2 (Bd a : Addr) (s₀ s : Shared) : Prop := ∃ h' tk, s = { s₀ with heap := h', toks := tk } ∧ ∀ b o, (b < Bd ∨ b = a) → s₀.heap.get? b = some o → h'.get? b = some o
theorem Since2.refl {Bd a : Addr} {s : Shared} : Since2 Bd a s s := ⟨s.heap, s.toks, rfl, fun _ _ _ e => e⟩
theorem Since2.step {Bd a : Addr} {s₀ s : Shared} (x : Since2 Bd a s₀ s) {h' : Heap} {tk : Nat} (hk : ∀ b o, (b < Bd ∨ b = a) → s.heap.get? b = some o → h'.get? b = some o) : Since2 Bd a s₀ { s with heap := h', toks := tk } := by
  obtain ⟨h₁, tk₁, rfl, hk₁⟩ := x
  exact ⟨h', tk, rfl, fun b o hb e => hk b o hb (hk₁ b o hb e)⟩
def proto2 (Bd a : Addr) : Protocol := fun _ s₀ v s kap => v = .bool true ∧ Since2 Bd a s₀ s ∧ ∀ s'' : Shared, (∀ b o, s.heap.get? b = some o → s''.heap.get? b = some o) → kap (.send .none) s''
def end2 (Bd a : Addr) : GenEnd := fun n s₀ r s₁ => r = .ok .next ∧ n = 0 ∧ Since2 Bd a s₀ s₁
section
variable {prog : Program} {w : World} {A : Around} {elt it1 it2 : Expr} {x1 x2 : Str} {px1 px2 : Pos} {scope : Scope} {pos : Pos} {cenv : Env} {Bd a : Addr}
/-- the inner for, the outer one's frame below it -/
theorem seg_in {I2 T0 : Addr} {vals : Array Value} {k' : Result → Sem Fin} {l' : List Value} {c₁ : Code} {p₁ : Pos} {R : GenEnd} {href : Heap} {n : Nat}
    (hh : A.handled = none) (hx : cenv.kindOf x2 = some .local) (hp : (cenv.scope.kind == .class || (cenv.scope.kind == .module && cenv.locals != cenv.globals)) = false) (hco : cenv.scope.isCoroutine = false)
    (nCI : cenv.locals ≠ I2) (nTC : T0 ≠ cenv.locals) (nTI : T0 ≠ I2) (hC : Bd ≤ cenv.locals) (hI : Bd ≤ I2) (aC : a ≠ cenv.locals) (aI : a ≠ I2) (hT : href.IsTuple T0 vals)
    (hel : ∀ (A' : Around) (E' : Value → Shared → Prop) (v : Value) (s₂ : Shared) (m₂ : Str → Option Value), A'.handled = none → A'.depth ≤ A.depth + c₁.weight → A'.units ≤ A.units + c₁.cUnits → (∃ i : Nat, vals[i]? = some v) → s₂.heap.Ns cenv.locals m₂ → m₂ x2 = some v → (∀ b o, b ≠ cenv.locals → b ≠ I2 → href.get? b = some o → s₂.heap.get? b = some o) →
      wpAny (model prog w) A' (eval elt cenv) (fun y s₃ => y = .bool true ∧ Keeps s₂ s₃) E' s₂)
    (hcont : ∀ (s₀ s : Shared) (m : Str → Option Value), s.heap.Ns cenv.locals m → Since2 Bd a s₀ s → (∀ b o, b ≠ cenv.locals → b ≠ I2 → href.get? b = some o → s.heap.get? b = some o) → Seg (model prog w) A R (proto2 Bd a) n s₀ c₁ (k' (.ok .next)) [] s) :
    ∀ (kk j : Nat) (s₀ s : Shared) (m : Str → Option Value), vals.size - j = kk → j ≤ vals.size → s.heap.IsTupleIter I2 T0 j → s.heap.Ns cenv.locals m → Since2 Bd a s₀ s → (∀ b o, b ≠ cenv.locals → b ≠ I2 → href.get? b = some o → s.heap.get? b = some o) →
      Seg (model prog w) A R (proto2 Bd a) (n + kk) s₀ (.compLoop (.GeneratorExp elt [⟨.Name x1 px1, it1, [], 0⟩, ⟨.Name x2 px2, it2, [], 0⟩] scope pos) 1 (.ref I2) .none cenv)
        ((model prog w).den (.compLoop (.GeneratorExp elt [⟨.Name x1 px1, it1, [], 0⟩, ⟨.Name x2 px2, it2, [], 0⟩] scope pos) 1 (.ref I2) .none cenv)) [.ret k' none false l' c₁ p₁ []] s := by
  have hh' : (A.over (.compLoop (.GeneratorExp elt [⟨.Name x1 px1, it1, [], 0⟩, ⟨.Name x2 px2, it2, [], 0⟩] scope pos) 1 (.ref I2) .none cenv) [.ret k' none false l' c₁ p₁ []]).handled = none := hh
  have hdep' : (A.over (.compLoop (.GeneratorExp elt [⟨.Name x1 px1, it1, [], 0⟩, ⟨.Name x2 px2, it2, [], 0⟩] scope pos) 1 (.ref I2) .none cenv) [.ret k' none false l' c₁ p₁ []]).depth ≤ A.depth + c₁.weight := Nat.le_of_eq rfl
  have huni' : (A.over (.compLoop (.GeneratorExp elt [⟨.Name x1 px1, it1, [], 0⟩, ⟨.Name x2 px2, it2, [], 0⟩] scope pos) 1 (.ref I2) .none cenv) [.ret k' none false l' c₁ p₁ []]).units ≤ A.units + c₁.cUnits := Nat.le_of_eq rfl
  have W : ∀ A' : Around, A'.handled = none → Walks prog w A' I2 [I2, T0] [I2] vals.size _ _ := fun A' hA => Walks.tuple hA I2 T0 nTI vals
  have CW : cenv.locals ∉ [I2] := fun z => nCI (List.mem_singleton.mp z)
  have old : ∀ {b : Addr}, b ∉ [I2] ↔ b ≠ I2 := fun {b} => by rw [List.mem_singleton]
  have bI : ∀ {b : Addr}, (b < Bd ∨ b = a) → b ≠ I2 ∧ b ≠ cenv.locals := fun {b} hb => by
    rcases hb with hb | rfl
    · exact ⟨fun z => by rw [z] at hb; exact absurd hI (Nat.not_le.mpr hb), fun z => by rw [z] at hb; exact absurd hC (Nat.not_le.mpr hb)⟩
    · exact ⟨aI, aC⟩
  intro kk
  induction kk with
  | zero =>
    intro j s₀ s m hk hj hst hn hs hkp
    obtain rfl : j = vals.size := by omega
    show Seg _ A _ _ _ s₀ _ ((compTurn (.GeneratorExp elt [⟨.Name x1 px1, it1, [], 0⟩, ⟨.Name x2 px2, it2, [], 0⟩] scope pos) 1 (.ref I2) .none cenv).onRaise (fun x => do noteFrame x cenv; theTreesLotGoes x)) _ s
    rw [compTurn_gen21, Sem.onRaise_eq_wrap]
    refine seg_bind_wrap (wpAny_standAt ?_)
    refine seg_bind_wrap ((W _ hh').done s _ _ ⟨hst, hT.at fun o e => hkp _ o nTC nTI e⟩ fun h' tk hk' => ?_)
    refine seg_leaf (.ok .next) ?_
    exact hcont s₀ _ m (hn.at' fun o e => hk' _ o CW e) (hs.step fun b o hb e => hk' b o (old.mpr (bI hb).1) e) fun b o h1 h2 e => hk' b o (old.mpr h2) (hkp b o h1 h2 e)
  | succ kk ih =>
    intro j s₀ s m hk hj hst hn hs hkp
    have hlt : j < vals.size := by omega
    show Seg _ A _ _ _ s₀ _ ((compTurn (.GeneratorExp elt [⟨.Name x1 px1, it1, [], 0⟩, ⟨.Name x2 px2, it2, [], 0⟩] scope pos) 1 (.ref I2) .none cenv).onRaise (fun x => do noteFrame x cenv; theTreesLotGoes x)) _ s
    rw [compTurn_gen21, Sem.onRaise_eq_wrap]
    refine seg_bind_wrap (wpAny_standAt ?_)
    refine seg_bind_wrap ((W _ hh').item j s _ _ hlt ⟨hst, hT.at fun o e => hkp _ o nTC nTI e⟩ fun v h₁ tk₁ hPv hst₁ hk₁ => ?_)
    refine seg_bind_wrap (wpAny_of_eq (rfl : letOwnedTupleGo (.Name x2 px2) (.ref I2) v = pure ()) ?_)
    refine seg_bind_wrap (wpAny_assign_Name (wpAny_storeName_local hx (hn.at' fun o e => hk₁ _ o CW e) (fun h₂ hn₂ hs₂ => ?_) hp))
    have up₂ : ∀ b o, b ≠ cenv.locals → b ≠ I2 → s.heap.get? b = some o → h₂.get? b = some o := fun b o h1 h2 e => hs₂.extBut b o h1 (hk₁ b o (old.mpr h2) e)
    have hst₂ : h₂.IsTupleIter I2 T0 (j + 1) := hst₁.1.at fun o e => hs₂.extBut _ o (fun z => nCI z.symm) e
    have hkp₂ : ∀ b o, b ≠ cenv.locals → b ≠ I2 → href.get? b = some o → h₂.get? b = some o := fun b o h1 h2 e => up₂ b o h1 h2 (hkp b o h1 h2 e)
    have hy : ∀ v, yieldOut cenv v = yieldValue v := fun v => by simp only [yieldOut, hco, Bool.false_eq_true, if_false]
    simp only [hy]
    rw [Sem.bind_eq_wrap', Sem.bind_eq_wrap', Sem.wrap_wrap, Sem.wrap_wrap]
    refine seg_wrap (wpAny_mono (hel _ _ v _ _ hh' hdep' huni' ⟨j, hPv⟩ hn₂ (by simp) hkp₂) (fun y s₄ h₄ => ?_) fun _ _ e => e)
    obtain ⟨rfl, h₄, tk₄, rfl, hk₄⟩ := h₄
    refine seg_at (seg_yield rfl rfl rfl ⟨rfl, hs.step fun b o hb e => hk₄ b o (up₂ b o (bI hb).2 (bI hb).1 e), fun s'' hal => ?_⟩)
    refine seg_again rfl (ih (j + 1) s'' s'' _ (by omega) hlt (hst₂.at fun o e => hal _ o (hk₄ _ o e)) ((hn₂.keeps hk₄).at' fun o e => hal _ o e) Since2.refl fun b o h1 h2 e => hal b o (hk₄ b o (hkp₂ b o h1 h2 e)))
/-- the inner for's beginning -/
theorem seg_inS {I2 T0 : Addr} {fs : List Frame} {R : GenEnd} {Y : Protocol} {n : Nat} {s₀ s : Shared} (hst : s.heap.IsTupleIter I2 T0 0)
    (loop : Seg (model prog w) A R Y n s₀ (.compLoop (.GeneratorExp elt [⟨.Name x1 px1, it1, [], 0⟩, ⟨.Name x2 px2, it2, [], 0⟩] scope pos) 1 (.ref I2) .none cenv)
        ((model prog w).den (.compLoop (.GeneratorExp elt [⟨.Name x1 px1, it1, [], 0⟩, ⟨.Name x2 px2, it2, [], 0⟩] scope pos) 1 (.ref I2) .none cenv)) fs s) :
    Seg (model prog w) A R Y n s₀ (.compStart (.GeneratorExp elt [⟨.Name x1 px1, it1, [], 0⟩, ⟨.Name x2 px2, it2, [], 0⟩] scope pos) 1 (.ref I2) .none cenv)
      ((model prog w).den (.compStart (.GeneratorExp elt [⟨.Name x1 px1, it1, [], 0⟩, ⟨.Name x2 px2, it2, [], 0⟩] scope pos) 1 (.ref I2) .none cenv)) fs s := by
  show Seg _ A _ _ _ s₀ _ ((compStart (.GeneratorExp elt [⟨.Name x1 px1, it1, [], 0⟩, ⟨.Name x2 px2, it2, [], 0⟩] scope pos) 1 (.ref I2) .none cenv).onRaise (fun x => do noteFrame x cenv; standAt theWindowsPlace)) _ s
  unfold compStart
  rw [Sem.onRaise_eq_wrap]
  show Seg _ A _ _ _ s₀ _ ((ask >>= _).wrap _ _ _ _) _ s
  refine seg_bind_wrap (wpAny_askSetting ?_)
  split
  · exact seg_again rfl loop
  · first
      | exact seg_bind_wrap (wpAny_rule (seg_bind_wrap (wpAny_standAt (seg_bind_wrap (wpAny_pyIter_tupleiter hst (seg_again rfl loop))))))
      | (refine seg_bind_wrap (wpAny_rule ?_); show Seg _ A _ _ _ s₀ _ ((standAt it2.pos >>= _).wrap _ _ _ _) _ s; exact seg_bind_wrap (wpAny_standAt (seg_bind_wrap (wpAny_pyIter_tupleiter hst (seg_again rfl loop)))))
theorem seg_out {I al : Addr} {items : Array Value} {h0 : Heap} {px3 : Pos} {El : Value → Prop}
    (hh : A.handled = none) (hx1 : cenv.kindOf x1 = some .local) (hx2 : cenv.kindOf x2 = some .local) (hk : cenv.scope.kind = .function) (hp : (cenv.scope.kind == .class || (cenv.scope.kind == .module && cenv.locals != cenv.globals)) = false) (hco : cenv.scope.isCoroutine = false)
    (nAC : al ≠ cenv.locals) (nAI : al ≠ I) (nCI : cenv.locals ≠ I) (hC : Bd ≤ cenv.locals) (hI : Bd ≤ I) (aC : a ≠ cenv.locals) (aI : a ≠ I) (hL : h0.IsList al items) (ha : ∃ o, h0.get? a = some o)
    (ht : ∀ (i : Nat) (v : Value), items[i]? = some v → ∃ (T0 : Addr) (u1 u2 : Value), v = .ref T0 ∧ T0 ≠ cenv.locals ∧ T0 ≠ I ∧ h0.IsTuple T0 #[u1, u2] ∧ El u1 ∧ El u2)
    (hel : ∀ (A' : Around) (E' : Value → Shared → Prop) (v : Value) (s₂ : Shared) (m₂ : Str → Option Value), A'.handled = none → A'.depth ≤ A.depth + 1 → A'.units ≤ A.units + 3 → El v → s₂.heap.Ns cenv.locals m₂ → m₂ x2 = some v → (∀ b o, b ≠ cenv.locals → b ≠ I → h0.get? b = some o → s₂.heap.get? b = some o) →
      wpAny (model prog w) A' (eval elt cenv) (fun y s₃ => y = .bool true ∧ Keeps s₂ s₃) E' s₂) (hd : (x1 == ("__debug__" : Str)) = false := by decide) :
    ∀ (kk i : Nat) (s₀ s : Shared) (m : Str → Option Value), items.size - i = kk → i ≤ items.size → s.heap.IsListIter I al i → s.heap.Ns cenv.locals m → Since2 Bd a s₀ s → (∀ b o, b ≠ cenv.locals → b ≠ I → h0.get? b = some o → s.heap.get? b = some o) →
      Seg (model prog w) A (end2 Bd a) (proto2 Bd a) (2 * kk) s₀ (.compLoop (.GeneratorExp elt [⟨.Name x1 px1, it1, [], 0⟩, ⟨.Name x2 px2, .Name x1 px3, [], 0⟩] scope pos) 0 (.ref I) .none cenv)
        ((model prog w).den (.compLoop (.GeneratorExp elt [⟨.Name x1 px1, it1, [], 0⟩, ⟨.Name x2 px2, .Name x1 px3, [], 0⟩] scope pos) 0 (.ref I) .none cenv)) [] s := by
  have hh' : (A.over (.compLoop (.GeneratorExp elt [⟨.Name x1 px1, it1, [], 0⟩, ⟨.Name x2 px2, .Name x1 px3, [], 0⟩] scope pos) 0 (.ref I) .none cenv) []).handled = none := hh
  have W : ∀ A' : Around, A'.handled = none → Walks prog w A' I [I, al] [I] items.size _ _ := fun A' hA => Walks.list hA I al nAI items
  have CW : cenv.locals ∉ [I] := fun z => nCI (List.mem_singleton.mp z)
  have old : ∀ {b : Addr}, b ∉ [I] ↔ b ≠ I := fun {b} => by rw [List.mem_singleton]
  have bI : ∀ {b : Addr}, (b < Bd ∨ b = a) → b ≠ I ∧ b ≠ cenv.locals := fun {b} hb => by
    rcases hb with hb | rfl
    · exact ⟨fun z => by rw [z] at hb; exact absurd hI (Nat.not_le.mpr hb), fun z => by rw [z] at hb; exact absurd hC (Nat.not_le.mpr hb)⟩
    · exact ⟨aI, aC⟩
  intro kk
  induction kk with
  | zero =>
    intro i s₀ s m hkk hi hst hn hs hkp
    obtain rfl : i = items.size := by omega
    show Seg _ A _ _ _ s₀ _ ((compTurn (.GeneratorExp elt [⟨.Name x1 px1, it1, [], 0⟩, ⟨.Name x2 px2, .Name x1 px3, [], 0⟩] scope pos) 0 (.ref I) .none cenv).onRaise (leaving cenv)) _ s
    rw [compTurn_gen20, Sem.onRaise_eq_wrap]
    refine seg_bind_wrap (wpAny_standAt ?_)
    refine seg_bind_wrap ((W _ hh').done s _ _ ⟨hst, hL.at fun o e => hkp _ o nAC nAI e⟩ fun h' tk hk' => ?_)
    exact seg_end (.ok .next) ⟨rfl, rfl, hs.step fun b o hb e => hk' b o (old.mpr (bI hb).1) e⟩
  | succ kk ih =>
    intro i s₀ s m hkk hi hst hn hs hkp
    have hlt : i < items.size := by omega
    show Seg _ A _ _ _ s₀ _ ((compTurn (.GeneratorExp elt [⟨.Name x1 px1, it1, [], 0⟩, ⟨.Name x2 px2, .Name x1 px3, [], 0⟩] scope pos) 0 (.ref I) .none cenv).onRaise (leaving cenv)) _ s
    rw [compTurn_gen20, Sem.onRaise_eq_wrap]
    refine seg_bind_wrap (wpAny_standAt ?_)
    refine seg_bind_wrap ((W _ hh').item i s _ _ hlt ⟨hst, hL.at fun o e => hkp _ o nAC nAI e⟩ fun v h₁ tk₁ hPv hst₁ hk₁ => ?_)
    obtain ⟨T0, u1, u2, rfl, nTC, nTI, hT, e1, e2⟩ := ht i v hPv
    refine seg_bind_wrap (wpAny_of_eq (rfl : letOwnedTupleGo (.Name x1 px1) (.ref I) (.ref T0) = pure ()) ?_)
    refine seg_bind_wrap (wpAny_assign_Name (wpAny_storeName_local hx1 (hn.at' fun o e => hk₁ _ o CW e) (fun h₂ hn₂ hs₂ => ?_) hp))
    have up₂ : ∀ b o, b ≠ cenv.locals → b ≠ I → s.heap.get? b = some o → h₂.get? b = some o := fun b o h1 h2 e => hs₂.extBut b o h1 (hk₁ b o (old.mpr h2) e)
    have hst₂ : h₂.IsListIter I al (i + 1) := hst₁.1.at fun o e => hs₂.extBut _ o (fun z => nCI z.symm) e
    have hkp₂ : ∀ b o, b ≠ cenv.locals → b ≠ I → h0.get? b = some o → h₂.get? b = some o := fun b o h1 h2 e => up₂ b o h1 h2 (hkp b o h1 h2 e)
    have hT₂ : h₂.IsTuple T0 #[u1, u2] := hT.at fun o e => hkp₂ _ o nTC nTI e
    refine seg_bind_wrap (ldl (v := .ref T0) hk hx1 hn₂ (by simp) ?_ hd)
    refine seg_bind_wrap (wpAny_standAt ?_)
    refine seg_bind_wrap (wpAny_of_eq (rfl : foldedSetIterable (.Name x1 px3) cenv (.ref T0) = pure (.ref T0)) ?_)
    refine seg_bind_wrap (wpAny_holding (wpAny_pyIter_tuple hT₂ ?_))
    have nC2 : cenv.locals ≠ h₂.objs.size := Nat.ne_of_lt hn₂.lt
    have lt2 : ∀ {b : Addr} {o : Obj}, h₂.get? b = some o → b ≠ h₂.objs.size := fun e => Nat.ne_of_lt (Heap.lt_size e)
    have hBd : Bd ≤ h₂.objs.size := Nat.le_trans hC (Nat.le_of_lt hn₂.lt)
    have a2 : a ≠ h₂.objs.size := by
      obtain ⟨o, e⟩ := ha
      exact lt2 (hkp₂ a o aC aI e)
    have nT2 : T0 ≠ h₂.objs.size := by
      obtain ⟨oT, eT, _⟩ := hT₂
      exact lt2 eT
    show Seg _ A _ _ _ s₀ _ (.call (.compStart (.GeneratorExp elt [⟨.Name x1 px1, it1, [], 0⟩, ⟨.Name x2 px2, .Name x1 px3, [], 0⟩] scope pos) 1 (.ref h₂.objs.size) .none cenv) none false _ _) _ _
    refine seg_call fun p => ?_
    refine seg_inS ⟨_, Heap.get?_push_size _ rfl, rfl, rfl⟩ ?_
    have push : ∀ {b : Addr} {o : Obj}, h₂.get? b = some o → (h₂.push { cls := .type "tuple_iterator", data := .fields #[.ref T0, .int 0 0] }).get? b = some o := fun e => Heap.get?_push_of_some _ e
    refine seg_in (I2 := h₂.objs.size) (T0 := T0) (vals := #[u1, u2]) (n := 2 * kk) (href := h₂) hh hx2 hp hco nC2 nTC nT2 hC hBd aC a2 hT₂ ?_ ?_ 2 0 s₀ _ _ rfl (Nat.zero_le _) ⟨_, Heap.get?_push_size _ rfl, rfl, rfl⟩ (hn₂.push _) (hs.step fun b o hb e => push (up₂ b o (bI hb).2 (bI hb).1 e)) (fun b o _ _ e => push e)
    · rintro A' E' v sb m₂ hA hD hU ⟨k, hi'⟩ hnb hmb hkb
      refine hel A' E' v sb m₂ hA hD hU ?_ hnb hmb (fun b o h1 h2 e => hkb b o h1 (lt2 (hkp₂ b o h1 h2 e)) (hkp₂ b o h1 h2 e))
      rcases (show k = 0 ∨ k = 1 ∨ 2 ≤ k by omega) with rfl | rfl | h2
      · cases hi'
        exact e1
      · cases hi'
        exact e2
      · have : k < 2 := (Array.getElem?_eq_some_iff.mp hi').1
        omega
    · intro s₀' s' m' hn' hs' hk'
      exact seg_again rfl (ih (i + 1) s₀' s' m' (by omega) hlt (hst₂.at fun o e => hk' _ o (fun z => nCI z.symm) (lt2 e) e) hn' hs' (fun b o h1 h2 e => hk' b o h1 (lt2 (hkp₂ b o h1 h2 e)) (hkp₂ b o h1 h2 e)))
theorem seg_outS {I al : Addr} {px3 : Pos} {R : GenEnd} {Y : Protocol} {n : Nat} {s₀ s : Shared} (hst : s.heap.IsListIter I al 0)
    (loop : Seg (model prog w) A R Y n s₀ (.compLoop (.GeneratorExp elt [⟨.Name x1 px1, it1, [], 0⟩, ⟨.Name x2 px2, .Name x1 px3, [], 0⟩] scope pos) 0 (.ref I) .none cenv)
        ((model prog w).den (.compLoop (.GeneratorExp elt [⟨.Name x1 px1, it1, [], 0⟩, ⟨.Name x2 px2, .Name x1 px3, [], 0⟩] scope pos) 0 (.ref I) .none cenv)) [] s) :
    Seg (model prog w) A R Y n s₀ (.compStart (.GeneratorExp elt [⟨.Name x1 px1, it1, [], 0⟩, ⟨.Name x2 px2, .Name x1 px3, [], 0⟩] scope pos) 0 (.ref I) .none cenv)
      ((model prog w).den (.compStart (.GeneratorExp elt [⟨.Name x1 px1, it1, [], 0⟩, ⟨.Name x2 px2, .Name x1 px3, [], 0⟩] scope pos) 0 (.ref I) .none cenv)) [] s := by
  show Seg _ A _ _ _ s₀ _ ((compStart (.GeneratorExp elt [⟨.Name x1 px1, it1, [], 0⟩, ⟨.Name x2 px2, .Name x1 px3, [], 0⟩] scope pos) 0 (.ref I) .none cenv).onRaise (leaving cenv)) _ s
  unfold compStart
  rw [Sem.onRaise_eq_wrap]
  show Seg _ A _ _ _ s₀ _ ((ask >>= _).wrap _ _ _ _) _ s
  refine seg_bind_wrap (wpAny_askSetting ?_)
  split
  · exact seg_again rfl loop
  · first
      | exact seg_bind_wrap (wpAny_rule (seg_bind_wrap (wpAny_standAt (seg_bind_wrap (wpAny_pyIter_listiter hst (seg_again rfl loop))))))
      | (refine seg_bind_wrap (wpAny_rule ?_); show Seg _ A _ _ _ s₀ _ ((standAt it1.pos >>= _).wrap _ _ _ _) _ s; exact seg_bind_wrap (wpAny_standAt (seg_bind_wrap (wpAny_pyIter_listiter hst (seg_again rfl loop)))))
end
section
variable {prog : Program} {w : World} {A : Around} {g N : Nat} {Bd a : Addr}
def GenAt2 (prog : Program) (w : World) (A : Around) (a : Addr) (g : Nat) (Bd : Addr) (N j : Nat) (s : Shared) : Prop :=
  s.heap.IsGen a g ∧ s.heap.NoLimit ∧ ∃ gs, s.gens[g]? = some gs ∧ ∀ s'' : Shared, (∀ b o, s.heap.get? b = some o → s''.heap.get? b = some o) → gs.Goes (model prog w) A.in1 (end2 Bd a) (proto2 Bd a) (N - j) (.send .none) s''
structure Mv2 (Bd a : Addr) (g : Nat) (s s' : Shared) : Prop where
  heap : ∀ b o, (b < Bd ∨ b = a) → s.heap.get? b = some o → s'.heap.get? b = some o
  gens : GenOnlyQ g s.gens s'.gens
  drawn : s'.drawn = s.drawn
  os : s'.os = s.os
theorem Mv2.trans {s s' s'' : Shared} (x : Mv2 Bd a g s s') (y : Mv2 Bd a g s' s'') : Mv2 Bd a g s s'' := ⟨fun b o hb e => y.heap b o hb (x.heap b o hb e), x.gens.trans y.gens, y.drawn.trans x.drawn, y.os.trans x.os⟩
theorem gen2_next {j : Nat} {s : Shared} {Q : Option Value → Shared → Prop} {E : Value → Shared → Prop} (hh : A.handled = none) (hroom : A.depth < recursionLimit) (hcs : cStatics < Bd) (hj : j < N) (h : GenAt2 prog w A a g Bd N j s)
    (hQ : ∀ s', GenAt2 prog w A a g Bd N (j + 1) s' → Mv2 Bd a g s s' → Q (some (.bool true)) s') : wpAny (model prog w) A (pyNext (.ref a)) Q E s := by
  obtain ⟨hg, hl, gs, hgs, hgo⟩ := h
  obtain ⟨m, hm⟩ : ∃ m, N - j = m + 1 := ⟨N - j - 1, by omega⟩
  rw [hm] at hgo
  refine wpAny_pyNext_genexpQ (P := fun n s₀ s₁ => n = 0 ∧ Since2 Bd a s₀ s₁) hh hl hroom hg hgs (hgo _ fun _ _ e => e) (fun v s₁ gs' hb hv => ?_) (fun s₁ hp h' hk => absurd hp.1 (Nat.succ_ne_zero m))
  obtain ⟨rfl, ⟨h₁, tk₁, rfl, hk₁⟩, hkap⟩ := hv
  refine hQ _ ⟨let ⟨o, nm, qn, ho, r⟩ := hg; ⟨o, nm, qn, hk₁ a o (.inr rfl) ho, r⟩, (let ⟨mc, hns, hnn⟩ := hl; ⟨mc, hns.at' fun o e => hk₁ cStatics o (.inl hcs) e, hnn⟩), gs', setGen_self (gs := .running) (setGen_self hgs), fun s'' hal => ?_⟩
    ⟨hk₁, GenOnlyQ.of ((GenOnly.setGen s g .running).trans (GenOnly.setGen _ g gs')) (setGen_self (gs := .running) (setGen_self hgs)) hb, rfl, rfl⟩
  rw [show N - (j + 1) = m by omega]
  exact hkap s'' hal
theorem gen2_done {s : Shared} {Q : Option Value → Shared → Prop} {E : Value → Shared → Prop} (hh : A.handled = none) (hroom : A.depth < recursionLimit) (h : GenAt2 prog w A a g Bd N N s)
    (hQ : ∀ s', Mv2 Bd a g s s' → Q none s') : wpAny (model prog w) A (pyNext (.ref a)) Q E s := by
  obtain ⟨hg, hl, gs, hgs, hgo⟩ := h
  rw [Nat.sub_self] at hgo
  refine wpAny_pyNext_genexpQ (P := fun n s₀ s₁ => n = 0 ∧ Since2 Bd a s₀ s₁) hh hl hroom hg hgs (hgo _ fun _ _ e => e) (fun v s₁ gs' hb hv => ?_) (fun s₁ hp h' hk => ?_)
  · obtain ⟨_, _, hkap⟩ := hv
    exact False.elim (hkap s₁ fun _ _ e => e)
  · obtain ⟨_, h₁, tk₁, rfl, hk₁⟩ := hp
    exact hQ _ ⟨fun b o hb e => hk b o (hk₁ b o hb e), GenOnlyQ.of ((GenOnly.setGen s g .running).trans (GenOnly.setGen _ g .finished)) (setGen_self (gs := .running) (setGen_self hgs)) rfl, rfl, rfl⟩
theorem all2_loop {R : Result → Shared → Prop} (hh : A.handled = none) (hroom : A.in1.depth < recursionLimit) (hcs : cStatics < Bd) : ∀ (k j : Nat) (s : Shared), N - j = k → j ≤ N → GenAt2 prog w A.in1 a g Bd N j s →
    (∀ s', Mv2 Bd a g s s' → R (.ok (.ret (.bool true))) s') → codeAny (model prog w) A (.builtin "all.loop" ⟨[.ref a], []⟩) R s := by
  intro k
  induction k with
  | zero =>
    intro j s hk hj hst hR
    obtain rfl : j = N := by omega
    refine codeAny_builtin F.entry_all_loop ?_
    rw [Around.under_plainId F.plain_all_loop _]
    show wpAny _ A.in1 (pyNext (.ref a) >>= _) _ _ s
    refine wpAny_bind (gen2_done hh hroom hst fun s' hm => ?_)
    exact wpAny_bind (wpAny_rule (wpAny_pure (hR s' hm)))
  | succ k ih =>
    intro j s hk hj hst hR
    refine codeAny_builtin F.entry_all_loop ?_
    rw [Around.under_plainId F.plain_all_loop _]
    show wpAny _ A.in1 (pyNext (.ref a) >>= _) _ _ s
    refine wpAny_bind (gen2_next hh hroom hcs (by omega) hst fun s' hst' hm => ?_)
    refine wpAny_bind (wpAny_holding (wpAny_truthy_bool ?_))
    refine wpAny_bind (wpAny_letGo ?_)
    simp only [if_true]
    exact wpAny_pure ⟨plainId_quiet F.plain_all_loop _, ih (j + 1) _ (by omega) (by omega) hst' fun s'' hm' => hR s'' (hm.trans hm')⟩
theorem call_all2 {Q : Value → Shared → Prop} {E : Value → Shared → Prop} {s : Shared} (hh : A.handled = none) (hroom : A.in1.depth < recursionLimit) (hcs : cStatics < Bd) (h : GenAt2 prog w A.in1 a g Bd N 0 s) (hQ : ∀ s', Mv2 Bd a g s s' → Q (.bool true) s') :
    wpAny (model prog w) A (call (.builtin "all") [.ref a]) Q E s := by
  refine call_function_tree F.kind_all F.plain_all F.entry_all (F.args_all1 _) ?_
  unfold Builtin.«all»
  refine wpAny_bind (m := oneArg "all" _) (wpAny_pure ?_)
  refine wpAny_bind (wpAny_pyIter_gen h.1 ?_)
  exact wpAny_pure ⟨plainId_quiet F.plain_all_loop _, all2_loop (A := A) hh hroom hcs N 0 s (Nat.sub_zero _) (Nat.zero_le _) h hQ⟩
end
theorem eval_GeneratorExp2 (elt t1 it1 t2 it2 : Expr) (scope : Scope) (pos : Pos) (env : Env) (hco : scope.isCoroutine = false) :
    eval (.GeneratorExp elt [⟨t1, it1, [], 0⟩, ⟨t2, it2, [], 0⟩] scope pos) env = (do
      let x ← eval it1 env
      standAt it1.pos
      let x ← genFold it1 env x
      let it ← holding [x] (pyIter x)
      enterFrame
      let cl ← closureFor scope env
      let code ← genexprCode env pos (env.qual ++ "<genexpr>") scope
      let bi ← builtinsFor env.globals env.builtins
      let cenv ← newFunctionEnv scope env.globals cl [(".0", it)] (env.qual ++ "<genexpr>.") none code none bi
      newGenerator (.compStart (.GeneratorExp elt [⟨t1, it1, [], 0⟩, ⟨t2, it2, [], 0⟩] scope pos) 0 it .none cenv) "<genexpr>" (env.qual ++ "<genexpr>")) := by
  rw [arm_eval_GeneratorExp]
  simp only [hco, Bool.false_eq_true, if_false]
  cases it1 <;> rfl
theorem wpAny_GeneratorExp_make2 {M : Model} {A : Around} {E : Value → Shared → Prop} {s : Shared} {env : Env} {elt t1 iter t2 it2 : Expr} {scope : Scope} {cl : List (Str × Addr)} {pos : Pos} {Q : Value → Shared → Prop}
    (hco : scope.isCoroutine = false) (hclos : closureFor scope env = pure cl) (hcell : ∀ y ∈ scope.names, y.2 ≠ .cell) (h0 : scope.names.lookup (".0" : Str) = some NameKind.local) (hkind : scope.kind = .function)
    (hroom : A.depth < recursionLimit)
    (h : wpAny M A (eval iter env) (fun xv s₁ => wpAny M A (pyIter xv) (fun it s₂ => s₂.heap.NoLimit ∧
      wpAny M A (genexprCode env pos (env.qual ++ "<genexpr>") scope) (fun code s₃ => wpAny M A (builtinsFor env.globals env.builtins) (fun bi s₄ =>
        ∀ h', h'.Ns s₄.heap.objs.size (fun y => if y = ".0" then some it else none) → Heap.SameBut s₄.heap.objs.size (s₄.heap.push { cls := .type "frame", data := .dict #[] }) h' →
          Q (.ref h'.objs.size) { s₄ with
            gens := s₄.gens.push (.fresh (.compStart (.GeneratorExp elt [⟨t1, iter, [], 0⟩, ⟨t2, it2, [], 0⟩] scope pos) 0 it .none (genEnv scope cl s₄.heap.objs.size code bi env))),
            toks := s₄.toks + 1 + 1 + 1,
            heap := h'.push { cls := .type "generator", data := .fields #[.int s₄.gens.size 0, .str "<genexpr>" (s₄.toks + 1), .str (env.qual ++ "<genexpr>") (s₄.toks + 1 + 1)] } }) E s₃) E s₂) E s₁) E s)
    (hs : ∀ x, genFold iter env x = pure x) :
    wpAny M A (eval (.GeneratorExp elt [⟨t1, iter, [], 0⟩, ⟨t2, it2, [], 0⟩] scope pos) env) Q E s := by
  rw [eval_GeneratorExp2 _ _ _ _ _ _ _ _ hco, hclos]
  refine wpAny_bind (wpAny_mono h (fun xv s₁ h₁ => ?_) fun _ _ e => e)
  refine wpAny_bind (wpAny_standAt ?_)
  refine wpAny_bind (wpAny_of_eq (hs xv) ?_)
  refine wpAny_bind (wpAny_holding (wpAny_mono h₁ (fun it s₂ h₂ => ?_) fun _ _ e => e))
  refine wpAny_bind (wpAny_enterFrame h₂.1 hroom ?_)
  refine wpAny_bind (wpAny_pure ?_)
  refine wpAny_bind (wpAny_mono h₂.2 (fun code s₃ h₃ => ?_) fun _ _ e => e)
  refine wpAny_bind (wpAny_mono h₃ (fun bi s₄ h₄ => ?_) fun _ _ e => e)
  have hbinds : ∀ y ∈ ([((".0" : Str), it)] : List (Str × Value)), scope.names.lookup y.1 = some NameKind.local := by
    intro y hy
    rcases List.mem_cons.mp hy with rfl | hy
    · exact h0
    · cases hy
  refine wpAny_bind (wpAny_newFunctionEnv hcell hbinds (fun h' hn' hs' => ?_) hkind)
  have e : (fun y : Str => ([((".0" : Str), it)] : List (Str × Value)).reverse.lookup y) = fun y : Str => if y = (".0" : Str) then some it else none := by
    funext y
    by_cases hy : y = ".0"
    · subst hy; simp
    · have : (y == (".0" : Str)) = false := by simpa using hy
      simp [List.lookup, this, hy]
  rw [e] at hn'
  simp only [newGenerator, newFields]
  refine wpAny_bind (wpAny_newGen (wpAny_bind (wpAny_mkText (wpAny_bind (wpAny_mkText (wpAny_newObj_type ?_ (by size_fits)))))))
  exact h₄ h' hn' hs'
section
variable {X : Cx} {pins : List (Addr × Obj)} {σ : L2.St} {H : Hp} {s : Shared}
theorem gen_two {c P : Addr} {elt iter : Expr} {x1 x2 : Str} {px1 px2 px3 gpos : Pos} {scope : Scope} {te : TE} {k : Nat} {Q' : Value → Shared → Prop} {R : Hp → Prop}
    (hr : Room k X.A) (TB : GxR.TabB X.base X.mg c P) (hcode : X.env.code = .ref c) (S : GxR.GenS X.env scope x1) (hx2 : scope.names.lookup x2 = some .local) (hi : PE X iter te) (hel : EltI X scope x2 elt (fun _ y => y = .bool true))
    (hs : ∀ v, genFold iter X.env v = pure v) (I : Inv X pins σ H s) (h : te σ H fun v H1 => ∃ (a : Addr) (qs : List (Int × Int)), v = .ref a ∧ Pairs X.K H1 a qs ∧ GxR.TabG H1 P ∧ R H1)
    (hQ : ∀ H1 g s5, R H1 → (∃ (gn N : Nat) (Bd : Addr), GenAt2 X.prog X.w X.A.in1 g gn Bd N 0 s5 ∧ cStatics < Bd ∧ ∀ s', Mv2 Bd g gn s5 s' → ∃ H2, GxR.Tabbed P H1 H2 ∧ Inv X pins σ H2 s') → Q' (.ref g) s5)
    (hd : (x1 == ("__debug__" : Str)) = false := by decide) :
    wpAny (model X.prog X.w) X.A (eval (.GeneratorExp elt [⟨.Name x1 px1, iter, [], 0⟩, ⟨.Name x2 px2, .Name x1 px3, [], 0⟩] scope gpos) X.env) Q' X.xe s := by
  refine wpAny_GeneratorExp_make2 S.co (closure_ok S.free) S.cell S.dot S.kind (by have := hr.dp; omega) ?_ hs
  refine thn (hi.run pins s σ H _ I h) fun xv s1 ⟨v, H1, I1, r1, q1⟩ => ?_
  obtain ⟨a, qs, rfl, ⟨vs, hS, hvl, hvp⟩, ⟨ps, hP, ht⟩, q1⟩ := q1
  cases r1
  obtain ⟨its, rv, ⟨o0, n0, ho0, hc0, _, hd0⟩, hz⟩ := I1.list hS
  have hL : s1.heap.IsList a its.toArray := ⟨o0, ho0, hc0, n0, hd0⟩
  have hlt : a < s1.heap.objs.size := Heap.lt_size ho0
  have hlen : its.toArray.size = qs.length := by rw [List.size_toArray, ← rv.length, hvl]
  have hpair : ∀ j, j < its.toArray.size → ∃ (b : Addr) (t u : Tok) (q : Int × Int), its.toArray[j]? = some (.ref b) ∧ s1.heap.IsTuple b #[.int q.1 t, .int q.2 u] := fun j hj => by
    have hj' : j < qs.length := by rw [← hlen]; exact hj
    obtain ⟨b, e1, e2⟩ := hvp j _ (List.getElem?_eq_getElem hj')
    obtain ⟨u', hu, ru⟩ := rv.get e1
    obtain rfl : u' = Value.ref b := ru
    obtain ⟨its2, rv2, ⟨o2, ho2, hc2, n2, hd2⟩, _⟩ := I1.tuple e2
    cases rv2 with
    | cons r1 rr =>
      cases rr with
      | cons r2 rn =>
        cases rn
        obtain ⟨t1, rfl⟩ := r1
        obtain ⟨t2, rfl⟩ := r2
        exact ⟨b, t1, t2, qs[j], by simpa using hu, ⟨o2, ho2, hc2, n2, hd2⟩⟩
  refine wpAny_pyIter_list hL ?_
  have hPs : s1.heap.get? P = some { cls := .none, data := .fields ps } := I1.hok P _ hP
  have hPlt : P < s1.heap.objs.size := Heap.lt_size hPs
  let o : Obj := { cls := .type "list_iterator", data := .fields #[.ref a, .int 0 0] }
  show (s1.heap.push o).NoLimit ∧ _
  have hP2 : (s1.heap.push o).get? P = some { cls := .none, data := .fields ps } := Heap.get?_push_of_some _ hPs
  have cd : PySem.W.CodeHd (s1.heap.push o) c P := TB.code.keeps fun b u e => Heap.get?_push_of_some _ (I1.bk b u e)
  have lim2 : (s1.heap.push o).NoLimit := I1.nolimit.push o
  have cont : ∀ (code : Value) (h3 : Heap) (tk : Nat) (ps' : Array Value), Heap.ExtBut P (s1.heap.push o) h3 → (s1.heap.push o).objs.size ≤ h3.objs.size → h3.get? P = some { cls := .none, data := .fields ps' } → (∃ more, ps' = ps ++ more) → TriplesOk ps'.toList →
      wpAny (model X.prog X.w) X.A (builtinsFor X.env.globals X.env.builtins) (fun bi s₄ =>
        ∀ h', h'.Ns s₄.heap.objs.size (fun y => if y = ".0" then some (.ref s1.heap.objs.size) else none) → Heap.SameBut s₄.heap.objs.size (s₄.heap.push { cls := .type "frame", data := .dict #[] }) h' →
          Q' (.ref h'.objs.size) { s₄ with
            gens := s₄.gens.push (.fresh (.compStart (.GeneratorExp elt [⟨.Name x1 px1, iter, [], 0⟩, ⟨.Name x2 px2, .Name x1 px3, [], 0⟩] scope gpos) 0 (.ref s1.heap.objs.size) .none (genEnv scope (cloFrom X.env.cells scope.names []) s₄.heap.objs.size code bi X.env))),
            toks := s₄.toks + 1 + 1 + 1,
            heap := h'.push { cls := .type "generator", data := .fields #[.int s₄.gens.size 0, .str "<genexpr>" (s₄.toks + 1), .str (X.env.qual ++ "<genexpr>") (s₄.toks + 1 + 1)] } }) X.xe { s1 with heap := h3, toks := tk } := by
    intro code h3 tk ps' hx hsz hP3 hmore ht3
    obtain ⟨bm, ob, e1, e2, e3, e4, e5, e6, e7, e8⟩ := TB.bm
    have hcP : cStatics ≠ P := fun e => by
      obtain ⟨_, hns, _⟩ := I1.nolimit
      obtain ⟨o', es, ep, ho, hd, _⟩ := hns
      rw [e, hPs] at ho
      cases ho
      cases hd
    have hcl : cStatics < s1.heap.objs.size := let ⟨_, hns, _⟩ := I1.nolimit; hns.lt
    have sz2 : (s1.heap.push o).objs.size = s1.heap.objs.size + 1 := Heap.size_push ..
    have sz3 : s1.heap.objs.size + 1 ≤ h3.objs.size := by rw [← sz2]; exact hsz
    have keep3 : ∀ b u, b ≠ P → s1.heap.get? b = some u → h3.get? b = some u := fun b u hb e => hx b u hb (Heap.get?_push_of_some _ e)
    have glob3 : h3.Ns X.env.globals X.mg := by rw [I1.ok.glob]; exact ((I1.mod.glob.keeps I1.bk).push o).extBut hx TB.gP
    refine wpAny_builtinsFor (m := X.mg) glob3 e1 e2 (keep3 _ _ e4 (I1.bk _ _ e5)) e6 e7 e8 ?_
    intro h' hn' hs'
    have hsz' : h'.objs.size = h3.objs.size + 1 := by rw [hs'.1, Heap.size_push]
    let go : Obj := { cls := .type "generator", data := .fields #[.int s1.gens.size 0, .str "<genexpr>" (tk + 1), .str (X.env.qual ++ "<genexpr>") (tk + 1 + 1)] }
    have keep5 : ∀ b u, h3.get? b = some u → (h'.push go).get? b = some u := fun b u e => Heap.get?_push_of_some _ (hs'.extBut b u (Nat.ne_of_lt (Heap.lt_size e)) (Heap.get?_push_of_some _ e))
    refine hQ H1 _ _ q1 ⟨s1.gens.size, 2 * its.toArray.size, s1.heap.objs.size, ⟨⟨_, _, _, Heap.get?_push_size _ rfl, rfl, rfl, rfl⟩, (lim2.extBut hx hcP).keeps keep5, _, Array.getElem?_push_size .., fun s'' hal => ⟨rfl, ?_⟩⟩, hcl, fun s' hm => ?_⟩
    · have nP : X.base.get? P = none := by
        cases q : X.base.get? P with
        | none => rfl
        | some u =>
          have := (I1.bs P u q).2
          rw [hP] at this
          cases this
      have iC : s1.heap.objs.size ≠ h3.objs.size := Nat.ne_of_lt sz3
      have al2 : a ≠ P := fun e => by
        rw [e, hPs] at ho0
        cases ho0
        cases hc0
      have it3 : h3.IsListIter s1.heap.objs.size a 0 := ⟨_, hx _ _ (fun z => Nat.ne_of_lt hPlt z.symm) (Heap.get?_push_size _ rfl), rfl, rfl⟩
      refine seg_outS (A := X.A.in1.in1) (it3.at fun u e => hal _ u (keep5 _ u e)) ?_
      refine seg_out (A := X.A.in1.in1) (cenv := genEnv scope (cloFrom X.env.cells scope.names []) h3.objs.size code builtinsNs X.env) (x1 := x1) (x2 := x2) (Bd := s1.heap.objs.size) (items := its.toArray) (h0 := h'.push go) (El := fun v => ∃ (i : Int) (t : Tok), v = .int i t) (al := a) hr.hd S.loc hx2 S.kind (by simp [genEnv, S.kind]) S.co (Nat.ne_of_lt (Nat.lt_trans hlt sz3)) (Nat.ne_of_lt hlt) iC.symm (Nat.le_of_lt sz3) (Nat.le_refl _) ?_ ?_ ((hL.at fun u e => keep5 _ u (keep3 _ u al2 e))) ⟨_, Heap.get?_push_size _ rfl⟩ ?_ ?_ hd
        its.toArray.size 0 s'' s'' (fun y => if y = ".0" then some (.ref s1.heap.objs.size) else none) (Nat.sub_zero _) (Nat.zero_le _) (it3.at fun u e => hal _ u (keep5 _ u e)) ((hn'.push _).keeps hal) Since2.refl (fun b u _ _ e => hal b u e)
      · show h'.objs.size ≠ h3.objs.size
        omega
      · show h'.objs.size ≠ s1.heap.objs.size
        omega
      · intro i v hv
        obtain ⟨b, t, u, q, eb, hb⟩ := hpair i (Array.getElem?_eq_some_iff.mp hv).1
        rw [hv] at eb
        cases eb
        obtain ⟨o', ho', hc', r'⟩ := hb
        have lb := Heap.lt_size ho'
        have bP : b ≠ P := fun e => by
          rw [e, hPs] at ho'
          cases ho'
          cases hc'
        exact ⟨b, _, _, rfl, Nat.ne_of_lt (Nat.lt_trans lb sz3), Nat.ne_of_lt lb, ⟨o', keep5 _ _ (keep3 _ _ bP ho'), hc', r'⟩, ⟨_, _, rfl⟩, ⟨_, _, rfl⟩⟩
      · rintro A' E' v sb m₂ hA hD hU ⟨z, t, rfl⟩ hn hm hk
        have baseA : ∀ b u, X.base.get? b = some u → sb.heap.get? b = some u := fun b u e => by
          have e1 := I1.bk b u e
          have lb := Heap.lt_size e1
          exact hk b u (Nat.ne_of_lt (Nat.lt_trans lb sz3)) (Nat.ne_of_lt lb) (keep5 _ _ (keep3 _ _ (fun z => by rw [z, nP] at e; cases e) e1))
        obtain ⟨mb, hb1, hb2⟩ := I1.mod.blt
        exact hel _ A' E' z t sb m₂ rfl rfl rfl hA (Nat.le_trans hD (Nat.le_refl _)) (Nat.le_trans hU (by show X.A.in1.in1.units + 3 ≤ _; show X.A.units + 1 + 1 + 3 ≤ _; omega)) (I1.ok.mod.kin.keeps baseA) (I1.ok.mod.nolimit.keeps baseA) (I1.mod.glob.keeps baseA) ⟨mb, hb1.keeps baseA, hb2⟩ hn hm
    · obtain ⟨more, em⟩ := hmore
      have J := GxR.inv_tab (more := more) (h' := s'.heap) (g' := s'.gens) (d' := s'.drawn) (t' := s'.toks) I1 hP (fun b u hb e => hm.heap b u (.inl (Heap.lt_size e)) (keep5 b u (keep3 b u hb e)))
        (by rw [← em]; exact hm.heap P _ (.inl hPlt) (keep5 P _ hP3)) (AllBare.moved (I1.bare.push rfl) hm.gens)
      rw [show ({ s1 with heap := s'.heap, gens := s'.gens, drawn := s'.drawn, toks := s'.toks } : Shared) = s' from GxR.sh_eta s1 s' hm.os] at J
      exact ⟨upd H1 P (.tbl (ps ++ more)), ⟨⟨ps ++ more, upd_same, by rw [← em]; exact ht3⟩, fun b hb => upd_ne hb⟩, J⟩
  refine ⟨lim2, ?_⟩
  cases hf : codeAmong gpos ps.toList with
  | none =>
    refine wpAny_genexprCodeX hcode (cd.code hP2 ht) (cd.tab hP2) hf fun c' h' tk hx hge hlt hco' _ htab' _ => ?_
    obtain ⟨o1, vs, f1, tf, fl, tg, inF, tx, tt, op, _, _, _, _, _, _, _, _, _, htr, _⟩ := hco'
    exact cont _ h' tk _ hx (Nat.le_trans hge (Nat.le_of_lt hlt)) htab'.2 ⟨_, rfl⟩ htr
  | some cv =>
    refine wpAny_genexprCode_hit hcode (cd.code hP2 ht) hf ?_
    exact cont cv (s1.heap.push o) s1.toks ps (Heap.ExtBut.refl _ _) (Nat.le_refl _) hP2 ⟨#[], by simp⟩ ht
/-- all(test for x in e for y in x), e a list of pairs of ints, the test true of every int -/
def tAll2 (K : PySem.W.Frag) (T : Tb) (P : Addr) (te : TE) : TE := fun σ H Q => te σ H fun v H1 => ∃ (a : Addr) (qs : List (Int × Int)), v = .ref a ∧ Pairs K H1 a qs ∧ GxR.TabG H1 P ∧ (Ok T H1 ∧ ∀ H2, Sm T H1 H2 → Q (.bl true) H2)
theorem pe_all2 {T : Tb} {c P : Addr} {elt iter : Expr} {x1 x2 : Str} {px1 px2 px3 p pos gpos : Pos} {scope : Scope} {te : TE} {k : Nat} (hn : (T.map (·.1)).Nodup) (hPT : (P, (none : Option Str)) ∈ T)
    (hr : Room k X.A) (hg : Gl X "all") (hm : X.mg "all" = none) (hb : bootBuiltins "all" = some (.builtin "all")) (TB : GxR.TabB X.base X.mg c P) (hcode : X.env.code = .ref c) (S : GxR.GenS X.env scope x1) (hx2 : scope.names.lookup x2 = some .local) (hi : PE X iter te) (hel : EltI X scope x2 elt (fun _ y => y = .bool true))
    (hs : ∀ v, genFold iter X.env v = pure v)
    (he : starEach [.GeneratorExp elt [⟨.Name x1 px1, iter, [], 0⟩, ⟨.Name x2 px2, .Name x1 px3, [], 0⟩] scope gpos] X.env = (false, eval (.GeneratorExp elt [⟨.Name x1 px1, iter, [], 0⟩, ⟨.Name x2 px2, .Name x1 px3, [], 0⟩] scope gpos) X.env) :: starEach [] X.env := by rfl)
    (hd : (x1 == ("__debug__" : Str)) = false := by decide) :
    PE X (.Call (.Name "all" p) [.GeneratorExp elt [⟨.Name x1 px1, iter, [], 0⟩, ⟨.Name x2 px2, .Name x1 px3, [], 0⟩] scope gpos] [] pos) (tAll2 X.K T P te) := by
  refine ⟨fun pins s σ H Q I h => ?_⟩
  refine wpAny_Call_Name_kw (ld_blt I hg hm hb ?_)
  refine PyProof.Rows.callWith_builtin1 ?_ he (by rfl)
  rw [he]
  show wpAny _ _ (spliced ((false, eval (.GeneratorExp elt [⟨.Name x1 px1, iter, [], 0⟩, ⟨.Name x2 px2, .Name x1 px3, [], 0⟩] scope gpos) X.env) :: backTo pos (starEach [] X.env))) _ _ s
  refine Calls.spliced_cons (gen_two (R := fun H1 => Ok T H1 ∧ ∀ H2, Sm T H1 H2 → Q (.bl true) H2) hr TB hcode S hx2 hi hel hs I h (fun H1 g s5 hR hG => ?_) hd)
  obtain ⟨gn, N, Bd, hgen, hcs, hI⟩ := hG
  refine Calls.spliced_nil ?_
  refine call_all2 hr.hd (by show X.A.depth < _; have := hr.dp; omega) hcs hgen fun s' hmv => ?_
  obtain ⟨H2, hT, J⟩ := hI s' hmv
  exact ⟨.bl true, H2, J, rfl, hR.2 H2 (sm_tabbed hn hPT (hR.1 _ hPT) hT)⟩
/-- is_number(x) of an int -/
theorem elt_isn {X : Cx} {scope : Scope} {x : Str} {fn : Addr} {q0 q1 q4 : Pos} {k : Nat} (hr : Room k X.A) (N : NumAt X.K fn) (kN : PySem.W.keepIn X.K (.ref fn) = true) (gN : X.mg "is_number" = some (.ref fn)) (hglob : X.env.globals = mainGlobals)
    (mi : X.mg "isinstance" = none) (m1 : X.mg "int" = none) (m2 : X.mg "bool" = none) (hk : scope.kind = .function) (hl : scope.names.lookup x = some .local) (hf : scope.names.lookup ("is_number" : Str) = some .globalImplicit)
    (hd : (x == ("__debug__" : Str)) = false := by decide) :
    EltI X scope x (.Call (.Name "is_number" q0) [.Name x q1] [] q4) (fun _ y => y = .bool true) := by
  intro cenv A' E' i t s₂ m₂ hs hG hB hA hD hU KX hlim hg hbl hn hm
  obtain ⟨mb, hb, hbb⟩ := hbl
  have hk' : cenv.scope.kind = .function := by rw [hs]; exact hk
  have hl' : cenv.kindOf x = some .local := show cenv.scope.names.lookup x = some .local by rw [hs]; exact hl
  have hf' : cenv.kindOf "is_number" = some .globalImplicit := show cenv.scope.names.lookup ("is_number" : Str) = _ by rw [hs]; exact hf
  have hg' : s₂.heap.Ns cenv.globals X.mg := by rw [hG, hglob]; exact hg
  refine wpAny_Call_Name_kw (Calls.Name_function_global hk' hf' (Calls.loadGlobal_global hg' gN ?_))
  refine PySem.W.callWith_K (h₀ := s₂.heap) KX kN ?_ (by rfl) (by rfl)
  show wpAny _ _ (spliced ((false, eval (.Name x q1) cenv) :: [])) _ _ s₂
  refine Calls.spliced_cons (ldl hk' hl' hn hm (Calls.spliced_nil ⟨KX, ?_⟩) hd)
  exact num_call N KX hlim hg hb hbb mi m1 m2 (by have := hr.dp; omega) (fun s' hks => ⟨rfl, hks⟩)
end
end

/-! ### x(lambda: body), the tables kept -/
theorem sm_lam {T : Tb} {H H' : Hp} {P : Addr} {q : Str} (hn : (T.map (·.1)).Nodup) (hP : (P, some q) ∈ T) (ht : LamX.TabS H P q) (h1 : LamX.TabS H' P q) (h2 : ∀ b o, b ≠ P → H b = some o → H' b = some o) : Sm T H H' := by
  obtain ⟨ps, e, _⟩ := ht
  have ne : ∀ b o, H b = some o → nTbl o → b ≠ P := fun b o q n z => by
    rw [z, e] at q
    cases q
    exact n
  refine ⟨fun b o q n => h2 b o (ne b o q n) q, fun k p hp => ?_, fun l hl => ?_⟩
  · by_cases hb : p.1 = P
    · have ep : p = (P, some q) := by
        obtain ⟨i, hi, e1⟩ := List.getElem_of_mem hp
        obtain ⟨j, hj, e2⟩ := List.getElem_of_mem hP
        have hij : i = j := by
          have a1 : (T.map (·.1))[i]? = some P := by rw [List.getElem?_map, List.getElem?_eq_getElem hi, e1]; exact congrArg some hb
          have a2 : (T.map (·.1))[j]? = some P := by rw [List.getElem?_map, List.getElem?_eq_getElem hj, e2]; rfl
          exact nd_ix hn a1 a2
        subst hij
        rw [← e1, e2]
      rw [ep]
      exact h1
    · have z := k p hp
      obtain ⟨P', w⟩ := p
      have hb : P' ≠ P := hb
      cases w with
      | none =>
        obtain ⟨ps', a1, a2⟩ := (show GxR.TabG H P' from z)
        exact ⟨ps', h2 _ _ hb a1, a2⟩
      | some w =>
        obtain ⟨ps', a1, a2, a3⟩ := (show LamX.TabS H P' w from z)
        refine ⟨ps', h2 _ _ hb a1, a2, fun pos cv hc => ?_⟩
        obtain ⟨c, e1, e2⟩ := a3 pos cv hc
        exact ⟨c, e1, h2 c _ (ne c _ e2 (by unfold LamX.CodeO; trivial)) e2⟩
  · by_cases z : l = P
    · obtain ⟨ps', a1, _⟩ := h1
      rw [z, a1] at hl
      cases hl
    · cases q' : H l with
      | none => rfl
      | some o =>
        rw [h2 l o z q'] at hl
        cases hl
section
variable {X : Cx} {pins : List (Addr × Obj)} {σ : L2.St} {H : Hp} {s : Shared}
/-- the lambda is made: its code object is new, or found in the table; all else stays -/
theorem lam_make3 {c P : Addr} {params : Arguments} {body : Expr} {scope : Scope} {pos : Pos} {E : Value → Shared → Prop} {Q : Value → Shared → Prop} (I : Inv X pins σ H s) (TB : LamX.TabB X.base X.mg c P) (hcode : X.env.code = .ref c)
    (hT : LamX.TabS H P (X.env.qual ++ "<lambda>")) (hdef : defaultsOf params X.env = ([], [])) (hfree : ∀ y ∈ scope.names, y.2 = .free → ∃ c, X.env.cells.lookup y.1 = some c)
    (h : ∀ (f c' : Addr) (pm ctv : Value) (H1 : Hp) (s' : Shared), Inv X pins σ H1 s' → (∀ b o, b ≠ P → H b = some o → H1 b = some o) → LamX.TabS H1 P (X.env.qual ++ "<lambda>") →
      s'.heap.get? f = some (PySem.W.kla_obj "<lambda>" (X.env.qual ++ "<lambda>") params body scope (cloFrom X.env.cells scope.names []) pm c' ctv) → H1 f = none → f ∉ frs X.stack → H1 c' = some (LamX.CodeO c' (X.env.qual ++ "<lambda>")) → Q (.ref f) s') :
    wpAny (model X.prog X.w) X.A (eval (.Lambda params body scope pos) X.env) Q E s := by
  obtain ⟨ps, hP, ht, ha⟩ := hT
  refine PySem.W.kla_eval hdef ?_
  have bP : s.heap.BuiltinsAt X.mg P := TB.bm.keeps I.bk
  have hP' : s.heap.get? P = some { cls := .none, data := .fields ps } := I.hok P _ hP
  have nofr : ∀ f, s.heap.objs.size ≤ f → f ∉ frs X.stack := fun f hf z => by
    rcases List.mem_cons.mp (I.stkSub _ z) with e | e
    · have h1 := I.lt
      rw [← e] at h1
      exact Nat.lt_irrefl _ (Nat.lt_of_lt_of_le h1 hf)
    · exact I.nofs hf e
  cases hc : codeAmong pos ps.toList with
  | none =>
    refine PySem.W.kla_makeFunction (mg := X.mg) (c := c) (P := P) (ps := ps) (closure_ok hfree) I.ok.glob (I.mod.glob.keeps I.bk) hcode (TB.code.keeps I.bk) hP' ht hc TB.gP bP fun c' ctv h' tk hx hge hlt hrec htb => ?_
    obtain ⟨c2, oc, vs, t, e2, hoc, hd, hv⟩ := hrec
    cases e2
    have hsz : s.heap.objs.size ≤ h'.objs.size := Nat.le_trans hge (Nat.le_of_lt hlt)
    have nC : H c' = none := I.hok.fresh hge
    have I1 := LamX.inv_table (t' := tk) (more := #[rawInt pos.line, rawInt pos.col, .ref c']) (h' := h'.push (PySem.W.kla_obj "<lambda>" (X.env.qual ++ "<lambda>") params body scope (cloFrom X.env.cells scope.names []) ((X.mg "__name__").getD .none) c' ctv)) I hP
      (fun b o hb e => Heap.get?_push_of_some _ (hx b o hb e)) (Heap.get?_push_of_some _ htb) hge ⟨oc, vs, t, Heap.get?_push_of_some _ hoc, hd, hv⟩
    have hE : ∀ b o, b ≠ P → H b = some o → upd (upd H P (.tbl (ps ++ #[rawInt pos.line, rawInt pos.col, .ref c']))) c' (LamX.CodeO c' (X.env.qual ++ "<lambda>")) b = some o := fun b o hb e => by
      rw [upd_ne (ne_of_none e nC), upd_ne hb]
      exact e
    have eL : (ps ++ #[rawInt pos.line, rawInt pos.col, .ref c']).toList = ps.toList ++ [rawInt pos.line, rawInt pos.col, .ref c'] := by simp
    refine h h'.objs.size c' ((X.mg "__name__").getD .none) ctv _ _ I1 hE ?_ (Heap.get?_push_size _ rfl) ?_ (nofr _ hsz) upd_same
    · refine ⟨_, by rw [upd_ne (ne_of_none hP nC), upd_same], by rw [eL]; exact PySem.TriplesOk_snoc _ _ _ _ ht, fun p' cv hcv => ?_⟩
      rw [eL] at hcv
      rcases LamX.among_app _ ht hcv with z | z
      · obtain ⟨c0, e1, e2⟩ := ha p' cv z
        refine ⟨c0, e1, hE _ _ (fun z => ?_) e2⟩
        rw [z, hP] at e2
        unfold LamX.CodeO at e2
        cases e2
      · exact ⟨c', z, upd_same⟩
    · have n1 : h'.objs.size ≠ c' := Nat.ne_of_gt hlt
      have n2 : h'.objs.size ≠ P := Nat.ne_of_gt (Nat.lt_of_lt_of_le (Heap.lt_size hP') hsz)
      rw [upd_ne n1, upd_ne n2]
      exact I.hok.fresh hsz
  | some cv =>
    obtain ⟨c', e, hco⟩ := ha pos cv hc
    subst e
    refine PySem.W.kla_makeFunctionHit (mg := X.mg) (c := c) (P := P) (ps := ps) (closure_ok hfree) I.ok.glob (I.mod.glob.keeps I.bk) hcode (TB.code.keeps I.bk) hP' ht hc bP fun ctv h' tk hx hsz => ?_
    have I1 : Inv X pins σ H { s with heap := h'.push (PySem.W.kla_obj "<lambda>" (X.env.qual ++ "<lambda>") params body scope (cloFrom X.env.cells scope.names []) ((X.mg "__name__").getD .none) c' ctv), toks := tk } := I.kept fun b o e => Heap.get?_push_of_some _ (hx b o e)
    exact h h'.objs.size c' ((X.mg "__name__").getD .none) ctv H _ I1 (fun _ _ _ e => e) ⟨ps, hP, ht, ha⟩ (Heap.get?_push_size _ rfl) (I.hok.fresh hsz) (nofr _ hsz) hco
/-- the def that is given the lambda: as LamX.GivesTo -/
def tLm (T : Tb) (P : Addr) (q : Str) (TT : (XK → Hp → VK → Prop) → Hp → VK → Prop) (t : XK → TE) : TE := fun σ H Q => LamX.TabS H P q ∧ ∀ H1, Sm T H H1 → TT (fun E H' Q' => t E σ H' Q') H1 Q
theorem pe_lam {T : Tb} {TT : (XK → Hp → VK → Prop) → Hp → VK → Prop} {x a : Str} {g c P : Addr} {k : Nat} {pg : Arguments} {bg : List Stmt} {sg : Scope} {dV kV doc pm cdv ct oc : Value} {an od : Option Addr} {osl : Array (Option Value)} {Ng : List Str}
    {params : Arguments} {body : Expr} {scope : Scope} {t : XK → TE} {p lpos pos : Pos} (hn : (T.map (·.1)).Nodup) (hg : Gl X x) (hm : X.mg x = some (.ref g)) (hk : PySem.W.keepIn X.K (.ref g) = true)
    (lk : X.K.lookup g = some ⟨oc, od, .func (PySem.W.fnOf x x pg bg sg dV kV doc pm an cdv ct), osl⟩) (hcg : PySem.W.codeIn X.K cdv x = true) (hb : L2.Binds X.K (PySem.W.fnOf x x pg bg sg dV kV doc pm an cdv ct) [a] []) (Sg : FnScope Ng [a] sg) (hNg : Ng[0]? = some a) (hva : Vis sg a)
    (hG : LamX.GivesTo X Ng x sg g cdv bg a (X.env.qual ++ "<lambda>") TT)
    (TB : LamX.TabB X.base X.mg c P) (hcode : X.env.code = .ref c) (hmT : (P, some (X.env.qual ++ "<lambda>")) ∈ T) (hr : Room (k + 2) X.A) (L : LamX.LamS X.env.scope scope) (hdef : defaultsOf params X.env = ([], []))
    (hbind : ∀ (q : Str) (cl : List (Str × Addr)) (pm cv ctv : Value), bindArgs (PySem.W.kla_fn "<lambda>" q params body scope cl pm cv ctv) ⟨[], []⟩ = pure [])
    (hbody : ∀ (A : Around) (outer : List Env) (s : Shared) (H : Hp) (E : XK) (f c' : Addr), Room k (A.deeper (LamX.lamEnv X scope s.heap.objs.size f c')) → PE (LamX.lamCx X A outer s H E scope f c') body (t E))
    (hdb : (x == ("__debug__" : Str)) = false := by decide) (hd : (a == ("__debug__" : Str)) = false := by decide) (hcd : (a == ("__classdict__" : Str)) = false := by decide) :
    PE X (.Call (.Name x p) [.Lambda params body scope lpos] [] pos) (tLm T P (X.env.qual ++ "<lambda>") TT t) := by
  refine ⟨fun pins s σ H Q I h => ?_⟩
  obtain ⟨hT, h⟩ := h
  refine wpAny_Call_Name_kw (ld_glob I hg hm ?_ hdb)
  refine PySem.W.callWith_K (h₀ := X.base) I.ok.mod.kin hk ?_ (by rfl) (by rfl)
  show wpAny _ _ (spliced ((false, eval (.Lambda params body scope lpos) X.env) :: backTo pos (starEach [] X.env))) _ _ s
  refine Calls.spliced_cons (lam_make3 I TB hcode hT hdef (L.has I.ok) fun f c' pm' ctv H1 s' I1 eN T1 hf hfn hfr hco => ?_)
  refine Calls.spliced_nil ⟨I1.kIn, ?_⟩
  have rc : codeAny (model X.prog X.w) X.A (.call (.ref g) ⟨[.ref f], []⟩) (CR C8.CX0 X.stack X.prog X.w H1 s' Q C8.E0) s' := by
    refine LamX.run_ofS (N := Ng) (ps := [a]) (us := [.ref f]) (vs := [.ref f]) lk hcg Sg hr I1.env0 (hb s' [.ref f] I1.kIn rfl) (.cons rfl .nil) rfl fun hr' => ?_
    obtain ⟨t', ht', hq'⟩ := hG f c' s' H1 Q (fun E H' Q' => t E σ H' Q') (fun W pn xe E p1 p2 tk hW => LamX.pe_act (i := 0) I1 L hf hfn hfr (hbind _ _ _ _ _) tk hW hr' (fun A outer s H hr2 => hbody A outer s H E f c' hr2) hNg hva hd hcd) hco (h H1 (sm_lam hn hmT hT T1 eN))
    exact ⟨t', ht'.nox, hq'⟩
  refine wpAny_call (codeAny_mono rc fun r s2 hq => ?_)
  cases r with
  | error e => exact (show False from hq).elim
  | ok fl =>
    cases fl with
    | ret u => exact I1.after hq
    | next => exact False.elim hq
    | brk => exact False.elim hq
    | cont => exact False.elim hq
/-- word(asked): try: return ("told", asked()) / except PailError as e: return (e.word,) -/
def TTw (K : PySem.W.Frag) (CP : Addr) : (XK → Hp → VK → Prop) → Hp → VK → Prop := fun tl H Q =>
  tl (fun cls d H' => ∃ word, Rf K CP word cls d H' ∧ ∀ p, H' p = none → Q (.ref p) (upd H' p (.tup [.str word]))) H (fun v H' => ([V.str "told", v] : List V).length ≤ sizeLine ∧ ∀ p, H' p = none → Q (.ref p) (upd H' p (.tup [.str "told", v])))
theorem word_gives {x a e n q : Str} {sg : Scope} {g CP : Addr} {cdg : Value} {Ng : List Str} {i j0 j1 j2 : Nat} {p1 p2 p3 p4 p5 p6 p7 p8 p9 q1 q2 q3 : Pos} (hnd : Ng.Nodup) (hi : Ng[i]? = some n) (hln : sg.names.lookup n = some .local) (hge : sg.names.lookup e = some .globalImplicit) (hme : X.mg e = some (.ref CP)) (hde : (e == ("__debug__" : Str)) = false)
    (hdn : (n == ("__debug__" : Str)) = false) (hcn : (n == ("__classdict__" : Str)) = false) (hlen : ∀ f : Addr, (L2.start Ng [V.ref f])[0]? = some (some (V.ref f))) :
    LamX.GivesTo X Ng x sg g cdg [.Try [.Return (some (.Tuple [.Constant (.str "told") j0 p1, .Call (.Name a p2) [] [] p3] j1 p4)) p5] [.ExceptHandler (some (.Name e p6)) (some n) [.Return (some (.Tuple [.Attribute (.Name n q1) "word" q2] j2 q3)) p7] p8] [] [] p9] a q (TTw X.K CP) := by
  intro f c' s H Q tl act hc h
  have hgl : Gl (cxOf C8.CX0 X.prog X.w X.K X.mg X.base Ng x sg g cdg X.A X.stack s H C8.E0).nox e := hge
  refine ⟨_, pss_one (ps_try_as (X := (cxOf C8.CX0 X.prog X.w X.K X.mg X.base Ng x sg g cdg X.A X.stack s H C8.E0).nox) (i := i) (c := .ref CP)
      (tb := fun W D σ H => ∃ Ech : XK, (∀ cls d (σ' : L2.St) H', Ech cls d H' → σ'.length = Ng.length → W cls d σ' H') ∧ σ[0]? = some (some (.ref f)) ∧ H c' = some (LamX.CodeO c' q) ∧ tl Ech H (fun v H' => ([V.str "told", v] : List V).length ≤ sizeLine ∧ ∀ p, H' p = none → D.rt (.ref p) (upd H' p (.tup [.str "told", v]))))
      (ts := fun b cls d => tRet (tTup (tCons (tXw X.K b cls d (tVar i)) tNil)))
      rfl rfl hnd hi hln ⟨hgl, hde, .inl hme⟩ LamX.takes0 (fun W pn xe tk _ => ?_) (fun b oe cls d pn hz hf => pss_one (ps_ret (pe_tup (pa_cons (pe_xw hz hf (pe_var hi (.inl hln) hdn hcn)) pa_nil))))), ?_⟩
  · refine ⟨fun pins s' σ H' D I h' => ?_⟩
    obtain ⟨Ech, hW, h1, h2, h3⟩ := h'
    have tk2 : Takes ((cxOf C8.CX0 X.prog X.w X.K X.mg X.base Ng x sg g cdg X.A X.stack s H C8.E0).tr pn xe) (fun cls d σ' H' => σ'.length = Ng.length → W cls d σ' H') :=
      fun u s' ⟨a, B, sI, pins, σ, H, cls, d, e, I, nb, up, sky, na, os, ag, w⟩ => tk u s' ⟨a, B, sI, pins, σ, H, cls, d, e, I, nb, up, sky, na, os, ag, w I.len⟩
    have hp := act _ pn xe Ech p2 p3 tk2 (fun cls d σ' H' he hl => hW cls d σ' H' he hl)
    have hq := pss_one (ps_ret (pos := p5) (pe_tup (x1 := j1) (pos := p4) (pa_cons (pe_str (x := "told") (j := j0) (pos := p1)) (pa_cons hp pa_nil))))
    exact hq.run pins s' σ H' D I ⟨h1, h2, h3⟩
  · refine ⟨fun cls d H' => ∃ word, Rf X.K CP word cls d H' ∧ ∀ p, H' p = none → Q (.ref p) (upd H' p (.tup [.str word])), fun cls d σ' H' hE hl => ?_, hlen f, hc, h⟩
    obtain ⟨word, ⟨C, dd, rfl, rfl, xf, nw, ex, hdd⟩, hq⟩ := hE
    refine ⟨true, ex, fun _ b hb => ?_, fun z => by cases z⟩
    have hil : i < σ'.length := by
      rw [hl]
      exact (List.getElem?_eq_some_iff.mp hi).1
    exact ⟨.ref b, List.getElem?_set_self hil, rfl, C, dd, .str word, rfl, xf, nw, rfl, hdd, by show 1 ≤ sizeLine; decide, fun p hp => hq p hp⟩
end
/-- the law's own word: what a call tells, or the word of its refusal -/
structure Word (K : PySem.W.Frag) (mg : Str → Option Value) (CP : Addr) : Prop where
  ex : ∃ (g : Addr) (fd : FuncData), Fun K "_law_word" "_law_word" s_l_word g fd ∧ mg "_law_word" = some (.ref g) ∧ Binds K fd ["_law_asked"] [] ∧ mg "PailError" = some (.ref CP)
theorem pe_word {X : Cx} {T : Tb} {CP c P : Addr} {k : Nat} {params : Arguments} {body : Expr} {scope : Scope} {t : XK → TE} {p lpos pos : Pos} (W : Word X.K X.mg CP) (hn : (T.map (·.1)).Nodup) (hg : Gl X "_law_word") (TB : LamX.TabB X.base X.mg c P) (hcode : X.env.code = .ref c)
    (hmT : (P, some (X.env.qual ++ "<lambda>")) ∈ T) (hr : Room (k + 2) X.A) (L : LamX.LamS X.env.scope scope) (hdef : defaultsOf params X.env = ([], []))
    (hbind : ∀ (q : Str) (cl : List (Str × Addr)) (pm cv ctv : Value), bindArgs (PySem.W.kla_fn "<lambda>" q params body scope cl pm cv ctv) ⟨[], []⟩ = pure [])
    (hbody : ∀ (A : Around) (outer : List Env) (s : Shared) (H : Hp) (E : XK) (f c' : Addr), Room k (A.deeper (LamX.lamEnv X scope s.heap.objs.size f c')) → PE (LamX.lamCx X A outer s H E scope f c') body (t E)) :
    PE X (.Call (.Name "_law_word" p) [.Lambda params body scope lpos] [] pos) (tLm T P (X.env.qual ++ "<lambda>") (TTw X.K CP) t) := by
  obtain ⟨g, fd, F, hm, hb, hP⟩ := W.ex
  have kp := F.kp
  obtain ⟨oc, od, kV, doc, pm, an, cdv, ct, osl, rfl, lk, hcg⟩ := F.ex
  exact pe_lam hn hg hm kp lk hcg hb sc_l_word rfl (.inl rfl) (word_gives (i := 1) (n := "e") (e := "PailError") (a := "_law_asked") sc_l_word.nd rfl rfl rfl hP (by decide) (by decide) (by decide) (fun _ => rfl)) TB hcode hmT hr L hdef hbind hbody

/-! ### zip of three lists -/
def It3 (K : PySem.W.Frag) (a b c : Addr) : It :=
  ⟨fun i H => ∃ (us vs ws : List V) (x y z : V), (SqL K H a us ∧ SqL K H b vs ∧ SqL K H c ws) ∧ us[i]? = some x ∧ vs[i]? = some y ∧ ws[i]? = some z,
    fun i H v H' => ∃ Tt x y z, v = .ref Tt ∧ H Tt = none ∧ H' = upd H Tt (.tup [x, y, z]) ∧ (∀ us, SqL K H a us → us[i]? = some x) ∧ (∀ vs, SqL K H b vs → vs[i]? = some y) ∧ ∀ ws, SqL K H c ws → ws[i]? = some z,
    fun i H => ∃ us vs ws : List V, SqL K H a us ∧ SqL K H b vs ∧ SqL K H c ws ∧ min (min us.length vs.length) ws.length = i⟩
theorem turn3 {P : Program} {w : World} {K : PySem.W.Frag} {elts : List Expr} {kk : Nat} {tpos : Pos} {a b c z TI TO j1 j2 j3 : Addr} (S : ZipSep3 z TI TO j1 j2 j3 [j1, a] [j2, b] [j3, c]) (ha : a ≠ j1) (hb : b ≠ j2) (hc3 : c ≠ j3) :
    Turn P w K (.Tuple elts kk tpos) (It3 K a b c) [z, TI, TO, j1, j2, j3] z (fun i h => IsZip h z TI TO .none ∧ IsTupOf3 h TI (.ref j1) (.ref j2) (.ref j3) ∧ (∃ x y u, IsTupOf3 h TO x y u) ∧ h.IsListIter j1 a i ∧ h.IsListIter j2 b i ∧ h.IsListIter j3 c i) where
  mem := by simp
  obj := fun i h st d hd => by
    obtain ⟨hz, hTI, ⟨x, y, u, hTO⟩, ⟨o1, e1, _, d1⟩, ⟨o2, e2, _, d2⟩, ⟨o3, e3, _, d3⟩⟩ := st
    have e' : d = z ∨ d = TI ∨ d = TO ∨ d = j1 ∨ d = j2 ∨ d = j3 := by simpa using hd
    rcases e' with rfl | rfl | rfl | rfl | rfl | rfl
    · exact ⟨_, hz, fun v q => nomatch q⟩
    · exact ⟨_, hTI, fun v q => nomatch q⟩
    · exact ⟨_, hTO, fun v q => nomatch q⟩
    · exact ⟨o1, e1, fun v q => by rw [d1] at q; cases q⟩
    · exact ⟨o2, e2, fun v q => by rw [d2] at q; cases q⟩
    · exact ⟨o3, e3, fun v q => by rw [d3] at q; cases q⟩
  keep := fun i h h' st k => by
    obtain ⟨hz, hTI, ⟨x, y, u, hTO⟩, h1, h2, h3⟩ := st
    exact ⟨k z (by simp) _ hz, k TI (by simp) _ hTI, ⟨x, y, u, k TO (by simp) _ hTO⟩, h1.at fun o q => k j1 (by simp) o q, h2.at fun o q => k j2 (by simp) o q, h3.at fun o q => k j3 (by simp) o q⟩
  item := by
    intro X hP hw hK hc i pins s σ H E I hf st hg
    subst hP hw hK
    obtain ⟨hz, hTI, hTO, h1, h2, h3⟩ := st
    obtain ⟨us, vs, ws, x, y, u, ⟨hqx, hqy, hqu⟩, hx, hy, hu⟩ := hg
    obtain ⟨its1, rv1, p1, _⟩ := I.list hqx
    obtain ⟨its2, rv2, p2, _⟩ := I.list hqy
    obtain ⟨its3, rv3, p3, _⟩ := I.list hqu
    obtain ⟨m1, g1, r1⟩ := rv1.get hx
    obtain ⟨m2, g2, r2⟩ := rv2.get hy
    obtain ⟨m3, g3, r3⟩ := rv3.get hu
    have hh : X.A.in1.handled = none := I.ok.hd hc
    have W := WalksT.zipD3 (prog := X.prog) (w := X.w) (A := X.A) S (Draws.list hh j1 a ha its1.toArray) (Draws.list hh j2 b hb its2.toArray) (Draws.list hh j3 c hc3 its3.toArray)
    have lt1 : i < its1.length := (List.getElem?_eq_some_iff.mp g1).1
    have lt2 : i < its2.length := (List.getElem?_eq_some_iff.mp g2).1
    have lt3 : i < its3.length := (List.getElem?_eq_some_iff.mp g3).1
    refine W.item i s _ _ (by simp only [List.size_toArray]; omega) ⟨hz, hTI, hTO, ⟨h1, p1.isList⟩, ⟨h2, p2.isList⟩, ⟨h3, p3.isList⟩⟩ fun Tt vals h' tk hPt hge hT hM hk => ⟨_, rfl, W.go elts kk tpos i Tt _ _ _ hM fun h'' hSt hk2 => ?_⟩
    obtain ⟨n1, n2, n3, f1, f2, f3, rfl⟩ := hPt
    have q1 : n1 = m1 := by have f : its1[i]? = some n1 := by simpa using f1
                            rw [g1] at f; exact (Option.some.inj f).symm
    have q2 : n2 = m2 := by have f : its2[i]? = some n2 := by simpa using f2
                            rw [g2] at f; exact (Option.some.inj f).symm
    have q3 : n3 = m3 := by have f : its3[i]? = some n3 := by simpa using f3
                            rw [g3] at f; exact (Option.some.inj f).symm
    subst q1 q2 q3
    have hT2 := hT.at fun o e => hk2 Tt o (W.apart _ _ _ hM) e
    have new : ObjOk X.prog X.w (upd H Tt (.tup [x, y, u])) h'' Tt (.tup [x, y, u]) := ⟨by show 3 ≤ sizeLine; decide, [n1, n2, n3], .cons r1 (.cons r2 (.cons r3 .nil)), hT2⟩
    have nin : ∀ d, d ∉ [z, TI, TO, j1, j2, j3] → d ∉ [z, TO, j1, j2, j3] := fun d hd hm => hd (by
      have : d = z ∨ d = TO ∨ d = j1 ∨ d = j2 ∨ d = j3 := by simpa using hm
      rcases this with rfl | rfl | rfl | rfl | rfl <;> simp)
    have I1 := I.turnedNew (t' := tk) (h' := h'') (ch := [z, TI, TO, j1, j2, j3]) (fun d o hd q => hk2 d o (nin d hd) (hk d o (nin d hd) q)) hf hge new
    obtain ⟨s1, s2, s3, s4, s5, s6⟩ := hSt
    refine ⟨.ref Tt, _, I1, rfl, ⟨Tt, x, y, u, rfl, I.hok.fresh hge, rfl, fun l hl => by rw [I.list_inj hl hqx]; exact hx, fun l hl => by rw [I.list_inj hl hqy]; exact hy, fun l hl => by rw [I.list_inj hl hqu]; exact hu⟩, ⟨s1, s2, s3, s4.1, s5.1, s6.1⟩, fun d hd => ?_⟩
    have hlt : d < s.heap.objs.size := by
      have e' : d = z ∨ d = TI ∨ d = TO ∨ d = j1 ∨ d = j2 ∨ d = j3 := by simpa using hd
      obtain ⟨x0, y0, u0, hTO⟩ := hTO
      rcases e' with rfl | rfl | rfl | rfl | rfl | rfl
      · exact Heap.lt_size hz
      · exact Heap.lt_size hTI
      · exact Heap.lt_size hTO
      · obtain ⟨_, e1, _⟩ := h1; exact Heap.lt_size e1
      · obtain ⟨_, e1, _⟩ := h2; exact Heap.lt_size e1
      · obtain ⟨_, e1, _⟩ := h3; exact Heap.lt_size e1
    rw [upd_ne (Nat.ne_of_lt (Nat.lt_of_lt_of_le hlt hge))]
    exact (hf d hd).1
  done := by
    intro X hP hw hK hc i pins s σ H E I hf st hg
    subst hP hw hK
    obtain ⟨hz, hTI, hTO, h1, h2, h3⟩ := st
    obtain ⟨us, vs, ws, hqx, hqy, hqu, hend⟩ := hg
    obtain ⟨its1, rv1, p1, _⟩ := I.list hqx
    obtain ⟨its2, rv2, p2, _⟩ := I.list hqy
    obtain ⟨its3, rv3, p3, _⟩ := I.list hqu
    have hh : X.A.in1.handled = none := I.ok.hd hc
    have W := WalksT.zipD3 (prog := X.prog) (w := X.w) (A := X.A) S (Draws.list hh j1 a ha its1.toArray) (Draws.list hh j2 b hb its2.toArray) (Draws.list hh j3 c hc3 its3.toArray)
    have l1 := rv1.length
    have l2 := rv2.length
    have l3 := rv3.length
    have en : min (min its1.toArray.size its2.toArray.size) its3.toArray.size = i := by simp only [List.size_toArray]; omega
    refine W.done s _ _ (by rw [en]; exact ⟨hz, hTI, hTO, ⟨h1, p1.isList⟩, ⟨h2, p2.isList⟩, ⟨h3, p3.isList⟩⟩) fun h' tk hk => ⟨rfl, I.turnedL (t' := tk) (ch := [z, TI, TO, j1, j2, j3]) (fun d o hd q => hk d o (fun hm => hd ?_) q) hf⟩
    have : d = z ∨ d = TO ∨ d = j1 ∨ d = j2 ∨ d = j3 := by simpa using hm
    rcases this with rfl | rfl | rfl | rfl | rfl <;> simp
  self := fun A i s Q E st h => wpAny_pyIter_zip st.1 h
def iZip3 (K : PySem.W.Frag) (ta : TA) : TI := fun σ H R => ta σ H fun xs H1 => ∃ a b c us vs ws, xs = [.ref a, .ref b, .ref c] ∧ SqL K H1 a us ∧ SqL K H1 b vs ∧ SqL K H1 c ws ∧ R (It3 K a b c) H1
theorem pi_zip3 {X : Cx} {e e2 e3 : Expr} {ta : TA} {p pos tpos : Pos} {elts : List Expr} {kk : Nat} (hg : Gl X "zip") (hm : X.mg "zip" = none) (ha : PA X [e, e2, e3] ta)
    (hs : starEach [e, e2, e3] X.env = (false, eval e X.env) :: starEach [e2, e3] X.env := by rfl) (hpl : (backTo pos (starEach [e2, e3] X.env)).any (·.1) = false := by rfl) :
    PI X (.Tuple elts kk tpos) (.Call (.Name "zip" p) [e, e2, e3] [] pos) (iZip3 X.K ta) := by
  refine ⟨fun pins s σ H R I h => Call_ (ld_blt I hg hm PyProof.Rows.boot_zip (PyProof.Rows.callWith_type1 (thn (ha.run pos pins s σ H _ I h) fun us s1 ⟨vs, H1, I1, r1, q1⟩ => ?_) hs hpl))⟩
  obtain ⟨a, b, c, as, bs, cs, ex, hqx, hqy, hqu, q⟩ := q1
  subst ex
  cases r1 with
  | cons r rr =>
    cases rr with
    | cons r' rr =>
      cases rr with
      | cons r'' rr =>
        cases rr
        cases r
        cases r'
        cases r''
        obtain ⟨its1, rv1, p1, _⟩ := I1.list hqx
        obtain ⟨its2, rv2, p2, _⟩ := I1.list hqy
        obtain ⟨its3, rv3, p3, _⟩ := I1.list hqu
        have la : a < s1.heap.objs.size := p1.lt
        have lb : b < s1.heap.objs.size := p2.lt
        have lc : c < s1.heap.objs.size := p3.lt
        refine zip_begins3 (begins_list a its1.toArray) (begins_list b its2.toArray) (begins_list c its3.toArray) p1.isList p2.isList p3.isList fun h' hz hTI hTO h1 h2 h3 hsz hk => wpAny_pyIter_zip hz ?_
        have I2 : Inv X pins σ H1 { s1 with heap := h' } := I1.kept (t' := s1.toks) hk
        have one : ∀ d : Addr, d < s1.heap.objs.size → ∀ e ∈ [d], e < s1.heap.objs.size := fun d hd e he => by rw [List.mem_singleton.mp he]; exact hd
        refine ⟨_, [s1.heap.objs.size + 5, s1.heap.objs.size + 3, s1.heap.objs.size + 4, s1.heap.objs.size, s1.heap.objs.size + 1, s1.heap.objs.size + 2], _, _, H1, rfl, I2, turn3 (zip_sep3 (one a la) (one b lb) (one c lc)) (Nat.ne_of_lt la) (Nat.ne_of_lt (Nat.lt_succ_of_lt lb)) (Nat.ne_of_lt (Nat.lt_add_right 2 lc)), ⟨hz, hTI, ⟨_, _, _, hTO⟩, ⟨_, h1, rfl, rfl⟩, ⟨_, h2, rfl, rfl⟩, ⟨_, h3, rfl, rfl⟩⟩, fun d hd => ?_, q⟩
        have hle : s1.heap.objs.size ≤ d := by
          have e' : d = s1.heap.objs.size + 5 ∨ d = s1.heap.objs.size + 3 ∨ d = s1.heap.objs.size + 4 ∨ d = s1.heap.objs.size ∨ d = s1.heap.objs.size + 1 ∨ d = s1.heap.objs.size + 2 := by simpa using hd
          rcases e' with z | z | z | z | z | z <;> rw [z] <;> first | exact Nat.le_refl _ | exact Nat.le_add_right _ _
        exact I1.fpOk hle (I1.hok.fresh hle)
/-- each turn's three in a new tuple -/
def YTri (us vs ws : List V) : Nat → Hp → V → Hp → Prop := fun i H v H' => ∃ Tt x y z, v = .ref Tt ∧ H Tt = none ∧ H' = upd H Tt (.tup [x, y, z]) ∧ us[i]? = some x ∧ vs[i]? = some y ∧ ws[i]? = some z
theorem walk_zip3 {K : PySem.W.Frag} {a b c : Addr} {us vs ws : List V} {n : Nat} (hn : n = min (min us.length vs.length) ws.length) : Walk (It3 K a b c) n (fun H => SqL K H a us ∧ SqL K H b vs ∧ SqL K H c ws) (YTri us vs ws) := by
  subst hn
  refine ⟨fun i _ hi q => ?_, fun _ q => ⟨us, vs, ws, q.1, q.2.1, q.2.2, rfl⟩, fun i H v H' _ q y => ?_⟩
  · have h1 : i < us.length := by omega
    have h2 : i < vs.length := by omega
    have h3 : i < ws.length := by omega
    exact ⟨us, vs, ws, us[i], vs[i], ws[i], q, by simp [h1], by simp [h2], by simp [h3]⟩
  · obtain ⟨Tt, x, z, u, h1, h2, h3, h4, h5, h6⟩ := y
    exact ⟨Tt, x, z, u, h1, h2, h3, h4 us q.1, h5 vs q.2.1, h6 ws q.2.2⟩

/-! ### one own class: fields, methods, making -/
section
variable {X : Cx} {C : Addr} {f : Str} {e o value : Expr} {te ta tv : TE} {pos pos' apos p : Pos}
def tFc (C : Addr) (te : TE) (f : Str) : TE := fun σ H Q => te σ H fun x H1 => ∃ a dx fs v, x = .ref a ∧ H1 a = some (.ins C dx fs) ∧ fs.lookup f = some v ∧ Q v H1
theorem pe_fc (c : Cls X.K C) (n : NoAttr X.K C f) (he : PE X e te) (hb : attributeBase e f X.env (eval e X.env) = eval e X.env := by rfl) : PE X (.Attribute e f pos) (tFc C te f) := by
  refine ⟨fun pins s σ H Q I h => attr_of hb (thn (he.run pins s σ H _ I h) fun u s1 hh => ?_)⟩
  obtain ⟨x, H1, I1, rx, a, dx, fs, v, ex, ea, l, q⟩ := hh
  subst ex
  obtain rfl : u = Value.ref a := rx
  exact getattr_ok I1 ea c n l fun u' s2 I2 ru => ⟨v, H1, I2, ru, q⟩
def sFc (C : Addr) (ta tv : TE) (f : Str) : TS := fun D σ H => tv σ H fun y H1 => ta σ H1 fun x H2 => ∃ a dx fs, x = .ref a ∧ H2 a = some (.ins C dx fs) ∧ fs.length < 1000 ∧ D.nx σ (upd H2 a (.ins C dx (putF f y fs)))
theorem ps_fc (c : Cls X.K C) (n : NoAttr X.K C f) (ha : PE X o ta) (hv : PE X value tv) (hs : swapsWith value (some (.Attribute o f pos')) pos.line X.env = pure false := by rfl) : PS X (.Assign [.Attribute o f pos'] value pos) (sFc C ta tv f) := by
  refine ⟨fun pins s σ H D I h => plainObj_wpAny_Assign_Attribute (thn (hv.run pins s σ H _ I h) fun u s1 hh => ?_) hs⟩
  obtain ⟨y, H1, I1, ry, q⟩ := hh
  refine thn (ha.run pins s1 σ H1 _ I1 q) fun ov s2 hk => ?_
  obtain ⟨x, H2, I2, rx, a, dx, fs, ex, ea, l, q2⟩ := hk
  subst ex
  obtain rfl : ov = Value.ref a := rx
  exact setattr_ok I2 ea c n l ry fun s3 I3 => ⟨σ, _, I3, q2⟩
end
/-- a method, ready to be called; one that may raise -/
structure Mt (P : Program) (w : World) (K : PySem.W.Frag) (mg : Str → Option Value) (base : Heap) (C : Addr) (k : Nat) (m : Str) (ps : List Str) (sp : Sp) : Prop where
  ex : ∃ f fd, FnOk P w K mg base CX0 k f fd ps sp ∧ Meth K C m f ∧ Binds K fd ps []
structure Mx (P : Program) (w : World) (K : PySem.W.Frag) (mg : Str → Option Value) (base : Heap) (C : Addr) (k : Nat) (m : Str) (ps : List Str) (sp : Sp) : Prop where
  ex : ∃ f fd, FnOk P w K mg base (L2.CX P w) k f fd ps sp ∧ Meth K C m f ∧ Binds K fd ps []
structure Mn (P : Program) (w : World) (K : PySem.W.Frag) (mg : Str → Option Value) (base : Heap) (C : Addr) (k : Nat) (x : Str) (ps : List Str) (sp : Sp) : Prop where
  ex : ∃ f fd, FnOk P w K mg base CX0 k f fd ps sp ∧ Mk K C f ∧ Binds K fd ps [] ∧ mg x = some (.ref C)
structure Mnx (P : Program) (w : World) (K : PySem.W.Frag) (mg : Str → Option Value) (base : Heap) (C : Addr) (k : Nat) (x : Str) (ps : List Str) (sp : Sp) : Prop where
  ex : ∃ f fd, FnOk P w K mg base (L2.CX P w) k f fd ps sp ∧ Mk K C f ∧ Binds K fd ps [] ∧ mg x = some (.ref C)
section
variable {X : Cx} {C : Addr} {k : Nat} {m x : Str} {ps : List Str} {sp : Sp} {o e : Expr} {es : List Expr} {ta : TE} {t : TA} {p pos apos : Pos} {E : XK} {pl : Sem Bool}
theorem pe_mt (M : Mt X.prog X.w X.K X.mg X.base C k m ps sp) (c : Cls X.K C) (hr : Room k X.A) (he : PE X o ta) (ha : PA X (e :: es) t)
    (hst : starEach (e :: es) X.env = (false, eval e X.env) :: starEach es X.env := by rfl) (hpl : (backTo pos (starEach es X.env)).any (·.1) = false := by rfl)
    (ht : eval (.Call (.Attribute o m apos) (e :: es) [] pos) X.env = (do
      let ov ← eval o X.env
      standAt apos.atName
      let (f, first) ← holding [ov] (getMethod ov m pl)
      callWith pos f first (backTo pos (starEach (e :: es) X.env)) (backToKw pos (keywordEach [] X.env))) := by rfl) :
    PE X (.Call (.Attribute o m apos) (e :: es) [] pos) (tMeth C m sp [] E0 ta t) := by
  obtain ⟨f, fd, h, mm, b⟩ := M.ex
  exact pe_meth he c mm h hr b .nil pass0 ha hst hpl ht
theorem pe_mt0 (M : Mt X.prog X.w X.K X.mg X.base C k m ps sp) (c : Cls X.K C) (hr : Room k X.A) (he : PE X o ta)
    (ht : eval (.Call (.Attribute o m apos) [] [] pos) X.env = (do
      let ov ← eval o X.env
      standAt apos.atName
      let (f, first) ← holding [ov] (getMethod ov m pl)
      callWith pos f first (backTo pos (starEach [] X.env)) (backToKw pos (keywordEach [] X.env))) := by rfl) :
    PE X (.Call (.Attribute o m apos) [] [] pos) (tMeth C m sp [] E0 ta tNil) := by
  obtain ⟨f, fd, h, mm, b⟩ := M.ex
  exact pe_meth0 he c mm h hr b .nil pass0 ht
theorem pe_mx (M : Mx X.prog X.w X.K X.mg X.base C k m ps sp) (c : Cls X.K C) (hr : Room k X.A) (tk : Takes X (fun cls d _ H => E cls d H)) (he : PE X o ta) (ha : PA X (e :: es) t)
    (hst : starEach (e :: es) X.env = (false, eval e X.env) :: starEach es X.env := by rfl) (hpl : (backTo pos (starEach es X.env)).any (·.1) = false := by rfl)
    (ht : eval (.Call (.Attribute o m apos) (e :: es) [] pos) X.env = (do
      let ov ← eval o X.env
      standAt apos.atName
      let (f, first) ← holding [ov] (getMethod ov m pl)
      callWith pos f first (backTo pos (starEach (e :: es) X.env)) (backToKw pos (keywordEach [] X.env))) := by rfl) :
    PE X (.Call (.Attribute o m apos) (e :: es) [] pos) (tMeth C m sp [] E ta t) := by
  obtain ⟨f, fd, h, mm, b⟩ := M.ex
  exact pe_meth he c mm h hr b .nil (passes_call tk fun _ _ _ _ h => h) ha hst hpl ht
theorem pe_mx_ (M : Mx X.prog X.w X.K X.mg X.base C k m ps sp) (c : Cls X.K C) (hr : Room k X.A) (he : PE X o ta) (ha : PA X (e :: es) t)
    (hst : starEach (e :: es) X.env = (false, eval e X.env) :: starEach es X.env := by rfl) (hpl : (backTo pos (starEach es X.env)).any (·.1) = false := by rfl)
    (ht : eval (.Call (.Attribute o m apos) (e :: es) [] pos) X.env = (do
      let ov ← eval o X.env
      standAt apos.atName
      let (f, first) ← holding [ov] (getMethod ov m pl)
      callWith pos f first (backTo pos (starEach (e :: es) X.env)) (backToKw pos (keywordEach [] X.env))) := by rfl) :
    PE X (.Call (.Attribute o m apos) (e :: es) [] pos) (tMeth C m sp [] E0 ta t) := by
  obtain ⟨f, fd, h, mm, b⟩ := M.ex
  exact pe_meth he c mm h hr b .nil passL ha hst hpl ht
theorem pe_mn (M : Mn X.prog X.w X.K X.mg X.base C k x ps sp) (hr : Room (k + 1) X.A) (ha : PA X (e :: es) t) (hg : Gl X x := by rfl) (hdb : (x == ("__debug__" : Str)) = false := by decide)
    (he : starEach (e :: es) X.env = (false, eval e X.env) :: starEach es X.env := by rfl) (hpl : (backTo pos (starEach es X.env)).any (·.1) = false := by rfl) :
    PE X (.Call (.Name x p) (e :: es) [] pos) (tMake C sp [] E0 t) := by
  obtain ⟨f, fd, h, mm, b, g⟩ := M.ex
  exact pe_make mm h hr hg g b .nil pass0 ha hdb he hpl
theorem pe_mnx (M : Mnx X.prog X.w X.K X.mg X.base C k x ps sp) (hr : Room (k + 1) X.A) (tk : Takes X (fun cls d _ H => E cls d H)) (ha : PA X (e :: es) t) (hg : Gl X x := by rfl) (hdb : (x == ("__debug__" : Str)) = false := by decide)
    (he : starEach (e :: es) X.env = (false, eval e X.env) :: starEach es X.env := by rfl) (hpl : (backTo pos (starEach es X.env)).any (·.1) = false := by rfl) :
    PE X (.Call (.Name x p) (e :: es) [] pos) (tMake C sp [] E t) := by
  obtain ⟨f, fd, h, mm, b, g⟩ := M.ex
  exact pe_make mm h hr hg g b .nil (passes_call tk fun _ _ _ _ h => h) ha hdb he hpl
theorem pe_mnx_ (M : Mnx X.prog X.w X.K X.mg X.base C k x ps sp) (hr : Room (k + 1) X.A) (ha : PA X (e :: es) t) (hg : Gl X x := by rfl) (hdb : (x == ("__debug__" : Str)) = false := by decide)
    (he : starEach (e :: es) X.env = (false, eval e X.env) :: starEach es X.env := by rfl) (hpl : (backTo pos (starEach es X.env)).any (·.1) = false := by rfl) :
    PE X (.Call (.Name x p) (e :: es) [] pos) (tMake C sp [] E0 t) := by
  obtain ⟨f, fd, h, mm, b, g⟩ := M.ex
  exact pe_make mm h hr hg g b .nil passL ha hdb he hpl
end

/-- a text times a number -/
theorem op_repS {X : Cx} : OpR X (binaryOp .Mult) (fun x y H Q => ∃ i n, x = .str i ∧ y = .int n ∧ MulOk i n ∧ Q (.str (Txt.mul i n)) H) := by
  intro pins s σ H x y v u Q I rx ry h
  obtain ⟨i, n, rfl, rfl, hk, q⟩ := h
  obtain ⟨t, rfl⟩ := rx
  obtain ⟨t', rfl⟩ := ry
  exact SB.mul hk (fun t' k => ⟨.str _, H, I.tok _, ⟨_, rfl⟩, q⟩)

def sp_p_common_divisor (K : PySem.W.Frag) (T : Tb) : Sp := fun vs H Q _ => ∃ a b : Nat, vs = [.int a, .int b] ∧ Q (.int (Nat.gcd a b : Nat)) H
theorem ok_p_common_divisor {f : Addr} {fd : FuncData} (F : Fun K "common_divisor" "common_divisor" s_p_common_divisor f fd) : FnOk P w K mg base CX0 1 f fd ["one", "other"] (sp_p_common_divisor K T) := by
  refine F.ok sc_p_common_divisor (fun vs H Q E h => ?_) (fun cdv A outer s H vs Q E hr h => ?_)
  · obtain ⟨a, b, rfl, _⟩ := h
    rfl
  · obtain ⟨a, b, rfl, q⟩ := h
    refine ⟨_, (pss_cons (ps_while PassesOwn.never (pt_truth (pv 1) (by intro _; rfl)) (pss_one (ps_par (i := 0) (j := 1) (by rfl) sc_p_common_divisor.nd rfl rfl (by decide) rfl rfl (pa_cons (pv 1) (pa_cons (pe_op op_mod (pv 0) (pv 1)) pa_nil)) (by rfl))))
      (pss_one (ps_ret (pv 0)))), ?_⟩
    refine while_by (fun σ H' => ∃ x y : Nat, σ = [some (.int x), some (.int y)] ∧ H' = H ∧ Nat.gcd x y = Nat.gcd a b) (fun σ _ => match σ with | [_, some (.int y)] => y.toNat | _ => 0) ⟨a, b, rfl, rfl, rfl⟩ ?_ ?_
    · rintro σ H' ⟨x, y, rfl, rfl, hg⟩
      refine ⟨_, rfl, _, rfl, ite2 (fun e => ?_) (fun e => ?_)⟩
      · have hy : 0 < y := by
          cases y with
          | zero => cases e
          | succ n => exact Nat.succ_pos n
        refine ⟨_, rfl, _, rfl, _, rfl, _, _, rfl, rfl, (by show (0 : Int) < (y : Int); omega), _, _, rfl, ⟨y, x % y, ?_, rfl, ?_⟩, ?_⟩
        · show [some (V.int y), some (V.int ((x : Int) % (y : Int)))] = _
          rw [Int.natCast_emod]
        · rw [← hg, Nat.gcd_comm x y, Nat.gcd_rec y x, Nat.gcd_comm]
        · show ((x : Int) % (y : Int)).toNat < (y : Int).toNat
          rw [← Int.natCast_emod, Int.toNat_natCast, Int.toNat_natCast]
          exact Nat.mod_lt _ hy
      · have hy : y = 0 := by
          cases y with
          | zero => rfl
          | succ n => exact absurd rfl e
        subst hy
        refine ⟨_, rfl, ?_⟩
        rw [← hg, Nat.gcd_zero_right] at q
        exact q
    · rintro σ H Q Q' m ⟨v, e, k, t, q⟩
      exact ⟨v, e, k, t, m _ _ q⟩

def sp_p_amount (K : PySem.W.Frag) (T : Tb) : Sp := fun vs H Q _ => ∃ n d : Int, vs = [.int n, .int d] ∧ d ≠ 0 ∧ d.natAbs < 2 ^ 8900 ∧ ∀ p H', Sm T H H' → H p = none → H' p = some (.tup (tv (amt n d))) → Q (.ref p) H'
theorem gcd_bound {n d : Int} (hd : d ≠ 0) (hb : d.natAbs < 2 ^ 8900) : 0 < Nat.gcd n.natAbs d.natAbs ∧ (Nat.gcd n.natAbs d.natAbs) < 2 ^ 8900 :=
  ⟨Nat.gcd_pos_of_pos_right _ (by omega), Nat.lt_of_le_of_lt (Nat.gcd_le_right _ (by omega)) hb⟩
theorem ok_p_amount {f : Addr} {fd : FuncData} (F : Fun K "amount" "amount" s_p_amount f fd) (B : Bn mg) (F_p_common_divisor : Fn P w K mg base 1 "common_divisor" ["one", "other"] (sp_p_common_divisor K T)) : FnOk P w K mg base CX0 2 f fd ["num", "den"] (sp_p_amount K T) := by
  refine F.ok sc_p_amount (fun vs H Q E h => ?_) (fun cdv A outer s H vs Q E hr h => ?_)
  · obtain ⟨n, d, rfl, _⟩ := h
    rfl
  · obtain ⟨n, d, rfl, hd, hb, q⟩ := h
    refine ⟨_, (pss_cons (ps_if (pt_cmpR op_lt (pv 1) pe_int (nomark _)) (pss_one (ps_par (i := 0) (j := 1) (by rfl) sc_p_amount.nd rfl rfl (by decide) rfl rfl (pa_cons (pe_un un_neg (pv 0)) (pa_cons (pe_un un_neg (pv 1)) pa_nil)) (by rfl))) pss_nil)
      (pss_cons (ps_set (i := 2) sc_p_amount.nd rfl (.inl rfl) (pe_fn F_p_common_divisor (hr.mono (by decide)) (pa_cons (pe_callB call_abs (by rfl) B.abs_ (by decide +kernel) (pa_cons (pv 0) pa_nil)) (pa_cons (pv 1) pa_nil))))
      (pss_one (ps_ret (pe_tup (pa_cons (pe_op op_fdivW (pv 0) (pv 2)) (pa_cons (pe_op op_fdivW (pv 1) (pv 2)) pa_nil))))))), ?_⟩
    have hg := gcd_bound (n := n) hd hb
    refine seq_if (fun σ' H' => H' = H ∧ σ' = [some (.int (if d < 0 then -n else n)), some (.int d.natAbs), none]) (fun σ' H' p => ?_) (fun k => ?_)
    · obtain ⟨rfl, rfl⟩ := p
      refine ⟨_, rfl, _, rfl, _, rfl, n.natAbs, d.natAbs, ?_, ?_⟩
      · have : (if (if d < 0 then -n else n) < 0 then -(if d < 0 then -n else n) else (if d < 0 then -n else n)) = (n.natAbs : Int) := by split <;> split <;> omega
        rw [this] <;> rfl
      · refine ⟨_, rfl, _, rfl, _, _, rfl, rfl, wide_div (b := 8900) (by omega) (by rw [Int.natAbs_natCast]; exact hg.2) (by decide) (by decide), ?_⟩
        refine ⟨_, rfl, _, rfl, _, _, rfl, rfl, wide_div (b := 8900) (by omega) (by rw [Int.natAbs_natCast]; exact hg.2) (by decide) (by decide), ?_⟩
        refine ⟨by show 2 ≤ sizeLine; decide, fun p hp => ?_⟩
        exact q p _ (same_upd hp) hp upd_same
    · refine ⟨_, rfl, _, _, rfl, rfl, _, rfl, ite2 (fun e => ?_) (fun e => ?_)⟩
      · have e' : d < 0 := of_decide_eq_true e
        refine ⟨_, rfl, _, rfl, _, rfl, _, rfl, _, _, rfl, ?_⟩
        refine k _ _ ⟨rfl, ?_⟩
        rw [if_pos e', show ((d.natAbs : Nat) : Int) = -d by omega]
        all_goals rfl
      · have e' : ¬ d < 0 := fun z => e (decide_eq_true z)
        refine k _ _ ⟨rfl, ?_⟩
        rw [if_neg e', show ((d.natAbs : Nat) : Int) = d by omega]
        all_goals rfl

def Bd (n : Nat) (x : Am) : Prop := x.1.natAbs < 2 ^ n ∧ x.2.natAbs < 2 ^ n
theorem Bd.mono {n m : Nat} {x : Am} (h : Bd n x) (e : n ≤ m) : Bd m x := ⟨Nat.lt_of_lt_of_le h.1 (Nat.pow_le_pow_right (by decide) e), Nat.lt_of_lt_of_le h.2 (Nat.pow_le_pow_right (by decide) e)⟩
def plusA (x y : Am) : Am := amt (x.1 * y.2 + y.1 * x.2) (x.2 * y.2)
def minusA (x y : Am) : Am := amt (x.1 * y.2 - y.1 * x.2) (x.2 * y.2)
def timesA (x y : Am) : Am := amt (x.1 * y.1) (x.2 * y.2)
def overA (x y : Am) : Am := amt (x.1 * y.2) (x.2 * y.1)
def belowA (x y : Am) : Bool := decide (x.1 * y.2 < y.1 * x.2)
def spBin (pre : Am → Am → Prop) (g : Am → Am → Am) (K : PySem.W.Frag) (T : Tb) : Sp := fun vs H Q _ => ∃ a b x y, vs = [.ref a, .ref b] ∧ SqT K H a (tv x) ∧ SqT K H b (tv y) ∧ (Bd 4000 x ∧ Bd 4000 y) ∧ pre x y ∧
  ∀ p H', Sm T H H' → H p = none → H' p = some (.tup (tv (g x y))) → Q (.ref p) H'
abbrev sp_p_plus : PySem.W.Frag → Tb → Sp := spBin (fun x y => 0 < x.2 ∧ 0 < y.2) plusA
abbrev sp_p_minus : PySem.W.Frag → Tb → Sp := spBin (fun x y => 0 < x.2 ∧ 0 < y.2) minusA
abbrev sp_p_times : PySem.W.Frag → Tb → Sp := spBin (fun x y => 0 < x.2 ∧ 0 < y.2) timesA
abbrev sp_p_over : PySem.W.Frag → Tb → Sp := spBin (fun x y => 0 < x.2 ∧ 0 < y.2 ∧ y.1 ≠ 0) overA
def sp_p_below (K : PySem.W.Frag) (T : Tb) : Sp := fun vs H Q _ => ∃ a b x y, vs = [.ref a, .ref b] ∧ SqT K H a (tv x) ∧ SqT K H b (tv y) ∧ (Bd 4000 x ∧ Bd 4000 y) ∧ Q (.bl (belowA x y)) H
theorem wm {i j : Int} (hi : i.natAbs < 2 ^ 4000) (hj : j.natAbs < 2 ^ 4000) : CMulW i j := wide_mul hi hj (by decide) (by decide) (by decide)
theorem wl {i j : Int} (hi : i.natAbs < 2 ^ 4000) (hj : j.natAbs < 2 ^ 4000) : (i * j).natAbs < 2 ^ 8900 := Nat.lt_trans (wide_lt hi hj) (Nat.pow_lt_pow_right (by decide) (by decide))

/-! ### amounts as rationals -/
def am (r : Rat) : Am := (r.num, (r.den : Int))
def vl (x : Am) : Rat := (x.1 : Rat) / (x.2 : Rat)
theorem am_low (r : Rat) : Low (am r) := ⟨by have := r.den_nz; show (0 : Int) < (r.den : Int); omega, by show Nat.gcd r.num.natAbs ((r.den : Int)).natAbs = 1; rw [Int.natAbs_natCast]; exact r.reduced⟩
theorem am_pos (r : Rat) : 0 < (am r).2 := (am_low r).1
theorem vl_am (r : Rat) : vl (am r) = r := by
  show (r.num : Rat) / ((r.den : Int) : Rat) = r
  have := Rat.num_divInt_den r
  rw [Rat.divInt_eq_div] at this
  exact this
theorem ci {a b : Int} (h : (a : Rat) = (b : Rat)) : a = b := Rat.intCast_inj.mp h
theorem cn {a : Int} (h : a ≠ 0) : (a : Rat) ≠ 0 := fun z => h (ci z)
theorem cp {a : Int} (h : 0 < a) : (0 : Rat) < (a : Rat) := Rat.intCast_pos.mpr h
theorem vl_eq {x y : Am} (hx : Low x) (hy : Low y) (e : vl x = vl y) : x = y := by
  refine low_eq hx hy (ci ?_)
  have h1 := cn (a := x.2) (by have := hx.1; omega)
  have h2 := cn (a := y.2) (by have := hy.1; omega)
  unfold vl at e
  rw [Rat.intCast_mul, Rat.intCast_mul]
  grind
theorem am_vl {x : Am} (hx : Low x) : am (vl x) = x := vl_eq (am_low _) hx (vl_am _)
theorem am_inj {a b : Rat} (h : am a = am b) : a = b := by rw [← vl_am a, h, vl_am]
theorem vl_amt {n d : Int} (hd : d ≠ 0) : vl (amt n d) = (n : Rat) / (d : Rat) := by
  have s := amt_spec (n := n) hd
  have h1 := cn (a := (amt n d).2) (by have := s.1.1; omega)
  have h2 := cn hd
  have e : (((amt n d).1 * d : Int) : Rat) = ((n * (amt n d).2 : Int) : Rat) := by rw [s.2.1]
  rw [Rat.intCast_mul, Rat.intCast_mul] at e
  unfold vl
  grind
theorem amt_am {n d : Int} (hd : d ≠ 0) : amt n d = am ((n : Rat) / (d : Rat)) := by
  rw [← vl_amt hd, am_vl (amt_spec hd).1]
theorem vle (x : Am) : vl x = (x.1 : Rat) / (x.2 : Rat) := rfl
theorem plus_am (a b : Rat) : plusA (am a) (am b) = am (a + b) := by
  have h1 := am_pos a
  have h2 := am_pos b
  unfold plusA
  rw [amt_am (by exact Int.mul_ne_zero (by omega) (by omega))]
  congr 1
  have e1 := vl_am a
  have e2 := vl_am b
  have k1 := cn (a := (am a).2) (by omega)
  have k2 := cn (a := (am b).2) (by omega)
  unfold vl at e1 e2
  rw [Rat.intCast_add, Rat.intCast_mul, Rat.intCast_mul, Rat.intCast_mul]
  grind
theorem minus_am (a b : Rat) : minusA (am a) (am b) = am (a - b) := by
  have h1 := am_pos a
  have h2 := am_pos b
  unfold minusA
  rw [amt_am (by exact Int.mul_ne_zero (by omega) (by omega))]
  congr 1
  have e1 := vl_am a
  have e2 := vl_am b
  have k1 := cn (a := (am a).2) (by omega)
  have k2 := cn (a := (am b).2) (by omega)
  unfold vl at e1 e2
  rw [Rat.intCast_sub, Rat.intCast_mul, Rat.intCast_mul, Rat.intCast_mul]
  grind
theorem times_am (a b : Rat) : timesA (am a) (am b) = am (a * b) := by
  have h1 := am_pos a
  have h2 := am_pos b
  unfold timesA
  rw [amt_am (by exact Int.mul_ne_zero (by omega) (by omega))]
  congr 1
  have e1 := vl_am a
  have e2 := vl_am b
  have k1 := cn (a := (am a).2) (by omega)
  have k2 := cn (a := (am b).2) (by omega)
  unfold vl at e1 e2
  rw [Rat.intCast_mul, Rat.intCast_mul]
  grind
theorem am_ne {b : Rat} (h : b ≠ 0) : (am b).1 ≠ 0 := fun z => h (by
  rw [← vl_am b]
  unfold vl
  rw [z]
  show (0 : Rat) / _ = 0
  grind)
theorem over_am (a b : Rat) (hb : b ≠ 0) : overA (am a) (am b) = am (a / b) := by
  have h1 := am_pos a
  have h2 := am_pos b
  have h3 := am_ne hb
  unfold overA
  rw [amt_am (by exact Int.mul_ne_zero (by omega) h3)]
  congr 1
  have e1 := vl_am a
  have e2 := vl_am b
  have k1 := cn (a := (am a).2) (by omega)
  have k2 := cn (a := (am b).2) (by omega)
  have k3 := cn h3
  unfold vl at e1 e2
  rw [Rat.intCast_mul, Rat.intCast_mul]
  grind
theorem below_am (a b : Rat) : belowA (am a) (am b) = decide (a < b) := by
  have h1 := am_pos a
  have h2 := am_pos b
  have k1 := cp h1
  have k2 := cp h2
  have e1 := vl_am a
  have e2 := vl_am b
  unfold belowA
  rw [decide_eq_decide, ← Rat.intCast_lt_intCast, Rat.intCast_mul, Rat.intCast_mul]
  unfold vl at e1 e2
  have f1 : ((am a).1 : Rat) = a * ((am a).2 : Rat) := by grind
  have f2 : ((am b).1 : Rat) = b * ((am b).2 : Rat) := by grind
  rw [f1, f2]
  have k3 := Rat.mul_pos k1 k2
  constructor
  · intro h
    by_cases z : a < b
    · exact z
    · have := Rat.mul_le_mul_of_nonneg_right (a := b) (b := a) (Rat.not_lt.mp z) (Rat.le_of_lt k3)
      grind
  · intro h
    have := Rat.mul_lt_mul_of_pos_right h k3
    grind
theorem am_int (z : Int) : am (z : Rat) = (z, 1) := by
  refine vl_eq (am_low _) ⟨by show (0 : Int) < 1; decide, by show Nat.gcd _ 1 = 1; exact Nat.gcd_one_right _⟩ ?_
  rw [vl_am]
  show (z : Rat) = (z : Rat) / ((1 : Int) : Rat)
  have : ((1 : Int) : Rat) = 1 := rfl
  rw [this]
  grind
theorem am_zero : am 0 = (0, 1) := am_int 0
theorem am_one : am 1 = (1, 1) := am_int 1
theorem am_eq_iff {a b : Rat} : am a = am b ↔ a = b := ⟨am_inj, fun h => by rw [h]⟩
theorem sub_nn {a b : Rat} (h : a < b) : 0 ≤ b - a := by grind
theorem sub_nn' {a b : Rat} (h : a ≤ b) : 0 ≤ b - a := by grind
theorem sub_le' {a b c : Rat} (h : b ≤ c) (h0 : 0 ≤ a) : b - a ≤ c := by grind
theorem neg_le {a c : Rat} (h : 0 ≤ a) (hc : 0 ≤ c) : -c ≤ a := by grind

/-! ### walking -/
def mnI (p q : Int) : Int := if q < p then q else p
def spd : List Int → List Rat → List Int
  | p :: ns, x :: xs => (match xs, spd ns xs with
      | y :: _, s :: _ => if x = y then mnI p s else p
      | _, _ => p) :: spd ns xs
  | _, _ => []
theorem spd_len : ∀ (ns : List Int) (xs : List Rat), ns.length = xs.length → (spd ns xs).length = ns.length
  | [], [], _ => rfl
  | [], _ :: _, h => by simp at h
  | _ :: _, [], h => by simp at h
  | p :: ns, x :: xs, h => by
    have := spd_len ns xs (by simpa using h)
    simp only [spd, List.length_cons, this]
theorem spd_step {ns : List Int} {xs : List Rat} (hl : ns.length = xs.length) {j : Nat} (hj : j < ns.length) :
    spd (ns.drop j) (xs.drop j) = (if h : j + 1 < ns.length then (if xs[j] = xs[j + 1] then mnI ns[j] ((spd (ns.drop (j + 1)) (xs.drop (j + 1))).headD 0) else ns[j]) else ns[j]) :: spd (ns.drop (j + 1)) (xs.drop (j + 1)) := by
  rw [List.drop_eq_getElem_cons hj, List.drop_eq_getElem_cons (show j < xs.length by omega)]
  by_cases h : j + 1 < ns.length
  · rw [dif_pos h]
    have e2 := List.drop_eq_getElem_cons (show j + 1 < xs.length by omega)
    have l := spd_len (ns.drop (j + 1)) (xs.drop (j + 1)) (by rw [List.length_drop, List.length_drop, hl])
    simp only [spd]
    cases hs : spd (ns.drop (j + 1)) (xs.drop (j + 1)) with
    | nil => rw [hs, List.length_drop] at l; simp at l; omega
    | cons s r =>
      rw [e2]
      simp
  · rw [dif_neg h]
    have e1 : ns.drop (j + 1) = [] := List.drop_eq_nil_of_le (by omega)
    have e2 : xs.drop (j + 1) = [] := List.drop_eq_nil_of_le (by omega)
    rw [e1, e2]
    simp [spd]
/-- the law's own -/
def ptl (x : Rat) : Int → List Int → List Rat → Int
  | p, q :: ns, y :: ys => ptl x (if y = x then mnI p q else p) ns ys
  | p, _, _ => p
theorem mnI_assoc (p q r : Int) : mnI (mnI p q) r = mnI p (mnI q r) := by unfold mnI; grind
theorem ptl_min (x : Rat) (p : Int) : ∀ (q : Int) (ns : List Int) (ys : List Rat), ptl x (mnI p q) ns ys = mnI p (ptl x q ns ys)
  | q, [], _ => by cases ‹List Rat› <;> rfl
  | q, _ :: _, [] => rfl
  | q, r :: ns, y :: ys => by
    simp only [ptl]
    by_cases h : y = x
    · rw [if_pos h, if_pos h, mnI_assoc, ptl_min x p]
    · rw [if_neg h, if_neg h, ptl_min x p]
theorem ptl_none (x : Rat) (p : Int) : ∀ (ns : List Int) (ys : List Rat), (∀ y ∈ ys, y ≠ x) → ptl x p ns ys = p
  | [], _, _ => by cases ‹List Rat› <;> rfl
  | _ :: _, [], _ => rfl
  | r :: ns, y :: ys, h => by
    simp only [ptl]
    rw [if_neg (h y List.mem_cons_self)]
    exact ptl_none x p ns ys fun z hz => h z (List.mem_cons_of_mem _ hz)
theorem spd_ptl : ∀ (p : Int) (x : Rat) (ns : List Int) (xs : List Rat), ns.length = xs.length → (x :: xs).Pairwise (· ≤ ·) → (spd (p :: ns) (x :: xs)).headD 0 = ptl x p ns xs
  | p, x, [], [], _, _ => rfl
  | _, _, [], _ :: _, h, _ => by simp at h
  | _, _, _ :: _, [], h, _ => by simp at h
  | p, x, q :: ns, y :: ys, h, hp => by
    have hp' := List.pairwise_cons.mp hp
    have ih := spd_ptl q y ns ys (by simpa using h) hp'.2
    have l := spd_len (q :: ns) (y :: ys) h
    cases hs : spd (q :: ns) (y :: ys) with
    | nil => rw [hs] at l; simp at l
    | cons s r =>
      rw [hs, List.headD_cons] at ih
      have e0 : spd (p :: q :: ns) (x :: y :: ys) = (if x = y then mnI p s else p) :: (s :: r) := by
        have : spd (p :: q :: ns) (x :: y :: ys) = (match y :: ys, spd (q :: ns) (y :: ys) with | y :: _, s :: _ => if x = y then mnI p s else p | _, _ => p) :: spd (q :: ns) (y :: ys) := rfl
        rw [this, hs]
      rw [e0, List.headD_cons]
      simp only [ptl]
      by_cases e : x = y
      · subst e
        rw [if_pos rfl, if_pos rfl, ptl_min, ih]
      · have hxy := hp'.1 y List.mem_cons_self
        have hl := (List.pairwise_cons.mp hp'.2).1
        rw [if_neg e, if_neg (fun z => e z.symm)]
        refine (ptl_none x p ns ys fun z hz => ?_).symm
        have := hl z hz
        grind
theorem spd_get {ns : List Int} {xs : List Rat} (hl : ns.length = xs.length) (hp : xs.Pairwise (· ≤ ·)) : ∀ {j : Nat} (hj : j < ns.length), (spd ns xs)[j]? = some (ptl xs[j] ns[j] (ns.drop (j + 1)) (xs.drop (j + 1))) := by
  intro j hj
  induction j generalizing ns xs with
  | zero =>
    match ns, xs, hl, hp, hj with
    | p :: ns, x :: xs, hl, hp, _ =>
      have := spd_ptl p x ns xs (by simpa using hl) hp
      simp only [spd] at this ⊢
      simp only [List.headD_cons] at this
      simp [this]
  | succ j ih =>
    match ns, xs, hl, hp, hj with
    | p :: ns, x :: xs, hl, hp, hj =>
      have := ih (ns := ns) (xs := xs) (by simpa using hl) (List.pairwise_cons.mp hp).2 (by simpa using hj)
      simp only [spd]
      simpa using this

/-! ### amounts over a common lower number -/
def Fr (D : Int) (r : Rat) : Prop := ∃ z : Int, r = (z : Rat) / (D : Rat)
theorem Fr.add {D : Int} {a b : Rat} (ha : Fr D a) (hb : Fr D b) : Fr D (a + b) := by
  obtain ⟨x, rfl⟩ := ha
  obtain ⟨y, rfl⟩ := hb
  exact ⟨x + y, by rw [Rat.intCast_add]; grind⟩
theorem Fr.sub {D : Int} {a b : Rat} (ha : Fr D a) (hb : Fr D b) : Fr D (a - b) := by
  obtain ⟨x, rfl⟩ := ha
  obtain ⟨y, rfl⟩ := hb
  exact ⟨x - y, by rw [Rat.intCast_sub]; grind⟩
theorem Fr.mulI {D : Int} {a : Rat} (ha : Fr D a) (k : Int) : Fr D ((k : Rat) * a) := by
  obtain ⟨x, rfl⟩ := ha
  exact ⟨k * x, by rw [Rat.intCast_mul]; grind⟩
theorem Fr.divI {D : Int} {a : Rat} (hD : D ≠ 0) (ha : Fr D a) {k : Int} (hk : k ≠ 0) : Fr (D * k) (a / (k : Rat)) := by
  obtain ⟨x, rfl⟩ := ha
  have h1 := cn hD
  have h2 := cn hk
  exact ⟨x, by rw [Rat.intCast_mul]; grind⟩
theorem Fr.int {D : Int} (hD : D ≠ 0) (k : Int) : Fr D (k : Rat) := ⟨k * D, by have := cn hD; rw [Rat.intCast_mul]; grind⟩
theorem Fr.zero {D : Int} (hD : D ≠ 0) : Fr D 0 := Fr.int hD 0
theorem Fr.scale {D : Int} {a : Rat} (hD : D ≠ 0) (ha : Fr D a) {k : Int} (hk : k ≠ 0) : Fr (D * k) a := by
  obtain ⟨x, rfl⟩ := ha
  have h1 := cn hD
  have h2 := cn hk
  exact ⟨x * k, by rw [Rat.intCast_mul, Rat.intCast_mul]; grind⟩
theorem Fr.of {n d D k : Int} (hd : d ≠ 0) (hk : k ≠ 0) (e : D = d * k) : Fr D ((n : Rat) / (d : Rat)) := by
  subst e
  have h1 := cn hd
  have h2 := cn hk
  exact ⟨n * k, by rw [Rat.intCast_mul, Rat.intCast_mul]; grind⟩
theorem ile {a b : Int} (h : (a : Rat) ≤ (b : Rat)) : a ≤ b := Rat.intCast_le_intCast.mp h
theorem fr_bd {D B : Int} {r : Rat} {k : Nat} (hD : 0 < D) (h : Fr D r) (h0 : -(B : Rat) ≤ r) (h1 : r ≤ (B : Rat)) (hb : (B * D).natAbs < 2 ^ k) (hd : D.natAbs < 2 ^ k) : Bd k (am r) := by
  obtain ⟨z, rfl⟩ := h
  have kD := cp hD
  have e1 : z ≤ B * D := ile (by
    rw [Rat.intCast_mul]
    have := Rat.mul_le_mul_of_nonneg_right h1 (Rat.le_of_lt kD)
    rw [Rat.div_mul_cancel (cn (by omega))] at this
    exact this)
  have e2 : -(B * D) ≤ z := ile (by
    rw [Rat.intCast_neg, Rat.intCast_mul]
    have := Rat.mul_le_mul_of_nonneg_right h0 (Rat.le_of_lt kD)
    rw [Rat.div_mul_cancel (cn (by omega)), Rat.neg_mul] at this
    exact this)
  have s := amt_spec (n := z) (d := D) (by omega)
  rw [← amt_am (by omega)]
  exact ⟨Nat.lt_of_le_of_lt (Nat.le_trans s.2.2.1 (by omega)) hb, Nat.lt_of_le_of_lt s.2.2.2 hd⟩

/-! ### meetings -/
def mnR (a b : Rat) : Rat := if b < a then b else a
def meetF (g : List Int) (ps : List Rat) (h : Rat) : Nat → Rat
  | 0 => h
  | i + 1 => if g.getD (i + 1) 0 < g.getD i 0 then mnR (meetF g ps h i) ((ps.getD (i + 1) 0 - ps.getD i 0) / ((g.getD i 0 - g.getD (i + 1) 0 : Int) : Rat)) else meetF g ps h i
def lastH (L : Int) (ns : List Int) (ps : List Rat) : Rat := ((L : Rat) - ps.getD (ns.length - 1) 0) / ((ns.getD (ns.length - 1) 0 : Int) : Rat)
def meetM (L : Int) (ns : List Int) (ps : List Rat) : Rat := meetF (spd ns ps) ps (lastH L ns ps) (ns.length - 1)
/-- hands on a way of labour L, all places over D -/
structure Wk (D L : Int) (ns : List Int) (ps : List Rat) : Prop where
  eq : ns.length = ps.length
  n8 : ns.length ≤ 8
  pace : ∀ n ∈ ns, 1 ≤ n ∧ n ≤ 12
  rise : ps.Pairwise (· ≤ ·)
  nn : ∀ p ∈ ps, 0 ≤ p
  fire : ∀ p ∈ ps, p ≤ (L : Rat)
  fr : ∀ p ∈ ps, Fr D p
theorem getD_mem {α : Type} {l : List α} {i : Nat} {d : α} (h : i < l.length) : l.getD i d ∈ l := by
  rw [List.getD_eq_getElem?_getD, List.getElem?_eq_getElem h]
  exact List.getElem_mem h
theorem getD_lt {α : Type} {l : List α} {i : Nat} {d : α} (h : i < l.length) : l.getD i d = l[i] := by
  rw [List.getD_eq_getElem?_getD, List.getElem?_eq_getElem h]
  rfl
theorem spd_at {ns : List Int} {xs : List Rat} (hl : ns.length = xs.length) {j : Nat} (hj : j < ns.length) : (spd ns xs).drop j = spd (ns.drop j) (xs.drop j) := by
  induction j generalizing ns xs with
  | zero => rfl
  | succ j ih =>
    match ns, xs, hl, hj with
    | p :: ns, x :: xs, hl, hj =>
      simp only [spd, List.drop_succ_cons]
      exact ih (by simpa using hl) (by simpa using hj)
theorem spd_rec {ns : List Int} {xs : List Rat} (hl : ns.length = xs.length) {j : Nat} (hj : j < ns.length) :
    (spd ns xs).getD j 0 = if j + 1 < ns.length ∧ xs.getD j 0 = xs.getD (j + 1) 0 then mnI (ns.getD j 0) ((spd ns xs).getD (j + 1) 0) else ns.getD j 0 := by
  have st := spd_step hl hj
  have e0 : (spd ns xs).getD j 0 = ((spd ns xs).drop j).headD 0 := by
    rw [List.getD_eq_getElem?_getD, List.headD_eq_head?_getD, List.head?_drop]
  rw [e0, spd_at hl hj, st, List.headD_cons, getD_lt hj]
  by_cases h : j + 1 < ns.length
  · rw [dif_pos h, getD_lt (show j < xs.length by omega), getD_lt (show j + 1 < xs.length by omega)]
    have e1 : (spd (ns.drop (j + 1)) (xs.drop (j + 1))).headD 0 = (spd ns xs).getD (j + 1) 0 := by
      rw [← spd_at hl h, List.getD_eq_getElem?_getD, List.headD_eq_head?_getD, List.head?_drop]
    rw [e1]
    by_cases e : xs[j] = xs[j + 1]
    · rw [if_pos e, if_pos ⟨h, e⟩]
    · rw [if_neg e, if_neg (fun z => e z.2)]
  · rw [dif_neg h, if_neg (fun z => h z.1)]
theorem mnI_le_l (p q : Int) : mnI p q ≤ p := by unfold mnI; split <;> omega
theorem mnI_le_r (p q : Int) : mnI p q ≤ q := by unfold mnI; split <;> omega
section
variable {D L : Int} {ns : List Int} {ps : List Rat}
theorem spd_bd (w : Wk D L ns ps) : ∀ {j : Nat}, j < ns.length → 1 ≤ (spd ns ps).getD j 0 ∧ (spd ns ps).getD j 0 ≤ 12 := by
  have key : ∀ k j, j < ns.length → ns.length - j ≤ k → 1 ≤ (spd ns ps).getD j 0 ∧ (spd ns ps).getD j 0 ≤ 12 := by
    intro k
    induction k with
    | zero => intro j h1 h2; omega
    | succ k ih =>
      intro j h1 h2
      have hp := w.pace _ (getD_mem (d := 0) h1)
      rw [spd_rec w.eq h1]
      split
      · rename_i h
        have := ih (j + 1) h.1 (by omega)
        unfold mnI
        split <;> omega
      · exact hp
  intro j h
  exact key _ j h (Nat.le_refl _)
theorem spd_same (w : Wk D L ns ps) {j : Nat} (h : j + 1 < ns.length) (e : ps.getD j 0 = ps.getD (j + 1) 0) : (spd ns ps).getD j 0 ≤ (spd ns ps).getD (j + 1) 0 := by
  rw [spd_rec w.eq (show j < ns.length by omega), if_pos ⟨h, e⟩]
  exact mnI_le_r _ _
theorem spd_last (w : Wk D L ns ps) (h : 0 < ns.length) : (spd ns ps).getD (ns.length - 1) 0 = ns.getD (ns.length - 1) 0 := by
  rw [spd_rec w.eq (by omega), if_neg (fun z => by omega)]
theorem ps_le (w : Wk D L ns ps) {j : Nat} (h : j + 1 < ns.length) : ps.getD j 0 ≤ ps.getD (j + 1) 0 := by
  have h2 : j + 1 < ps.length := by have := w.eq; omega
  rw [getD_lt (show j < ps.length by omega), getD_lt h2]
  exact List.pairwise_iff_getElem.mp w.rise j (j + 1) (by omega) h2 (by omega)
/-- where the one behind is quicker, they are apart -/
theorem apart (w : Wk D L ns ps) {j : Nat} (h : j + 1 < ns.length) (g : (spd ns ps).getD (j + 1) 0 < (spd ns ps).getD j 0) : ps.getD j 0 < ps.getD (j + 1) 0 := by
  have h1 := ps_le w h
  by_cases e : ps.getD j 0 = ps.getD (j + 1) 0
  · have := spd_same w h e
    omega
  · grind
theorem mnR_le_l (a b : Rat) : mnR a b ≤ a := by unfold mnR; split <;> grind
theorem mnR_le_r (a b : Rat) : mnR a b ≤ b := by unfold mnR; split <;> grind
theorem mnR_or (a b : Rat) : mnR a b = a ∨ mnR a b = b := by unfold mnR; split <;> simp
def cand (g : List Int) (ps : List Rat) (j : Nat) : Rat := (ps.getD (j + 1) 0 - ps.getD j 0) / ((g.getD j 0 - g.getD (j + 1) 0 : Int) : Rat)
theorem meetF_or (g : List Int) (ps : List Rat) (h : Rat) : ∀ i, meetF g ps h i = h ∨ ∃ j, j < i ∧ g.getD (j + 1) 0 < g.getD j 0 ∧ meetF g ps h i = cand g ps j
  | 0 => .inl rfl
  | i + 1 => by
    simp only [meetF]
    split
    · rename_i hg
      rcases mnR_or (meetF g ps h i) ((ps.getD (i + 1) 0 - ps.getD i 0) / ((g.getD i 0 - g.getD (i + 1) 0 : Int) : Rat)) with e | e
      · rw [e]
        rcases meetF_or g ps h i with e | ⟨j, hj, hgj, e⟩
        · exact .inl e
        · exact .inr ⟨j, by omega, hgj, e⟩
      · rw [e]
        exact .inr ⟨i, by omega, hg, rfl⟩
    · rcases meetF_or g ps h i with e | ⟨j, hj, hgj, e⟩
      · exact .inl e
      · exact .inr ⟨j, by omega, hgj, e⟩
theorem meetF_le (g : List Int) (ps : List Rat) (h : Rat) : ∀ i, meetF g ps h i ≤ h ∧ ∀ j, j < i → g.getD (j + 1) 0 < g.getD j 0 → meetF g ps h i ≤ cand g ps j
  | 0 => ⟨by simp only [meetF]; grind, fun j hj => by omega⟩
  | i + 1 => by
    have ih := meetF_le g ps h i
    simp only [meetF]
    split
    · rename_i hg
      have a := mnR_le_l (meetF g ps h i) ((ps.getD (i + 1) 0 - ps.getD i 0) / ((g.getD i 0 - g.getD (i + 1) 0 : Int) : Rat))
      have b := mnR_le_r (meetF g ps h i) ((ps.getD (i + 1) 0 - ps.getD i 0) / ((g.getD i 0 - g.getD (i + 1) 0 : Int) : Rat))
      refine ⟨by grind, fun j hj hgj => ?_⟩
      by_cases e : j = i
      · subst e; exact b
      · have := ih.2 j (by omega) hgj
        grind
    · rename_i hg
      refine ⟨ih.1, fun j hj hgj => ?_⟩
      by_cases e : j = i
      · subst e; exact absurd hgj hg
      · exact ih.2 j (by omega) hgj
theorem lt_div {a b : Rat} {k : Int} (hk : 0 < k) (h : a < b) : 0 < (b - a) / (k : Rat) := (Rat.lt_div_iff (cp hk)).mpr (by rw [Rat.zero_mul]; grind)
theorem div_mul {a : Rat} {k : Int} (hk : 0 < k) : a / (k : Rat) * (k : Rat) = a := Rat.div_mul_cancel (cn (by omega))
theorem div_le1 {a : Rat} {k : Int} (hk : 1 ≤ k) (ha : 0 ≤ a) : a / (k : Rat) ≤ a := by
  have e := div_mul (a := a) (show 0 < k by omega)
  have kp := cp (show 0 < k by omega)
  have h1 : (1 : Rat) ≤ (k : Rat) := Rat.intCast_le_intCast.mpr hk
  by_cases c : a / (k : Rat) < 0
  · have := Rat.mul_lt_mul_of_pos_right c kp
    grind
  · have := Rat.mul_le_mul_of_nonneg_left h1 (Rat.not_lt.mp c)
    grind
/-- the hours up to the i-th step of the search: over one of 1 to 12 parts -/
theorem meetF_ok (w : Wk D L ns ps) (hD : D ≠ 0) (hn : 0 < ns.length) {i : Nat} (hi : i ≤ ns.length - 1) : ∃ k : Int, 1 ≤ k ∧ k ≤ 12 ∧ Fr (D * k) (meetF (spd ns ps) ps (lastH L ns ps) i) ∧ 0 ≤ meetF (spd ns ps) ps (lastH L ns ps) i ∧ meetF (spd ns ps) ps (lastH L ns ps) i ≤ (L : Rat) := by
  have hle := w.eq
  have p0 := w.pace _ (getD_mem (d := 0) (show ns.length - 1 < ns.length by omega))
  have q0 := w.nn _ (getD_mem (d := 0) (show ns.length - 1 < ps.length by omega))
  have q1 := w.fire _ (getD_mem (d := 0) (show ns.length - 1 < ps.length by omega))
  have q2 := w.fr _ (getD_mem (d := 0) (show ns.length - 1 < ps.length by omega))
  have dp := cp (show 0 < ns.getD (ns.length - 1) 0 by omega)
  have em : lastH L ns ps * ((ns.getD (ns.length - 1) 0 : Int) : Rat) = (L : Rat) - ps.getD (ns.length - 1) 0 := div_mul (by omega)
  have h1 : (1 : Rat) ≤ ((ns.getD (ns.length - 1) 0 : Int) : Rat) := Rat.intCast_le_intCast.mpr p0.1
  have l0 : 0 ≤ lastH L ns ps := by
    by_cases c : lastH L ns ps < 0
    · have := Rat.mul_lt_mul_of_pos_right c dp
      grind
    · exact Rat.not_lt.mp c
  have lL : lastH L ns ps ≤ (L : Rat) := by
    have := Rat.mul_le_mul_of_nonneg_left h1 l0
    grind
  rcases meetF_or (spd ns ps) ps (lastH L ns ps) i with e | ⟨j, hj, hg, e⟩
  · rw [e]
    exact ⟨_, p0.1, p0.2, ((Fr.int hD L).sub q2).divI hD (by omega), l0, lL⟩
  · rw [e]
    have hj1 : j + 1 < ns.length := by omega
    have b0 := spd_bd w (show j < ns.length by omega)
    have b1 := spd_bd w hj1
    have ap := apart w hj1 hg
    have r2 := w.fr _ (getD_mem (d := 0) (show j < ps.length by omega))
    have r3 := w.fr _ (getD_mem (d := 0) (show j + 1 < ps.length by omega))
    refine ⟨(spd ns ps).getD j 0 - (spd ns ps).getD (j + 1) 0, by omega, by omega, (r3.sub r2).divI hD (by omega), Rat.le_of_lt (lt_div (by omega) ap), ?_⟩
    rw [← e]
    exact Rat.le_trans (meetF_le (spd ns ps) ps (lastH L ns ps) i).1 lL
theorem meet_pos (w : Wk D L ns ps) (hn : 0 < ns.length) (hf : ∀ p ∈ ps, p < (L : Rat)) : 0 < meetM L ns ps := by
  have hle := w.eq
  unfold meetM
  rcases meetF_or (spd ns ps) ps (lastH L ns ps) (ns.length - 1) with e | ⟨j, hj, hg, e⟩
  · rw [e]
    have p0 := w.pace _ (getD_mem (d := 0) (show ns.length - 1 < ns.length by omega))
    exact lt_div (by omega) (hf _ (getD_mem (d := 0) (show ns.length - 1 < ps.length by omega)))
  · rw [e]
    exact lt_div (by omega) (apart w (by omega) hg)
/-- for so long nobody is beyond the next one -/
theorem meet_order (w : Wk D L ns ps) {t : Rat} (h0 : 0 ≤ t) (ht : t ≤ meetM L ns ps) {j : Nat} (hj : j + 1 < ns.length) :
    ps.getD j 0 + t * (((spd ns ps).getD j 0 : Int) : Rat) ≤ ps.getD (j + 1) 0 + t * (((spd ns ps).getD (j + 1) 0 : Int) : Rat) := by
  have h1 := ps_le w hj
  by_cases g : (spd ns ps).getD (j + 1) 0 < (spd ns ps).getD j 0
  · have c := (meetF_le (spd ns ps) ps (lastH L ns ps) (ns.length - 1)).2 j (by omega) g
    have c2 : t ≤ cand (spd ns ps) ps j := Rat.le_trans ht c
    have kp := cp (show 0 < (spd ns ps).getD j 0 - (spd ns ps).getD (j + 1) 0 by omega)
    have e : cand (spd ns ps) ps j * (((spd ns ps).getD j 0 - (spd ns ps).getD (j + 1) 0 : Int) : Rat) = ps.getD (j + 1) 0 - ps.getD j 0 := div_mul (by omega)
    have := Rat.mul_le_mul_of_nonneg_right c2 (Rat.le_of_lt kp)
    rw [e, Rat.intCast_sub] at this
    grind
  · have k : (((spd ns ps).getD j 0 : Int) : Rat) ≤ (((spd ns ps).getD (j + 1) 0 : Int) : Rat) := Rat.intCast_le_intCast.mpr (by omega)
    have := Rat.mul_le_mul_of_nonneg_left k h0
    grind
theorem meet_fire (w : Wk D L ns ps) (hn : 0 < ns.length) {t : Rat} (ht : t ≤ meetM L ns ps) : ps.getD (ns.length - 1) 0 + t * (((spd ns ps).getD (ns.length - 1) 0 : Int) : Rat) ≤ (L : Rat) := by
  have c := (meetF_le (spd ns ps) ps (lastH L ns ps) (ns.length - 1)).1
  have c2 : t ≤ lastH L ns ps := Rat.le_trans ht c
  have p0 := w.pace _ (getD_mem (d := 0) (show ns.length - 1 < ns.length by omega))
  have e : lastH L ns ps * ((ns.getD (ns.length - 1) 0 : Int) : Rat) = (L : Rat) - ps.getD (ns.length - 1) 0 := div_mul (by omega)
  rw [spd_last w hn]
  have := Rat.mul_le_mul_of_nonneg_right c2 (Rat.le_of_lt (cp (show 0 < ns.getD (ns.length - 1) 0 by omega)))
  grind
/-- somebody has come up -/
theorem meet_come (w : Wk D L ns ps) (hn : 0 < ns.length) : (ps.getD (ns.length - 1) 0 + meetM L ns ps * (((spd ns ps).getD (ns.length - 1) 0 : Int) : Rat) = (L : Rat)) ∨
    ∃ j, j + 1 < ns.length ∧ ps.getD j 0 ≠ ps.getD (j + 1) 0 ∧ ps.getD j 0 + meetM L ns ps * (((spd ns ps).getD j 0 : Int) : Rat) = ps.getD (j + 1) 0 + meetM L ns ps * (((spd ns ps).getD (j + 1) 0 : Int) : Rat) := by
  have p0 := w.pace _ (getD_mem (d := 0) (show ns.length - 1 < ns.length by omega))
  unfold meetM
  rcases meetF_or (spd ns ps) ps (lastH L ns ps) (ns.length - 1) with e | ⟨j, hj, hg, e⟩
  · refine .inl ?_
    rw [e, spd_last w hn]
    have e : lastH L ns ps * ((ns.getD (ns.length - 1) 0 : Int) : Rat) = (L : Rat) - ps.getD (ns.length - 1) 0 := div_mul (by omega)
    grind
  · refine .inr ⟨j, by omega, ?_, ?_⟩
    · have := apart w (j := j) (by omega) hg
      grind
    · rw [e]
      have e : cand (spd ns ps) ps j * (((spd ns ps).getD j 0 - (spd ns ps).getD (j + 1) 0 : Int) : Rat) = ps.getD (j + 1) 0 - ps.getD j 0 := div_mul (by omega)
      rw [Rat.intCast_sub] at e
      grind
end

theorem shaped_am (x : Am) : SeqAt.shaped (.tuple [.int x.1, .int x.2]) = true := by
  simp [SeqAt.shaped, PyData.canLay0, PyData.canLayAll0, PyData.depth, PyData.depthAll]
theorem eqv_am (x y : Am) : PyData.eqv (.tuple [.int x.1, .int x.2]) (.tuple [.int y.1, .int y.2]) = decide (x = y) := by
  obtain ⟨a, b⟩ := x
  obtain ⟨c, d⟩ := y
  simp only [PyData.eqv, PyData.eqvAll, Bool.and_true, Prod.mk.injEq]
  by_cases h1 : a = c <;> by_cases h2 : b = d <;> simp [h1, h2]
theorem ne_am {x y : Am} (h : x = y) : (!PyData.eqv (.tuple [.int x.1, .int x.2]) (.tuple [.int y.1, .int y.2])) = false := by rw [eqv_am, decide_eq_true h]; rfl

theorem dpa_ints {K : PySem.W.Frag} {H : Hp} : ∀ ns : List Int, DpAll K H (ns.map V.int) (ns.map PyData.int)
  | [] => .nil
  | n :: ns => .cons (.int n) (dpa_ints ns)
theorem dp_ints {K : PySem.W.Frag} {H : Hp} {a : Addr} {ns : List Int} (h : SqL K H a (ns.map V.int)) : Dp K H (.ref a) (.list (ns.map PyData.int)) := .lst h (dpa_ints ns)
theorem depOk_ints {n : Nat} {ns : List Int} (h : ns.length ≤ 9000) : depOk (n + 1) (.list (ns.map PyData.int)) = true := by
  show (decide ((ns.map PyData.int).length ≤ 9000) && (ns.map PyData.int).all (depOk n)) = true
  rw [List.length_map, decide_eq_true h, Bool.true_and, List.all_map]
  exact List.all_eq_true.mpr fun q _ => by cases n <;> rfl
theorem depOk_amsN {n : Nat} {qs : List Am} (h : qs.length ≤ 9000) : depOk (n + 2) (.list (qs.map amD)) = true := by
  show (decide ((qs.map amD).length ≤ 9000) && (qs.map amD).all (depOk (n + 1))) = true
  rw [List.length_map, decide_eq_true h, Bool.true_and, List.all_map]
  refine List.all_eq_true.mpr fun q _ => ?_
  cases n <;> rfl

theorem ok_p_plus {f : Addr} {fd : FuncData} (F : Fun K "plus" "plus" s_p_plus f fd) (F_p_amount : Fn P w K mg base 2 "amount" ["num", "den"] (sp_p_amount K T)) : FnOk P w K mg base CX0 3 f fd ["one", "other"] (sp_p_plus K T) := by
  refine F.ok sc_p_plus (fun vs H Q E h => ?_) (fun cdv A outer s H vs Q E hr h => ?_)
  · obtain ⟨a, b, x, y, rfl, _⟩ := h
    rfl
  · obtain ⟨a, b, x, y, rfl, ha, hb, ⟨bx, by_⟩, ⟨hx, hy⟩, q⟩ := h
    refine ⟨_, (pss_one (ps_ret (pe_fn F_p_amount (hr.mono (by decide)) (pa_cons (pe_op op_add (pe_op op_mulW (pe_ix ix_tup (pv 0) pe_int (fun _ _ => rfl)) (pe_ix ix_tup (pv 1) pe_int (fun _ _ => rfl))) (pe_op op_mulW (pe_ix ix_tup (pv 1) pe_int (fun _ _ => rfl)) (pe_ix ix_tup (pv 0) pe_int (fun _ _ => rfl)))) (pa_cons (pe_op op_mulW (pe_ix ix_tup (pv 0) pe_int (fun _ _ => rfl)) (pe_ix ix_tup (pv 1) pe_int (fun _ _ => rfl))) pa_nil))))), ?_⟩
    refine ⟨_, rfl, a, _, 0, .int x.1, rfl, rfl, ha, atI_nat (j := 0) rfl, _, rfl, b, _, 1, .int y.2, rfl, rfl, hb, atI_nat (j := 1) rfl, _, _, rfl, rfl, wm bx.1 by_.2, ?_⟩
    refine ⟨_, rfl, b, _, 0, .int y.1, rfl, rfl, hb, atI_nat (j := 0) rfl, _, rfl, a, _, 1, .int x.2, rfl, rfl, ha, atI_nat (j := 1) rfl, _, _, rfl, rfl, wm by_.1 bx.2, _, _, rfl, rfl, ?_⟩
    refine ⟨_, rfl, a, _, 1, .int x.2, rfl, rfl, ha, atI_nat (j := 1) rfl, _, rfl, b, _, 1, .int y.2, rfl, rfl, hb, atI_nat (j := 1) rfl, _, _, rfl, rfl, wm bx.2 by_.2, ?_⟩
    exact ⟨_, _, rfl, Int.mul_ne_zero (by omega) (by omega), wl bx.2 by_.2, q⟩

theorem ok_p_minus {f : Addr} {fd : FuncData} (F : Fun K "minus" "minus" s_p_minus f fd) (F_p_amount : Fn P w K mg base 2 "amount" ["num", "den"] (sp_p_amount K T)) : FnOk P w K mg base CX0 3 f fd ["one", "other"] (sp_p_minus K T) := by
  refine F.ok sc_p_minus (fun vs H Q E h => ?_) (fun cdv A outer s H vs Q E hr h => ?_)
  · obtain ⟨a, b, x, y, rfl, _⟩ := h
    rfl
  · obtain ⟨a, b, x, y, rfl, ha, hb, ⟨bx, by_⟩, ⟨hx, hy⟩, q⟩ := h
    refine ⟨_, (pss_one (ps_ret (pe_fn F_p_amount (hr.mono (by decide)) (pa_cons (pe_op op_sub (pe_op op_mulW (pe_ix ix_tup (pv 0) pe_int (fun _ _ => rfl)) (pe_ix ix_tup (pv 1) pe_int (fun _ _ => rfl))) (pe_op op_mulW (pe_ix ix_tup (pv 1) pe_int (fun _ _ => rfl)) (pe_ix ix_tup (pv 0) pe_int (fun _ _ => rfl)))) (pa_cons (pe_op op_mulW (pe_ix ix_tup (pv 0) pe_int (fun _ _ => rfl)) (pe_ix ix_tup (pv 1) pe_int (fun _ _ => rfl))) pa_nil))))), ?_⟩
    refine ⟨_, rfl, a, _, 0, .int x.1, rfl, rfl, ha, atI_nat (j := 0) rfl, _, rfl, b, _, 1, .int y.2, rfl, rfl, hb, atI_nat (j := 1) rfl, _, _, rfl, rfl, wm bx.1 by_.2, ?_⟩
    refine ⟨_, rfl, b, _, 0, .int y.1, rfl, rfl, hb, atI_nat (j := 0) rfl, _, rfl, a, _, 1, .int x.2, rfl, rfl, ha, atI_nat (j := 1) rfl, _, _, rfl, rfl, wm by_.1 bx.2, _, _, rfl, rfl, ?_⟩
    refine ⟨_, rfl, a, _, 1, .int x.2, rfl, rfl, ha, atI_nat (j := 1) rfl, _, rfl, b, _, 1, .int y.2, rfl, rfl, hb, atI_nat (j := 1) rfl, _, _, rfl, rfl, wm bx.2 by_.2, ?_⟩
    exact ⟨_, _, rfl, Int.mul_ne_zero (by omega) (by omega), wl bx.2 by_.2, q⟩

theorem ok_p_times {f : Addr} {fd : FuncData} (F : Fun K "times" "times" s_p_times f fd) (F_p_amount : Fn P w K mg base 2 "amount" ["num", "den"] (sp_p_amount K T)) : FnOk P w K mg base CX0 3 f fd ["one", "other"] (sp_p_times K T) := by
  refine F.ok sc_p_times (fun vs H Q E h => ?_) (fun cdv A outer s H vs Q E hr h => ?_)
  · obtain ⟨a, b, x, y, rfl, _⟩ := h
    rfl
  · obtain ⟨a, b, x, y, rfl, ha, hb, ⟨bx, by_⟩, ⟨hx, hy⟩, q⟩ := h
    refine ⟨_, (pss_one (ps_ret (pe_fn F_p_amount (hr.mono (by decide)) (pa_cons (pe_op op_mulW (pe_ix ix_tup (pv 0) pe_int (fun _ _ => rfl)) (pe_ix ix_tup (pv 1) pe_int (fun _ _ => rfl))) (pa_cons (pe_op op_mulW (pe_ix ix_tup (pv 0) pe_int (fun _ _ => rfl)) (pe_ix ix_tup (pv 1) pe_int (fun _ _ => rfl))) pa_nil))))), ?_⟩
    refine ⟨_, rfl, a, _, 0, .int x.1, rfl, rfl, ha, atI_nat (j := 0) rfl, _, rfl, b, _, 0, .int y.1, rfl, rfl, hb, atI_nat (j := 0) rfl, _, _, rfl, rfl, wm bx.1 by_.1, ?_⟩
    refine ⟨_, rfl, a, _, 1, .int x.2, rfl, rfl, ha, atI_nat (j := 1) rfl, _, rfl, b, _, 1, .int y.2, rfl, rfl, hb, atI_nat (j := 1) rfl, _, _, rfl, rfl, wm bx.2 by_.2, ?_⟩
    exact ⟨_, _, rfl, Int.mul_ne_zero (by omega) (by omega), wl bx.2 by_.2, q⟩

theorem ok_p_over {f : Addr} {fd : FuncData} (F : Fun K "over" "over" s_p_over f fd) (F_p_amount : Fn P w K mg base 2 "amount" ["num", "den"] (sp_p_amount K T)) : FnOk P w K mg base CX0 3 f fd ["one", "other"] (sp_p_over K T) := by
  refine F.ok sc_p_over (fun vs H Q E h => ?_) (fun cdv A outer s H vs Q E hr h => ?_)
  · obtain ⟨a, b, x, y, rfl, _⟩ := h
    rfl
  · obtain ⟨a, b, x, y, rfl, ha, hb, ⟨bx, by_⟩, ⟨hx, hy, hn⟩, q⟩ := h
    refine ⟨_, (pss_one (ps_ret (pe_fn F_p_amount (hr.mono (by decide)) (pa_cons (pe_op op_mulW (pe_ix ix_tup (pv 0) pe_int (fun _ _ => rfl)) (pe_ix ix_tup (pv 1) pe_int (fun _ _ => rfl))) (pa_cons (pe_op op_mulW (pe_ix ix_tup (pv 0) pe_int (fun _ _ => rfl)) (pe_ix ix_tup (pv 1) pe_int (fun _ _ => rfl))) pa_nil))))), ?_⟩
    refine ⟨_, rfl, a, _, 0, .int x.1, rfl, rfl, ha, atI_nat (j := 0) rfl, _, rfl, b, _, 1, .int y.2, rfl, rfl, hb, atI_nat (j := 1) rfl, _, _, rfl, rfl, wm bx.1 by_.2, ?_⟩
    refine ⟨_, rfl, a, _, 1, .int x.2, rfl, rfl, ha, atI_nat (j := 1) rfl, _, rfl, b, _, 0, .int y.1, rfl, rfl, hb, atI_nat (j := 0) rfl, _, _, rfl, rfl, wm bx.2 by_.1, ?_⟩
    exact ⟨_, _, rfl, Int.mul_ne_zero (by omega) hn, wl bx.2 by_.1, q⟩

theorem ok_p_below {f : Addr} {fd : FuncData} (F : Fun K "below" "below" s_p_below f fd) : FnOk P w K mg base CX0 1 f fd ["one", "other"] (sp_p_below K T) := by
  refine F.ok sc_p_below (fun vs H Q E h => ?_) (fun cdv A outer s H vs Q E hr h => ?_)
  · obtain ⟨a, b, x, y, rfl, _⟩ := h
    rfl
  · obtain ⟨a, b, x, y, rfl, ha, hb, ⟨bx, by_⟩, q⟩ := h
    refine ⟨_, (pss_one (ps_ret (pe_cmpR op_lt (pe_op op_mulW (pe_ix ix_tup (pv 0) pe_int (fun _ _ => rfl)) (pe_ix ix_tup (pv 1) pe_int (fun _ _ => rfl))) (pe_op op_mulW (pe_ix ix_tup (pv 1) pe_int (fun _ _ => rfl)) (pe_ix ix_tup (pv 0) pe_int (fun _ _ => rfl))) (nomark _)))), ?_⟩
    refine ⟨_, rfl, a, _, 0, .int x.1, rfl, rfl, ha, atI_nat (j := 0) rfl, _, rfl, b, _, 1, .int y.2, rfl, rfl, hb, atI_nat (j := 1) rfl, _, _, rfl, rfl, wm bx.1 by_.2, ?_⟩
    exact ⟨_, rfl, b, _, 0, .int y.1, rfl, rfl, hb, atI_nat (j := 0) rfl, _, rfl, a, _, 1, .int x.2, rfl, rfl, ha, atI_nat (j := 1) rfl, _, _, rfl, rfl, wm by_.1 bx.2, _, _, rfl, rfl, q⟩

def sp_p_lesser (K : PySem.W.Frag) (T : Tb) : Sp := fun vs H Q _ => ∃ a b x y, vs = [.ref a, .ref b] ∧ SqT K H a (tv x) ∧ SqT K H b (tv y) ∧ (Bd 4000 x ∧ Bd 4000 y) ∧ Q (.ref (if belowA x y = true then a else b)) H
theorem ok_p_lesser {f : Addr} {fd : FuncData} (F : Fun K "lesser" "lesser" s_p_lesser f fd) (F_p_below : Fn P w K mg base 1 "below" ["one", "other"] (sp_p_below K T)) : FnOk P w K mg base CX0 2 f fd ["one", "other"] (sp_p_lesser K T) := by
  refine F.ok sc_p_lesser (fun vs H Q E h => ?_) (fun cdv A outer s H vs Q E hr h => ?_)
  · obtain ⟨a, b, x, y, rfl, _⟩ := h
    rfl
  · obtain ⟨a, b, x, y, rfl, ha, hb, bd, q⟩ := h
    refine ⟨_, (pss_one (ps_ret (pe_ifExp (pt_val (pe_fn F_p_below (hr.mono (by decide)) (pa_cons (pv 0) (pa_cons (pv 1) pa_nil)))) (pv 0) (pv 1)))), ?_⟩
    refine ⟨_, rfl, _, rfl, a, b, x, y, rfl, ha, hb, bd, _, rfl, ?_⟩
    cases hz : belowA x y with
    | true =>
      rw [hz, if_pos rfl] at q
      exact iteT ⟨_, rfl, q⟩
    | false =>
      rw [hz, if_neg (by decide)] at q
      exact iteF ⟨_, rfl, q⟩

theorem lesser_sq {K : PySem.W.Frag} {H : Hp} {a b : Addr} {x y : Rat} (ha : SqT K H a (tv (am x))) (hb : SqT K H b (tv (am y))) : SqT K H (if belowA (am x) (am y) = true then a else b) (tv (am (mnR x y))) := by
  rw [below_am]
  unfold mnR
  by_cases h : x < y
  · rw [decide_eq_true h, if_pos rfl, if_neg (by grind)]
    exact ha
  · rw [decide_eq_false h, if_neg (by decide)]
    by_cases h2 : y < x
    · rw [if_pos h2]
      exact hb
    · rw [if_neg h2, show x = y by grind]
      exact hb

theorem ok_PailError {f : Addr} {fd : FuncData} (F : Fun K "__init__" "PailError.__init__" s_p_PailError___init__ f fd) (mV : mg "ValueError" = none) (vV : PySem.W.findCls K (.type "ValueError") (.type "type") "__init__" = some (.val (.builtin "ValueError.__init__"))) :
    FnOk P w K mg base CX0 1 f fd ["self", "word"] (spInit2 K) := by
  refine F.ok sc_p_PailError___init__ (fun vs H Q E h => ?_) (fun cdv A outer s H vs Q E hr h => ?_)
  · obtain ⟨a, C, w, rfl, _⟩ := h
    rfl
  · obtain ⟨a, C, w, rfl, oc, nw, ea, q⟩ := h
    refine ⟨_, (pss_cons (ps_expr (pe_veinit (by rfl) mV vV (pa_cons (pv 0) (pa_cons (pv 1) pa_nil))))
      (pss_one (ps_ost (pv 0) (pv 1)))), ?_⟩
    refine ⟨_, rfl, _, rfl, a, C, [.str w], rfl, by show 1 ≤ 1000; decide, oc, ea, ?_⟩
    exact ⟨_, rfl, _, rfl, a, C, rfl, oc, nw, .inl ⟨ea, fun dx n ne => q dx n ne⟩⟩
theorem ok_BadWay {f fP CP : Addr} {fd fdP : FuncData} {mc : Value} (F : Fun K "__init__" "BadWay.__init__" s_p_BadWay___init__ f fd) (cr : ClX.CRead K CP mc) (hat : PySem.W.findCls K (.ref CP) mc "__init__" = some (.val (.ref fP))) (FP : FnOk P w K mg base CX0 1 fP fdP ["self", "word"] (spInit2 K))
    (gP : mg "PailError" = some (.ref CP)) (kP : PySem.W.keepIn K (.ref fP) = true) (bP : Binds K fdP ["self", "word"] []) : FnOk P w K mg base CX0 2 f fd ["self"] (spInit "bad way" K) := by
  refine F.ok sc_p_BadWay___init__ (fun vs H Q E h => ?_) (fun cdv A outer s H vs Q E hr h => ?_)
  · obtain ⟨a, C, rfl, _⟩ := h
    rfl
  · obtain ⟨a, C, rfl, oc, nw, ea, q⟩ := h
    refine ⟨_, (pss_one (ps_expr (pe_clsfn cr hat FP hr (by rfl) gP kP bP (pa_cons (pv 0) (pa_cons pe_str pa_nil))))), ?_⟩
    exact ⟨_, rfl, a, C, "bad way", rfl, oc, nw, ea, q⟩
theorem ok_BadName {f fP CP : Addr} {fd fdP : FuncData} {mc : Value} (F : Fun K "__init__" "BadName.__init__" s_p_BadName___init__ f fd) (cr : ClX.CRead K CP mc) (hat : PySem.W.findCls K (.ref CP) mc "__init__" = some (.val (.ref fP))) (FP : FnOk P w K mg base CX0 1 fP fdP ["self", "word"] (spInit2 K))
    (gP : mg "PailError" = some (.ref CP)) (kP : PySem.W.keepIn K (.ref fP) = true) (bP : Binds K fdP ["self", "word"] []) : FnOk P w K mg base CX0 2 f fd ["self"] (spInit "bad name" K) := by
  refine F.ok sc_p_BadName___init__ (fun vs H Q E h => ?_) (fun cdv A outer s H vs Q E hr h => ?_)
  · obtain ⟨a, C, rfl, _⟩ := h
    rfl
  · obtain ⟨a, C, rfl, oc, nw, ea, q⟩ := h
    refine ⟨_, (pss_one (ps_expr (pe_clsfn cr hat FP hr (by rfl) gP kP bP (pa_cons (pv 0) (pa_cons pe_str pa_nil))))), ?_⟩
    exact ⟨_, rfl, a, C, "bad name", rfl, oc, nw, ea, q⟩
theorem ok_Taken {f fP CP : Addr} {fd fdP : FuncData} {mc : Value} (F : Fun K "__init__" "Taken.__init__" s_p_Taken___init__ f fd) (cr : ClX.CRead K CP mc) (hat : PySem.W.findCls K (.ref CP) mc "__init__" = some (.val (.ref fP))) (FP : FnOk P w K mg base CX0 1 fP fdP ["self", "word"] (spInit2 K))
    (gP : mg "PailError" = some (.ref CP)) (kP : PySem.W.keepIn K (.ref fP) = true) (bP : Binds K fdP ["self", "word"] []) : FnOk P w K mg base CX0 2 f fd ["self"] (spInit "taken" K) := by
  refine F.ok sc_p_Taken___init__ (fun vs H Q E h => ?_) (fun cdv A outer s H vs Q E hr h => ?_)
  · obtain ⟨a, C, rfl, _⟩ := h
    rfl
  · obtain ⟨a, C, rfl, oc, nw, ea, q⟩ := h
    refine ⟨_, (pss_one (ps_expr (pe_clsfn cr hat FP hr (by rfl) gP kP bP (pa_cons (pv 0) (pa_cons pe_str pa_nil))))), ?_⟩
    exact ⟨_, rfl, a, C, "taken", rfl, oc, nw, ea, q⟩
theorem ok_BadPace {f fP CP : Addr} {fd fdP : FuncData} {mc : Value} (F : Fun K "__init__" "BadPace.__init__" s_p_BadPace___init__ f fd) (cr : ClX.CRead K CP mc) (hat : PySem.W.findCls K (.ref CP) mc "__init__" = some (.val (.ref fP))) (FP : FnOk P w K mg base CX0 1 fP fdP ["self", "word"] (spInit2 K))
    (gP : mg "PailError" = some (.ref CP)) (kP : PySem.W.keepIn K (.ref fP) = true) (bP : Binds K fdP ["self", "word"] []) : FnOk P w K mg base CX0 2 f fd ["self"] (spInit "bad pace" K) := by
  refine F.ok sc_p_BadPace___init__ (fun vs H Q E h => ?_) (fun cdv A outer s H vs Q E hr h => ?_)
  · obtain ⟨a, C, rfl, _⟩ := h
    rfl
  · obtain ⟨a, C, rfl, oc, nw, ea, q⟩ := h
    refine ⟨_, (pss_one (ps_expr (pe_clsfn cr hat FP hr (by rfl) gP kP bP (pa_cons (pv 0) (pa_cons pe_str pa_nil))))), ?_⟩
    exact ⟨_, rfl, a, C, "bad pace", rfl, oc, nw, ea, q⟩
theorem ok_Full {f fP CP : Addr} {fd fdP : FuncData} {mc : Value} (F : Fun K "__init__" "Full.__init__" s_p_Full___init__ f fd) (cr : ClX.CRead K CP mc) (hat : PySem.W.findCls K (.ref CP) mc "__init__" = some (.val (.ref fP))) (FP : FnOk P w K mg base CX0 1 fP fdP ["self", "word"] (spInit2 K))
    (gP : mg "PailError" = some (.ref CP)) (kP : PySem.W.keepIn K (.ref fP) = true) (bP : Binds K fdP ["self", "word"] []) : FnOk P w K mg base CX0 2 f fd ["self"] (spInit "full" K) := by
  refine F.ok sc_p_Full___init__ (fun vs H Q E h => ?_) (fun cdv A outer s H vs Q E hr h => ?_)
  · obtain ⟨a, C, rfl, _⟩ := h
    rfl
  · obtain ⟨a, C, rfl, oc, nw, ea, q⟩ := h
    refine ⟨_, (pss_one (ps_expr (pe_clsfn cr hat FP hr (by rfl) gP kP bP (pa_cons (pv 0) (pa_cons pe_str pa_nil))))), ?_⟩
    exact ⟨_, rfl, a, C, "full", rfl, oc, nw, ea, q⟩
theorem ok_NoHand {f fP CP : Addr} {fd fdP : FuncData} {mc : Value} (F : Fun K "__init__" "NoHand.__init__" s_p_NoHand___init__ f fd) (cr : ClX.CRead K CP mc) (hat : PySem.W.findCls K (.ref CP) mc "__init__" = some (.val (.ref fP))) (FP : FnOk P w K mg base CX0 1 fP fdP ["self", "word"] (spInit2 K))
    (gP : mg "PailError" = some (.ref CP)) (kP : PySem.W.keepIn K (.ref fP) = true) (bP : Binds K fdP ["self", "word"] []) : FnOk P w K mg base CX0 2 f fd ["self"] (spInit "no hand" K) := by
  refine F.ok sc_p_NoHand___init__ (fun vs H Q E h => ?_) (fun cdv A outer s H vs Q E hr h => ?_)
  · obtain ⟨a, C, rfl, _⟩ := h
    rfl
  · obtain ⟨a, C, rfl, oc, nw, ea, q⟩ := h
    refine ⟨_, (pss_one (ps_expr (pe_clsfn cr hat FP hr (by rfl) gP kP bP (pa_cons (pv 0) (pa_cons pe_str pa_nil))))), ?_⟩
    exact ⟨_, rfl, a, C, "no hand", rfl, oc, nw, ea, q⟩
theorem ok_BadCount {f fP CP : Addr} {fd fdP : FuncData} {mc : Value} (F : Fun K "__init__" "BadCount.__init__" s_p_BadCount___init__ f fd) (cr : ClX.CRead K CP mc) (hat : PySem.W.findCls K (.ref CP) mc "__init__" = some (.val (.ref fP))) (FP : FnOk P w K mg base CX0 1 fP fdP ["self", "word"] (spInit2 K))
    (gP : mg "PailError" = some (.ref CP)) (kP : PySem.W.keepIn K (.ref fP) = true) (bP : Binds K fdP ["self", "word"] []) : FnOk P w K mg base CX0 2 f fd ["self"] (spInit "bad count" K) := by
  refine F.ok sc_p_BadCount___init__ (fun vs H Q E h => ?_) (fun cdv A outer s H vs Q E hr h => ?_)
  · obtain ⟨a, C, rfl, _⟩ := h
    rfl
  · obtain ⟨a, C, rfl, oc, nw, ea, q⟩ := h
    refine ⟨_, (pss_one (ps_expr (pe_clsfn cr hat FP hr (by rfl) gP kP bP (pa_cons (pv 0) (pa_cons pe_str pa_nil))))), ?_⟩
    exact ⟨_, rfl, a, C, "bad count", rfl, oc, nw, ea, q⟩
theorem ok_Nobody {f fP CP : Addr} {fd fdP : FuncData} {mc : Value} (F : Fun K "__init__" "Nobody.__init__" s_p_Nobody___init__ f fd) (cr : ClX.CRead K CP mc) (hat : PySem.W.findCls K (.ref CP) mc "__init__" = some (.val (.ref fP))) (FP : FnOk P w K mg base CX0 1 fP fdP ["self", "word"] (spInit2 K))
    (gP : mg "PailError" = some (.ref CP)) (kP : PySem.W.keepIn K (.ref fP) = true) (bP : Binds K fdP ["self", "word"] []) : FnOk P w K mg base CX0 2 f fd ["self"] (spInit "nobody" K) := by
  refine F.ok sc_p_Nobody___init__ (fun vs H Q E h => ?_) (fun cdv A outer s H vs Q E hr h => ?_)
  · obtain ⟨a, C, rfl, _⟩ := h
    rfl
  · obtain ⟨a, C, rfl, oc, nw, ea, q⟩ := h
    refine ⟨_, (pss_one (ps_expr (pe_clsfn cr hat FP hr (by rfl) gP kP bP (pa_cons (pv 0) (pa_cons pe_str pa_nil))))), ?_⟩
    exact ⟨_, rfl, a, C, "nobody", rfl, oc, nw, ea, q⟩
theorem ok_BadLabour {f fP CP : Addr} {fd fdP : FuncData} {mc : Value} (F : Fun K "__init__" "BadLabour.__init__" s_p_BadLabour___init__ f fd) (cr : ClX.CRead K CP mc) (hat : PySem.W.findCls K (.ref CP) mc "__init__" = some (.val (.ref fP))) (FP : FnOk P w K mg base CX0 1 fP fdP ["self", "word"] (spInit2 K))
    (gP : mg "PailError" = some (.ref CP)) (kP : PySem.W.keepIn K (.ref fP) = true) (bP : Binds K fdP ["self", "word"] []) : FnOk P w K mg base CX0 2 f fd ["self"] (spInit "bad labour" K) := by
  refine F.ok sc_p_BadLabour___init__ (fun vs H Q E h => ?_) (fun cdv A outer s H vs Q E hr h => ?_)
  · obtain ⟨a, C, rfl, _⟩ := h
    rfl
  · obtain ⟨a, C, rfl, oc, nw, ea, q⟩ := h
    refine ⟨_, (pss_one (ps_expr (pe_clsfn cr hat FP hr (by rfl) gP kP bP (pa_cons (pv 0) (pa_cons pe_str pa_nil))))), ?_⟩
    exact ⟨_, rfl, a, C, "bad labour", rfl, oc, nw, ea, q⟩

theorem Drawn.get : ∀ {ds qs : List Int} {i : Nat} {q : Int}, Drawn ds qs → qs[i]? = some q → ∃ d, ds[i]? = some d ∧ 0 ≤ d ∧ d < q
  | [], [], i, q, _, e => by simp at e
  | [], _ :: _, _, _, h, _ => h.elim
  | _ :: _, [], _, _, h, _ => h.elim
  | d :: _, _ :: _, 0, q, h, e => by
    obtain rfl := Option.some.inj e
    exact ⟨d, rfl, h.1.1, h.1.2⟩
  | _ :: ds, _ :: qs, i + 1, q, h, e => Drawn.get (ds := ds) (qs := qs) h.2 e
theorem at_map {ds : List Int} {i : Nat} {d z : Int} (hz : z = (i : Int)) (h : ds[i]? = some d) : atI (ds.map V.int) z = some (.int d) := by
  subst hz
  exact at_of (j := i) rfl (by rw [List.getElem?_map, h]; rfl)

theorem am_at {K : PySem.W.Frag} {H : Hp} {us : List V} {ps : List Rat} (hd : DpAll K H us ((ps.map am).map amD)) {i : Nat} (hi : i < ps.length) : ∃ b, us[i]? = some (.ref b) ∧ SqT K H b (tv (am ps[i])) := by
  obtain ⟨v, e1, e2⟩ := dpa_get hd (i := i) (d := amD (am ps[i])) (by rw [List.getElem?_map, List.getElem?_map, List.getElem?_eq_getElem hi]; rfl)
  obtain ⟨b, rfl, hb⟩ := pd_at e2
  exact ⟨b, e1, hb⟩

theorem bd_int {k : Int} (h : k.natAbs < 2 ^ 3900) : Bd 4000 ((k, 1) : Am) := ⟨Nat.lt_trans h (Nat.pow_lt_pow_right (by decide) (by decide)), by show (1 : Int).natAbs < 2 ^ 4000; exact Nat.one_lt_two_pow (by decide)⟩
theorem small {k : Int} (h : k.natAbs < 2 ^ 60) : k.natAbs < 2 ^ 3900 := Nat.lt_trans h (Nat.pow_lt_pow_right (by decide) (by decide))
theorem bd_fr {D k : Int} {r : Rat} (hD : 0 < D) (hd : D.natAbs < 2 ^ 3900) (h1 : 1 ≤ k) (h2 : k ≤ 12) (h : Fr (D * k) r) (h3 : -(1000 : Rat) ≤ r) (h4 : r ≤ 1000) : Bd 4000 (am r) := by
  have e : (2 : Nat) ^ 4000 = 2 ^ 100 * 2 ^ 3900 := by rw [← Nat.pow_add]
  have a1 : (D * k).natAbs ≤ 16 * D.natAbs := by rw [Int.natAbs_mul, Nat.mul_comm]; exact Nat.mul_le_mul_right _ (by omega)
  have a2 : (1000 * (D * k)).natAbs ≤ 16000 * D.natAbs := by rw [Int.natAbs_mul]; show 1000 * _ ≤ _; omega
  have a3 : (2 : Nat) ^ 100 * 2 ^ 3900 ≥ 16000 * 2 ^ 3900 := Nat.mul_le_mul_right _ (by decide)
  exact fr_bd (D := D * k) (B := 1000) (Int.mul_pos hD (by omega)) h h3 h4 (by omega) (by omega)
theorem bd_fr1 {D : Int} {r : Rat} (hD : 0 < D) (hd : D.natAbs < 2 ^ 3900) (h : Fr D r) (h3 : -(1000 : Rat) ≤ r) (h4 : r ≤ 1000) : Bd 4000 (am r) :=
  bd_fr (k := 1) hD hd (by decide) (by decide) (by rw [Int.mul_one]; exact h) h3 h4

theorem bdL {D : Int} {r : Rat} (hD : 0 < D) (hd : D.natAbs < 2 ^ 3900) (h : Fr D r) (h3 : 0 ≤ r) (h4 : r ≤ 1000000) : Bd 4000 (am r) := by
  have e : (2 : Nat) ^ 4000 = 2 ^ 100 * 2 ^ 3900 := by rw [← Nat.pow_add]
  have a2 : (1000000 * D).natAbs ≤ 1000000 * D.natAbs := by rw [Int.natAbs_mul]; exact Nat.le_refl _
  have a3 : (2 : Nat) ^ 100 * 2 ^ 3900 ≥ 1000001 * 2 ^ 3900 := Nat.mul_le_mul_right _ (by decide)
  exact fr_bd (D := D) (B := 1000000) hD h (neg_le h3 (by decide)) h4 (by omega) (by omega)
theorem bdX {D : Int} {r : Rat} (hD : 0 < D) (hd : D.natAbs < 2 ^ 3900) (h : Fr D r) (h3 : 0 ≤ r) (h4 : r ≤ 1000000000) : Bd 4000 (am r) := by
  have e : (2 : Nat) ^ 4000 = 2 ^ 100 * 2 ^ 3900 := by rw [← Nat.pow_add]
  have a2 : (1000000000 * D).natAbs ≤ 1000000000 * D.natAbs := by rw [Int.natAbs_mul]; exact Nat.le_refl _
  have a3 : (2 : Nat) ^ 100 * 2 ^ 3900 ≥ 1000000001 * 2 ^ 3900 := Nat.mul_le_mul_right _ (by decide)
  exact fr_bd (D := D) (B := 1000000000) hD h (neg_le h3 (by decide)) h4 (by omega) (by omega)
theorem mul_rng {m L g : Rat} (h0 : 0 ≤ m) (h1 : m ≤ L) (g0 : 1 ≤ g) (g1 : g ≤ 12) : 0 ≤ m * g ∧ m * g ≤ 12 * L := by
  have a := Rat.mul_le_mul_of_nonneg_left g1 h0
  have b := Rat.mul_le_mul_of_nonneg_left g0 h0
  exact ⟨by grind, by grind⟩
theorem mul_rng0 {m L g : Rat} (h0 : 0 ≤ m) (h1 : m ≤ L) (g0 : 0 ≤ g) (g1 : g ≤ 12) : 0 ≤ m * g ∧ m * g ≤ 12 * L := by
  have a := Rat.mul_le_mul_of_nonneg_left g1 h0
  have b := Rat.mul_nonneg h0 g0
  exact ⟨b, by grind⟩
theorem div_nn {a : Rat} {k : Int} (hk : 1 ≤ k) (ha : 0 ≤ a) : 0 ≤ a / (k : Rat) := by
  have e := div_mul (a := a) (show 0 < k by omega)
  by_cases c : a / (k : Rat) < 0
  · have := Rat.mul_lt_mul_of_pos_right c (cp (show 0 < k by omega))
    grind
  · exact Rat.not_lt.mp c
/-- lists of amounts -/
def AmL (K : PySem.W.Frag) (H : Hp) (us : List V) (rs : List Rat) : Prop := DpAll K H us ((rs.map am).map amD)
theorem AmL.len {K : PySem.W.Frag} {H : Hp} {us : List V} {rs : List Rat} (h : AmL K H us rs) : us.length = rs.length := by rw [dpa_len h, List.length_map, List.length_map]
theorem AmL.at {K : PySem.W.Frag} {H : Hp} {us : List V} {rs : List Rat} (h : AmL K H us rs) {i : Nat} (hi : i < rs.length) : ∃ b, us[i]? = some (.ref b) ∧ SqT K H b (tv (am (rs.getD i 0))) := by
  rw [getD_lt hi]
  exact am_at h hi
theorem AmL.keep {T : Tb} {K : PySem.W.Frag} {H H' : Hp} {us : List V} {rs : List Rat} (h : AmL K H us rs) (s : Sm T H H') : AmL K H' us rs := dpa_same s _ _ h
theorem AmL.push {K : PySem.W.Frag} {H : Hp} {us : List V} {rs : List Rat} {D b : Addr} {xs : List V} {o : HO} {r : Rat} (h : AmL K H us rs) (hD : H D = some (.lst xs)) (hb : SqT K H b (tv (am r))) : AmL K (upd H D o) (us ++ [.ref b]) (rs ++ [r]) := by
  unfold AmL
  rw [List.map_append, List.map_append]
  exact dpa_app (pds_mut hD h) (.cons (pd_mut (amD_dp hb) hD) .nil)
theorem AmL.mut {K : PySem.W.Frag} {H : Hp} {us : List V} {rs : List Rat} {D : Addr} {xs : List V} {o : HO} (h : AmL K H us rs) (hD : H D = some (.lst xs)) : AmL K (upd H D o) us rs := pds_mut hD h
theorem AmL.dp {K : PySem.W.Frag} {H : Hp} {us : List V} {rs : List Rat} {a : Addr} (h : AmL K H us rs) (ha : SqL K H a us) : Dp K H (.ref a) (.list ((rs.map am).map amD)) := .lst ha h
theorem take_range {α : Type} {f : Nat → α} {i : Nat} : ((List.range (i + 1)).map f) = (List.range i).map f ++ [f i] := by rw [List.range_succ, List.map_append]; rfl

theorem at_neg1 {α : Type} {xs : List α} {v : α} (h : 0 < xs.length) (e : xs[xs.length - 1]? = some v) : atI xs (-1) = some v := by
  have hne : xs ≠ [] := by intro c; rw [c] at h; exact Nat.lt_irrefl _ h
  obtain ⟨ys, z, rfl⟩ : ∃ ys z, xs = ys ++ [z] := ⟨xs.dropLast, xs.getLast hne, (List.dropLast_concat_getLast hne).symm⟩
  rw [List.length_append, show ys.length + [z].length - 1 = ys.length by simp, List.getElem?_append_right (Nat.le_refl _), Nat.sub_self] at e
  obtain rfl : z = v := Option.some.inj e
  exact atI_last _ _

theorem by_am (r : Rat) {k : Int} (hk : 0 < k) : amt (am r).1 ((am r).2 * k) = am (r / (k : Rat)) := by
  have h1 := am_pos r
  rw [amt_am (Int.mul_ne_zero (by omega) (by omega))]
  congr 1
  have e1 := vl_am r
  unfold vl at e1
  have k1 := cn (a := (am r).2) (by omega)
  have k2 := cn (a := k) (by omega)
  rw [Rat.intCast_mul]
  grind
theorem mul_am (r : Rat) (k : Int) : amt ((am r).1 * k) (am r).2 = am (r * (k : Rat)) := by
  have h1 := am_pos r
  rw [amt_am (by omega)]
  congr 1
  have e1 := vl_am r
  unfold vl at e1
  have k1 := cn (a := (am r).2) (by omega)
  rw [Rat.intCast_mul]
  grind

def sp_l_cell (K : PySem.W.Frag) (T : Tb) : Sp := fun vs H Q _ => ∃ (a : Addr) (ns : List Int) (k : Int), vs = [.ref a, .int k] ∧ SqL K H a (ns.map V.int) ∧ 0 ≤ k ∧ ∀ z : Int, Q (.int z) H
theorem ok_l_cell {f : Addr} {fd : FuncData} (F : Fun K "_law_cell" "_law_cell" s_l_cell f fd) (B : Bn mg) : FnOk P w K mg base CX0 1 f fd ["_law_script", "_law_k"] (sp_l_cell K T) := by
  refine F.ok sc_l_cell (fun vs H Q E h => ?_) (fun cdv A outer s H vs Q E hr h => ?_)
  · obtain ⟨a, ns, k, rfl, _⟩ := h
    rfl
  · obtain ⟨a, ns, k, rfl, hS, hk, q⟩ := h
    refine ⟨_, (pss_cons (ps_if (pt_cmpR op_lt (pv 1) (pe_callB call_len_seq (by rfl) B.len_ (by decide +kernel) (pa_cons (pv 0) pa_nil)) (nomark _)) (pss_one (ps_ret (pe_ix ix_list (pv 0) (pv 1) (fun _ _ => rfl)))) pss_nil)
      (pss_one (ps_ret (pe_op op_add (pe_op op_add (pe_op op_mul (pe_op op_mod (pe_callB (cr_sum rfl) (by rfl) B.sum_ (by decide +kernel) (pa_cons (pv 0) pa_nil)) pe_int) pe_int) (pe_op op_mul (pe_callB call_len_seq (by rfl) B.len_ (by decide +kernel) (pa_cons (pv 0) pa_nil)) pe_int)) (pe_op op_mul (pv 1) pe_int))))), ?_⟩
    refine ⟨_, rfl, _, rfl, a, _, rfl, .inl hS, _, _, rfl, rfl, _, rfl, ite2 (fun e => ?_) (fun e => ?_)⟩
    · have e' : k < ((ns.map V.int).length : Int) := of_decide_eq_true e
      rw [List.length_map] at e'
      obtain ⟨j, rfl⟩ : ∃ j : Nat, k = (j : Int) := ⟨k.toNat, by omega⟩
      have hj : j < ns.length := by omega
      refine ⟨_, rfl, _, rfl, a, _, _, .int ns[j], rfl, rfl, hS, atI_nat (by rw [List.getElem?_map, List.getElem?_eq_getElem hj]; rfl), q _⟩
    · refine ⟨_, rfl, a, ns, rfl, hS, ?_⟩
      refine ⟨_, _, rfl, rfl, (by show (0 : Int) < 1000003; decide), _, _, rfl, rfl, .inr ⟨by decide, by decide⟩, ?_⟩
      refine ⟨_, rfl, a, _, rfl, .inl hS, _, _, rfl, rfl, .inr ⟨by decide, by decide⟩, _, _, rfl, rfl, ?_⟩
      refine ⟨_, rfl, _, _, rfl, rfl, .inr ⟨by decide, by decide⟩, _, _, rfl, rfl, q _⟩

def sp_l_draws (K : PySem.W.Frag) (T : Tb) : Sp := fun vs H Q _ => ∃ (c : Int) (a : Addr) (qs : List Int), vs = [.int c, .ref a] ∧ SqL K H a (qs.map V.int) ∧ qs.length ≤ 1000 ∧ (∀ q ∈ qs, 0 < q ∧ q.natAbs < 2 ^ 100) ∧
  ∀ p H' (ds : List Int), Sm T H H' → H p = none → H' p = some (.lst (ds.map V.int)) → Drawn ds qs → Q (.ref p) H'
theorem ok_l_draws {f : Addr} {fd : FuncData} (F : Fun K "_law_draws" "_law_draws" s_l_draws f fd) : FnOk P w K mg base CX0 1 f fd ["_law_cell_here", "_law_parts"] (sp_l_draws K T) := by
  refine F.ok sc_l_draws (fun vs H Q E h => ?_) (fun cdv A outer s H vs Q E hr h => ?_)
  · obtain ⟨c, a, qs, rfl, _⟩ := h
    rfl
  · obtain ⟨c, a, qs, rfl, hS, hlen, hpos, q⟩ := h
    refine ⟨_, (pss_cons (ps_if (pt_cmpR op_lt (pv 0) (pe_op op_pow pe_int pe_int) (nomark _)) (pss_cons (ps_set (i := 2) sc_l_draws.nd rfl (.inl rfl) (pe_op op_mod (pe_op op_add (pe_op op_mul (pv 0) pe_int) pe_int) pe_int))
      (pss_cons (ps_set (i := 3) sc_l_draws.nd rfl (.inl rfl) (pe_op op_mod (pe_op op_add (pe_op op_add (pe_op op_mul (pv 2) (pv 2)) (pe_op op_mul pe_int (pv 2))) (pv 0)) pe_int))
      (pss_cons (ps_set (i := 4) sc_l_draws.nd rfl (.inl rfl) (pe_op op_mod (pe_op op_add (pe_op op_mul (pv 3) pe_int) (pv 2)) pe_int))
      (pss_one (ps_set (i := 0) sc_l_draws.nd rfl (.inl rfl) (pe_op op_add (pv 3) (pe_op op_mul pe_int (pe_op op_add (pv 4) (pe_op op_mul pe_int (pv 2)))))))))) (pss_one (ps_set (i := 0) sc_l_draws.nd rfl (.inl rfl) (pe_op op_sub (pv 0) (pe_op op_pow pe_int pe_int)))))
      (pss_cons (ps_set (i := 5) sc_l_draws.nd rfl (.inl rfl) (pe_lst pa_nil))
      (pss_cons (ps_for PassesOwn.never rfl (pi_list (pv 1)) (pg_name (i := 6) sc_l_draws.nd rfl (.inl rfl))
      (pss_cons (ps_expr (pe_bm PySem.F.plainAttrs_list PySem.F.slot_list_append PySem.F.type_list_append mt_append (pv 5) (pa_cons (pe_op op_mod (pv 0) (pv 6)) pa_nil)))
      (pss_one (ps_set (i := 0) sc_l_draws.nd rfl (.inl rfl) (pe_op op_fdivW (pv 0) (pv 6))))))
      (pss_one (ps_ret (pv 5)))))), ?_⟩
    refine seq_if (fun σ' H' => H' = H ∧ ∃ (c : Int) (x2 x3 x4 : Option V), σ' = [some (.int c), some (.ref a), x2, x3, x4, none, none]) (fun σ' H' p => ?_) (fun k => ?_)
    · obtain ⟨rfl, c, x2, x3, x4, rfl⟩ := p
      refine ⟨Nat.zero_le _, fun o no => ?_⟩
      refine ⟨_, rfl, a, rfl, ⟨_, (same_upd (T := T) no).seq hS⟩, for_list (K := K) (a := a) (xs := qs.map V.int)
        (fun i σ H3 => ∃ (c : Int) (x6 : Option V) (ds : List Int), σ = [some (.int c), some (.ref a), x2, x3, x4, some (.ref o), x6] ∧ Sm T H' H3 ∧ H3 o = some (.lst (ds.map V.int)) ∧ Drawn ds (qs.take i))
        ⟨c, none, [], rfl, same_upd no, upd_same, trivial⟩ (fun i σ H3 _ ⟨_, _, _, _, sm, _⟩ => sm.seq hS) ?_ ?_⟩
      · rintro i y σ H3 hi ⟨c, x6, ds, rfl, sm, eo, hd⟩
        rw [List.getElem?_map] at hi
        obtain ⟨qi, hq, rfl⟩ : ∃ qi, qs[i]? = some qi ∧ V.int qi = y := Option.map_eq_some_iff.mp hi
        have hqm := hpos qi (List.mem_of_getElem? hq)
        have hil : i < qs.length := (List.getElem?_eq_some_iff.mp hq).1
        refine ⟨_, rfl, .inl ⟨rfl, _, SqL.of eo⟩, _, rfl, _, rfl, _, _, rfl, rfl, hqm.1, o, _, _, rfl, rfl, eo, ?_, ?_⟩
        · rw [List.length_map, hd.length, List.length_take]
          exact szl (by omega)
        · refine ⟨_, rfl, _, rfl, _, _, rfl, rfl, wide_div hqm.1 hqm.2 (by decide) (by decide), ?_⟩
          refine ⟨_, _, ds ++ [c % qi], rfl, same_mut sm no eo, ?_, ?_⟩
          · rw [upd_same, List.map_append]
            rfl
          · rw [List.take_add_one, hq]
            exact hd.snoc (Int.emod_nonneg _ (by omega)) (Int.emod_lt_of_pos _ hqm.1)
      · rintro σ H3 ⟨c, x6, ds, rfl, sm, eo, hd⟩
        rw [List.length_map, List.take_length] at hd
        exact ⟨_, rfl, q o H3 ds sm no eo hd⟩
    · have b1 := Int.emod_nonneg (c * 48271 + 11) (show (2147483647 : Int) ≠ 0 by decide)
      have b2 := Int.emod_lt_of_pos (c * 48271 + 11) (show (0 : Int) < 2147483647 by decide)
      refine ⟨_, rfl, _, _, rfl, rfl, ⟨by decide, by decide, by decide⟩, _, _, rfl, rfl, _, rfl, ite2 (fun e => ?_) (fun e => ?_)⟩
      · refine ⟨_, rfl, _, _, rfl, rfl, .inr ⟨by decide, by decide⟩, _, _, rfl, rfl, _, _, rfl, rfl, (by show (0 : Int) < 2147483647; decide), ?_⟩
        refine ⟨_, rfl, _, rfl, _, _, rfl, rfl, .inl ⟨by omega, by omega⟩, ?_⟩
        refine ⟨_, rfl, _, _, rfl, rfl, .inl ⟨by decide, by decide⟩, _, _, rfl, rfl, _, rfl, _, _, rfl, rfl, _, _, rfl, rfl, (by show (0 : Int) < 2147483399; decide), ?_⟩
        refine ⟨_, rfl, _, _, rfl, rfl, .inr ⟨by decide, by decide⟩, _, rfl, _, _, rfl, rfl, _, _, rfl, rfl, (by show (0 : Int) < 1000000007; decide), ?_⟩
        refine ⟨_, rfl, _, rfl, _, rfl, _, _, rfl, rfl, .inl ⟨by decide, by decide⟩, _, _, rfl, rfl, _, _, rfl, rfl, .inl ⟨by decide, by decide⟩, _, _, rfl, rfl, ?_⟩
        exact k _ _ ⟨rfl, _, _, _, _, rfl⟩
      · refine ⟨_, rfl, _, _, rfl, rfl, ⟨by decide, by decide, by decide⟩, _, _, rfl, rfl, ?_⟩
        exact k _ _ ⟨rfl, _, _, _, _, rfl⟩

def sp_l_many (K : PySem.W.Frag) (T : Tb) : Sp := fun vs H Q _ => ∃ (a : Addr) (ns : List Int) (k : Int), vs = [.ref a, .int k] ∧ SqL K H a (ns.map V.int) ∧ 0 ≤ k ∧ k ≤ 63 ∧ ∀ m : Nat, (k ≤ (m : Int) ∧ m ≤ 63) → Q (.int m) H
theorem ok_l_many {f : Addr} {fd : FuncData} (F : Fun K "_law_many" "_law_many" s_l_many f fd) (B : Bn mg) : FnOk P w K mg base CX0 1 f fd ["_law_script", "_law_few"] (sp_l_many K T) := by
  refine F.ok sc_l_many (fun vs H Q E h => ?_) (fun cdv A outer s H vs Q E hr h => ?_)
  · obtain ⟨a, ns, k, rfl, _⟩ := h
    rfl
  · obtain ⟨a, ns, k, rfl, hS, h0, h1, q⟩ := h
    refine ⟨_, (pss_one (ps_ret (pe_callB (call_max2 rfl) (by rfl) B.max_ (by decide +kernel) (pa_cons (pv 1) (pa_cons (pe_callB (call_min2 rfl) (by rfl) B.min_ (by decide +kernel) (pa_cons (pe_callB call_len_seq (by rfl) B.len_ (by decide +kernel) (pa_cons (pv 0) pa_nil)) (pa_cons pe_int pa_nil))) pa_nil))))), ?_⟩
    refine ⟨_, rfl, _, rfl, a, _, rfl, .inl hS, _, _, rfl, _, _, rfl, ?_⟩
    rw [List.length_map]
    have e : ∃ m : Nat, (k ≤ (m : Int) ∧ m ≤ 63) ∧ (if (if (63 : Int) < (ns.length : Int) then 63 else (ns.length : Int)) > k then (if (63 : Int) < (ns.length : Int) then 63 else (ns.length : Int)) else k) = (m : Int) := by
      refine ⟨(if (if (63 : Int) < (ns.length : Int) then 63 else (ns.length : Int)) > k then (if (63 : Int) < (ns.length : Int) then 63 else (ns.length : Int)) else k).toNat, ⟨?_, ?_⟩, ?_⟩ <;> (split <;> (try split) <;> omega)
    obtain ⟨m, hm, em⟩ := e
    rw [em]
    exact q m hm

def sp_l_split (K : PySem.W.Frag) (T : Tb) : Sp := fun vs H Q _ => ∃ (c : Int) (n : Nat), vs = [.int c, .int n] ∧ n ≤ 100 ∧
  ∀ p H' (zs : List Int), Sm T H H' → H p = none → H' p = some (.lst (zs.map V.int)) → zs.length = n → Q (.ref p) H'
theorem ok_l_split {f : Addr} {fd : FuncData} (F : Fun K "_law_split" "_law_split" s_l_split f fd) (B : Bn mg) : FnOk P w K mg base CX0 1 f fd ["_law_cell_here", "_law_many_here"] (sp_l_split K T) := by
  refine F.ok sc_l_split (fun vs H Q E h => ?_) (fun cdv A outer s H vs Q E hr h => ?_)
  · obtain ⟨c, n, rfl, _⟩ := h
    rfl
  · obtain ⟨c, n, rfl, hn, q⟩ := h
    refine ⟨_, (pss_cons (ps_set (i := 2) sc_l_split.nd rfl (.inl rfl) (pe_lst pa_nil))
      (pss_cons (ps_set (i := 3) sc_l_split.nd rfl (.inl rfl) (pe_cmpR op_ge (pv 0) (pe_op op_pow pe_int pe_int) (nomark _)))
      (pss_cons (ps_for PassesOwn.never rfl (pi_range1 (by rfl) B.range_ (pa_cons (pv 1) pa_nil)) (pg_name (i := 4) sc_l_split.nd rfl (.inl rfl))
      (pss_one (ps_if (pt_val (pv 3)) (pss_cons (ps_expr (pe_bm PySem.F.plainAttrs_list PySem.F.slot_list_append PySem.F.type_list_append mt_append (pv 2) (pa_cons (pe_op op_add (pe_op op_pow pe_int pe_int) (pe_op op_mod (pv 0) (pe_op op_pow pe_int pe_int))) pa_nil)))
      (pss_one (ps_set (i := 0) sc_l_split.nd rfl (.inl rfl) (pe_op op_fdivW (pv 0) (pe_op op_pow pe_int pe_int))))) (pss_one (ps_expr (pe_bm PySem.F.plainAttrs_list PySem.F.slot_list_append PySem.F.type_list_append mt_append (pv 2) (pa_cons (pe_op op_add (pe_op op_mul (pv 0) (pe_op op_add (pe_op op_mul pe_int (pv 4)) pe_int)) (pe_op op_mul pe_int (pv 4))) pa_nil)))))))
      (pss_one (ps_ret (pv 2)))))), ?_⟩
    refine ⟨Nat.zero_le _, fun o no => ?_⟩
    refine ⟨_, rfl, _, _, rfl, rfl, ⟨by decide, by decide, by decide⟩, _, _, rfl, rfl, ?_⟩
    refine ⟨_, rfl, n, rfl, by omega, by omega, for_range (lo := 0) (n := n)
      (fun i σ H3 => ∃ (c : Int) (b : Bool) (x4 : Option V) (zs : List Int), σ = [some (.int c), some (.int n), some (.ref o), some (.bl b), x4] ∧ Sm T H H3 ∧ H3 o = some (.lst (zs.map V.int)) ∧ zs.length = i)
      ⟨c, _, none, [], rfl, same_upd no, upd_same, rfl⟩ ?_ ?_⟩
    · rintro i σ H3 hi ⟨c, b, x4, zs, rfl, sm, eo, hl⟩
      have hs : (zs.map V.int).length < sizeLine := by
        rw [List.length_map]
        exact szl (by omega)
      refine ⟨_, rfl, _, rfl, ?_⟩
      cases b with
      | true =>
        refine iteT ?_
        refine ⟨_, rfl, .inl ⟨rfl, _, SqL.of eo⟩, _, _, rfl, rfl, ⟨by decide, by decide, by decide⟩, _, rfl, _, _, rfl, rfl, ⟨by decide, by decide, by decide⟩, _, _, rfl, rfl, (by show (0 : Int) < 10 ^ 30; decide), _, _, rfl, rfl, o, _, _, rfl, rfl, eo, hs, ?_⟩
        refine ⟨_, rfl, _, _, rfl, rfl, ⟨by decide, by decide, by decide⟩, _, _, rfl, rfl, wide_div (b := 200) (by show (0 : Int) < 10 ^ 30; decide) (by decide) (by decide) (by decide), ?_⟩
        refine ⟨_, true, _, zs ++ [10 ^ (18 : Int).toNat + c % 10 ^ (30 : Int).toNat], rfl, same_mut sm no eo, ?_, ?_⟩
        · rw [upd_same, List.map_append]
          rfl
        · rw [List.length_append, hl]
          rfl
      | false =>
        refine iteF ?_
        refine ⟨_, rfl, .inl ⟨rfl, _, SqL.of eo⟩, _, rfl, _, rfl, _, _, rfl, rfl, .inl ⟨by decide, by decide⟩, _, _, rfl, rfl, _, _, rfl, rfl, .inr ⟨by omega, by omega⟩, _, rfl, _, _, rfl, rfl, .inl ⟨by decide, by decide⟩, _, _, rfl, rfl, o, _, _, rfl, rfl, eo, hs, ?_⟩
        refine ⟨_, false, _, zs ++ [c * (2 * (0 + (i : Int)) + 3) + 7919 * (0 + (i : Int))], rfl, same_mut sm no eo, ?_, ?_⟩
        · rw [upd_same, List.map_append]
          rfl
        · rw [List.length_append, hl]
          rfl
    · rintro σ H3 ⟨c, b, x4, zs, rfl, sm, eo, hl⟩
      exact ⟨_, rfl, q o H3 zs sm no eo hl⟩

end
/-! ### the head by one kernel run: what is looked at behind the top -/
def hrRef (o : Obj) : List Addr := match o.data with
  | .dict es _ => es.toList.flatMap fun e => He.refV e.val
  | .func fd => He.refV fd.code
  | .cls cd => [cd.ns]
  | _ => []
def hrStep (g : Addr → Option Obj) (as : List Addr) : List Addr := as.flatMap fun a => match g a with
  | some o => hrRef o
  | none => []
def hrAll (g : Addr → Option Obj) : Nat → List Addr → List Addr
  | 0, as => as ++ [cStatics]
  | n + 1, as => as ++ hrAll g n (hrStep g as)
def hrK (g : Addr → Option Obj) : PySem.W.Frag := He.frG g (hrAll g 4 [mainGlobals])
theorem hrK_in {h : Heap} : (hrK h.get?).In h := He.frG_in
/-- an error class -/
def hrErr (K : PySem.W.Frag) (CP C : Addr) : Bool := (match K.lookup C with
  | some ⟨.type t, _, .cls cd, sl⟩ => (match cd.mro, sl.toList with
    | .ref D :: bm, [_, _, _, _, some (.builtin n), _] => decide (t = "type") && (Nat.beq D C && (decide (n = "ValueError.__new__") && ((!cd.hasDel) && (cd.hasDict && PySem.HandSPX.refsVE bm))))
    | _, _ => false)
  | _ => false) && (He.eqO (PySem.W.findIn K (.ref C) "__setattr__") (some (some (.builtin "object.__setattr__"))) && (He.eqO (PySem.W.findIn K (.ref C) "word") (some none) && (xfB K C && (PySem.W.keepIn K (.ref C) &&
    (decide (PySem.W.typeIn K (.ref C) = some (.type "type")) && (decide (PySem.W.subIn K (.ref C) (.ref CP) = some true) && decide (PySem.W.typeIn K (.ref (He.ma K C "__init__")) = some (.type "function"))))))))
theorem hrErr_ok {K : PySem.W.Frag} {CP C : Addr} (h : hrErr K CP C = true) : OexC K C ∧ XfC K C ∧ PySem.W.findIn K (.ref C) "word" = some none ∧ PySem.W.subIn K (.ref C) (.ref CP) = some true ∧ PySem.W.typeIn K (.ref (He.ma K C "__init__")) = some (.type "function") := by
  obtain ⟨h0, h⟩ := He.ba h
  obtain ⟨h1, h⟩ := He.ba h
  obtain ⟨h2, h⟩ := He.ba h
  obtain ⟨h3, h⟩ := He.ba h
  obtain ⟨h4, h⟩ := He.ba h
  obtain ⟨h5, h⟩ := He.ba h
  obtain ⟨h6, h7⟩ := He.ba h
  have X := xfB_ok h3
  refine ⟨⟨?_, He.eqO_ok h1, X.exC, of_decide_eq_true h5, h4⟩, X, He.eqO_ok h2, of_decide_eq_true h6, of_decide_eq_true h7⟩
  cases lk : K.lookup C with
  | none => rw [lk] at h0; cases h0
  | some o =>
    obtain ⟨oc, od, dt, sl⟩ := o
    rw [lk] at h0
    cases oc with
    | type t =>
      cases dt with
      | cls cd =>
        obtain ⟨nm, bs, mro, ns, qn, hd, sn, sub, ab, col, del⟩ := cd
        obtain ⟨sl⟩ := sl
        cases mro with
        | nil => cases h0
        | cons D0 bm =>
          cases D0 with
          | ref D =>
            rcases sl with _ | ⟨k0, _ | ⟨k1, _ | ⟨k2, _ | ⟨k3, _ | ⟨k4, _ | ⟨k5, _ | ⟨k6, sl⟩⟩⟩⟩⟩⟩⟩ <;> try (cases h0; done)
            · cases k4 with
              | none => cases h0
              | some k4 => cases k4 <;> cases h0
            · cases k4 with
              | none => cases h0
              | some k4 =>
                cases k4 with
                | builtin n =>
                  obtain ⟨g1, h0⟩ := He.ba h0
                  obtain ⟨g2, h0⟩ := He.ba h0
                  obtain ⟨g3, h0⟩ := He.ba h0
                  obtain ⟨g4, h0⟩ := He.ba h0
                  obtain ⟨g5, g6⟩ := He.ba h0
                  have q1 := of_decide_eq_true g1
                  have q2 := Nat.eq_of_beq_eq_true g2
                  have q3 := of_decide_eq_true g3
                  have q4 : del = false := by cases del <;> first | rfl | cases g4
                  have q5 : hd = true := g5
                  subst q1 q2 q3 q4 q5
                  exact ⟨nm, qn, ns, bs, bm, sn, sub, ab, col, od, k0, k1, k2, k3, k5, rfl, g6⟩
                | _ => cases h0
            · cases k4 with
              | none => cases h0
              | some k4 => cases k4 <;> cases h0
          | _ => cases h0
      | _ => cases h0
    | _ => cases dt <;> cases h0
/-- the base of the error classes -/
def hrVal (r : Option PySem.W.CFound) (v : Value) : Bool := match r with
  | some (.val u) => decide (u = v)
  | _ => false
theorem hrVal_ok {r : Option PySem.W.CFound} {v : Value} (h : hrVal r v = true) : r = some (.val v) := by
  cases r with
  | none => cases h
  | some c =>
    cases c with
    | val u => rw [of_decide_eq_true (show decide (u = v) = true from h)]
    | get _ _ _ _ => cases h
def hrBase (K : PySem.W.Frag) (C : Addr) : Bool := PySem.W.readsIn K C (.type "type") && (He.eqO (PySem.W.specialIn K (.ref C) "__getattribute__") (some (some (.builtin "type.__getattribute__"))) && (hrVal (PySem.W.findCls K (.ref C) (.type "type") "__init__") (.ref (He.ma K C "__init__")) &&
  (decide (PySem.W.subIn K (.ref C) (.type "BaseException") = some true) && (PySem.W.isClsIn K C && (decide (PySem.W.typeIn K (.ref C) = some (.type "type")) && hrVal (PySem.W.findCls K (.type "ValueError") (.type "type") "__init__") (.builtin "ValueError.__init__"))))))
theorem hrBase_ok {K : PySem.W.Frag} {C : Addr} (h : hrBase K C = true) : PySem.W.readsIn K C (.type "type") = true ∧ PySem.W.specialIn K (.ref C) "__getattribute__" = some (some (.builtin "type.__getattribute__")) ∧ PySem.W.findCls K (.ref C) (.type "type") "__init__" = some (.val (.ref (He.ma K C "__init__"))) ∧
    PySem.W.subIn K (.ref C) (.type "BaseException") = some true ∧ PySem.W.isClsIn K C = true ∧ PySem.W.typeIn K (.ref C) = some (.type "type") ∧ PySem.W.findCls K (.type "ValueError") (.type "type") "__init__" = some (.val (.builtin "ValueError.__init__")) := by
  obtain ⟨h1, h⟩ := He.ba h
  obtain ⟨h2, h⟩ := He.ba h
  obtain ⟨h3, h⟩ := He.ba h
  obtain ⟨h4, h⟩ := He.ba h
  obtain ⟨h5, h⟩ := He.ba h
  obtain ⟨h6, h7⟩ := He.ba h
  exact ⟨h1, He.eqO_ok h2, hrVal_ok h3, of_decide_eq_true h4, h5, of_decide_eq_true h6, hrVal_ok h7⟩
/-- what isinstance asks of an own class -/
def hrIs (K : PySem.W.Frag) (C : Addr) : Bool := He.eqO (PySem.W.findIn K (.ref C) "__class__") (some (some (.builtin "object.__class__"))) && (He.eqO (PySem.W.specialIn K (.builtin "object.__class__") "__get__") (some (some (.builtin "getset_descriptor.__get__"))) &&
  (decide (PySem.W.takesIn K (.builtin "object.__class__") = some true) && (decide (PySem.W.mroIn K C (.type "object") = some true) && decide (PySem.W.kitOne K (.ref C) (.ref C) = some true))))
theorem hrIs_ok {K : PySem.W.Frag} {C : Addr} (cl : Cls K C) (h : hrIs K C = true) : C8.InsC K C := by
  obtain ⟨h1, h⟩ := He.ba h
  obtain ⟨h2, h⟩ := He.ba h
  obtain ⟨h3, h⟩ := He.ba h
  obtain ⟨h4, h5⟩ := He.ba h
  exact ⟨cl, He.eqO_ok h1, He.eqO_ok h2, of_decide_eq_true h3, of_decide_eq_true h4, of_decide_eq_true h5⟩
/-- one fact more, of K -/
inductive Hx where
  | fa (f : He.Fa)
  | err (p x : Str)
  | base (p : Str)
  | tup (x : Str) (vs : List He.Dv)
  | nod (tf : List He.Defn)
  | isc (x : Str)
  | kdt (x : Str) (kvs : List (Str × List Str))
  | kdf (x : Str) (kvs : List (Str × Str))
  | kdn (x : Str) (ks : List Str)
/-- a dict of the module: at each key a tuple of texts -/
def hrTupS (K : PySem.W.Frag) (a : Addr) (vs : List Str) : Bool := match K.lookup a with
  | some ⟨.type c, _, .seq its _, _⟩ => decide (c = "tuple") && (decide (its.size ≤ sizeLine) && He.relAll (vs.map V.str) its.toList)
  | _ => false
theorem hrTupS_ok {K : PySem.W.Frag} {a : Addr} {vs : List Str} (h : hrTupS K a vs = true) (H : Hp) : SqT K H a (vs.map V.str) := by
  unfold hrTupS at h
  cases q : K.lookup a with
  | none => rw [q] at h; cases h
  | some o =>
    obtain ⟨oc, od, dt, osl⟩ := o
    rw [q] at h
    cases oc with
    | type c =>
      cases dt with
      | seq its n =>
        obtain ⟨h1, h2⟩ := He.ba (show (decide (c = "tuple") && (decide (its.size ≤ sizeLine) && He.relAll (vs.map V.str) its.toList)) = true from h)
        obtain ⟨h3, h4⟩ := He.ba h2
        exact .inr ⟨_, its, n, q, congrArg Value.type (of_decide_eq_true h1), rfl, of_decide_eq_true h3, He.relAll_ok h4⟩
      | _ => cases h
    | _ => cases dt <;> cases h
def hrKd (K : PySem.W.Frag) (x : Str) (kvs : List (Str × List Str)) : Bool := kvs.all fun q => match PySem.W.nsIn K (He.ga K x) q.1 with
  | some (some (.ref t)) => hrTupS K t q.2
  | _ => false
theorem hrKd_ok {K : PySem.W.Frag} {x : Str} {kvs : List (Str × List Str)} (h : hrKd K x kvs = true) : ∀ q ∈ kvs, ∃ t, PySem.W.nsIn K (He.ga K x) q.1 = some (some (.ref t)) ∧ ∀ H, SqT K H t (q.2.map V.str) := fun q hq => by
  have h2 := List.all_eq_true.mp h q hq
  cases e : PySem.W.nsIn K (He.ga K x) q.1 with
  | none => rw [e] at h2; cases h2
  | some r =>
    rw [e] at h2
    cases r with
    | none => cases h2
    | some u =>
      cases u with
      | ref t => exact ⟨t, rfl, hrTupS_ok h2⟩
      | _ => cases h2
/-- a dict of the module: at each key a def of the module -/
def hrKdf (K : PySem.W.Frag) (x : Str) (kvs : List (Str × Str)) : Bool := kvs.all fun q => match PySem.W.nsIn K (He.ga K x) q.1 with
  | some (some (.ref t)) => Nat.beq t (He.ga K q.2)
  | _ => false
theorem hrKdf_ok {K : PySem.W.Frag} {x : Str} {kvs : List (Str × Str)} (h : hrKdf K x kvs = true) : ∀ q ∈ kvs, PySem.W.nsIn K (He.ga K x) q.1 = some (some (.ref (He.ga K q.2))) := fun q hq => by
  have h2 := List.all_eq_true.mp h q hq
  cases e : PySem.W.nsIn K (He.ga K x) q.1 with
  | none => rw [e] at h2; cases h2
  | some r =>
    rw [e] at h2
    cases r with
    | none => cases h2
    | some u =>
      cases u with
      | ref t => rw [Nat.eq_of_beq_eq_true h2]
      | _ => cases h2
/-- a dict of the module: no other key -/
def hrKdn (K : PySem.W.Frag) (x : Str) (ks : List Str) : Bool := match K.lookup (He.ga K x) with
  | some ⟨_, _, .dict es _, _⟩ => es.toList.all fun e => (match e.key with
    | .str z _ => ks.any fun k => decide (k = z)
    | _ => false) && !e.refKey
  | _ => false
theorem hrKdn_ok {K : PySem.W.Frag} {x : Str} {ks : List Str} (h : hrKdn K x ks = true) : ∀ z, z ∉ ks → PySem.W.nsIn K (He.ga K x) z = some none := fun z hz => by
  unfold hrKdn at h
  unfold PySem.W.nsIn
  cases q : K.lookup (He.ga K x) with
  | none => rw [q] at h; cases h
  | some o =>
    obtain ⟨oc, od, dt, osl⟩ := o
    rw [q] at h
    cases dt with
    | dict es ep =>
      have h : (es.toList.all fun e => (match e.key with
        | .str z _ => ks.any fun k => decide (k = z)
        | _ => false) && !e.refKey) = true := h
      have hn : es.toList.find? (·.key.isStr z) = none := List.find?_eq_none.mpr fun e he => by
        obtain ⟨h1, _⟩ := He.ba (List.all_eq_true.mp h e he)
        intro hs
        cases ek : e.key with
        | str y t =>
          rw [ek] at h1 hs
          obtain ⟨k, hk, e2⟩ := List.any_eq_true.mp h1
          have e3 : y = z := by simpa [Value.isStr] using hs
          exact hz (by rw [← e3, ← of_decide_eq_true e2]; exact hk)
        | _ => rw [ek] at h1; cases h1
      have hr : es.toList.any (·.refKey) = false := by
        cases r : es.toList.any (·.refKey) with
        | false => rfl
        | true =>
          obtain ⟨e, he, e2⟩ := List.any_eq_true.mp r
          obtain ⟨_, h2⟩ := He.ba (List.all_eq_true.mp h e he)
          rw [e2] at h2
          cases h2
      show (match es.toList.find? (·.key.isStr z) with
        | some e => some (some e.val)
        | none => if es.toList.any (·.refKey) then none else some none) = some none
      rw [hn, hr]
      rfl
    | _ => cases h
def hrNod : List Addr → Bool
  | [] => true
  | a :: r => (r.all fun b => !Nat.beq a b) && hrNod r
theorem hrNod_ok : ∀ {l : List Addr}, hrNod l = true → l.Nodup
  | [], _ => List.nodup_nil
  | a :: r, h => by
    obtain ⟨h1, h2⟩ := He.ba (show ((r.all fun b => !Nat.beq a b) && hrNod r) = true from h)
    refine List.nodup_cons.mpr ⟨fun hm => ?_, hrNod_ok h2⟩
    have z := List.all_eq_true.mp h1 a hm
    rw [Nat.beq_refl] at z
    cases z
def Hx.ok (K : PySem.W.Frag) : Hx → Bool
  | .fa f => f.ok K
  | .err p x => hrErr K (He.ga K p) (He.ga K x)
  | .base p => hrBase K (He.ga K p)
  | .tup x vs => He.tupB K x vs
  | .nod tf => hrNod (tf.map fun p => (He.cT K p).2)
  | .isc x => hrIs K (He.ga K x)
  | .kdt x kvs => hrKd K x kvs
  | .kdf x kvs => hrKdf K x kvs
  | .kdn x ks => hrKdn K x ks
def hrDef (K : PySem.W.Frag) (d : He.FnD) : Bool := (He.Fa.code d.at_ d.qual).ok K && PySem.W.keepIn K (.ref (He.fAd K d.at_))
def hrTab (g : Addr → Option Obj) (K : PySem.W.Frag) (p : He.Defn) : Bool := PySem.W.codeHdIn K (He.cT K p).1 (He.cT K p).2 && ((K.lookup (He.cT K p).2).isNone && match g (He.cT K p).2 with
  | some o => He.emptyTab o
  | none => false)
abbrev HrAl : Type := Bool × List He.FnV × List (Option (List (Option (Str × Int))))
def hrObs (fx : List Hx) (fn : List He.FnD) (tf : List He.Defn) (ts : List (Str × List Str)) (g : Addr → Option Obj) (K : PySem.W.Frag) : HrAl := ((fx.all fun f => f.ok K) && ((fn.all fun d => hrDef K d) && tf.all fun p => hrTab g K p), fn.map (fun d => He.fnObs K d.at_), ts.map fun t => He.dicW K (He.ga K t.1))
def hrVals (fn : List He.FnD) (ts : List (Str × List Str)) (w : World) : HrAl := (true, fn.map He.FnD.val, ts.map fun t => some (He.keysIn w.params t.2))
/-- what the end leans on -/
structure HrSays (fx : List Hx) (fn : List He.FnD) (tf : List He.Defn) (ts : List (Str × List Str)) (w : World) (h : Heap) (K : PySem.W.Frag) : Prop where
  fx : ∀ f ∈ fx, f.ok K = true
  df : ∀ d ∈ fn, hrDef K d = true
  vs : fn.map (fun d => He.fnObs K d.at_) = fn.map He.FnD.val
  tb : ts.map (fun t => He.dicW K (He.ga K t.1)) = ts.map fun t => some (He.keysIn w.params t.2)
  hd : ∀ p ∈ tf, PySem.W.codeHdIn K (He.cT K p).1 (He.cT K p).2 = true
  out : ∀ p ∈ tf, K.lookup (He.cT K p).2 = none
  emp : ∀ p ∈ tf, h.get? (He.cT K p).2 = some { cls := .none, data := .fields #[] }
theorem hrSays_of {fx : List Hx} {fn : List He.FnD} {tf : List He.Defn} {ts : List (Str × List Str)} {w : World} {h : Heap} {K : PySem.W.Frag} (e : hrObs fx fn tf ts h.get? K = hrVals fn ts w) : HrSays fx fn tf ts w h K := by
  have e1 : ((fx.all fun f => f.ok K) && ((fn.all fun d => hrDef K d) && tf.all fun p => hrTab h.get? K p)) = true := congrArg (fun z : HrAl => z.1) e
  obtain ⟨a1, a2⟩ := He.ba e1
  obtain ⟨a2, a3⟩ := He.ba a2
  have key : ∀ p ∈ tf, PySem.W.codeHdIn K (He.cT K p).1 (He.cT K p).2 = true ∧ K.lookup (He.cT K p).2 = none ∧ h.get? (He.cT K p).2 = some { cls := .none, data := .fields #[] } := fun p hp => by
    obtain ⟨b1, b2⟩ := He.ba (List.all_eq_true.mp a3 p hp)
    obtain ⟨b2, b3⟩ := He.ba b2
    refine ⟨b1, Option.isNone_iff_eq_none.mp b2, ?_⟩
    cases q : h.get? (He.cT K p).2 with
    | none => rw [q] at b3; cases b3
    | some o => rw [q] at b3; rw [He.emptyTab_eq b3]
  exact ⟨fun f hf => List.all_eq_true.mp a1 f hf, fun d hd => List.all_eq_true.mp a2 d hd, congrArg (fun z : HrAl => z.2.1) e, congrArg (fun z : HrAl => z.2.2) e, fun p hp => (key p hp).1, fun p hp => (key p hp).2.1, fun p hp => (key p hp).2.2⟩
def hrHook (fx : List Hx) (fn : List He.FnD) (tf : List He.Defn) (ts : List (Str × List Str)) : PySem.W.Hook where
  α := HrAl
  obs := fun s => hrObs fx fn tf ts s.heap.get? (hrK s.heap.get?)
  val := fun w => hrVals fn ts w
  says := fun w h => ∃ K : PySem.W.Frag, K.In h ∧ HrSays fx fn tf ts w h K
  of := fun _ _ e => ⟨_, hrK_in, hrSays_of e⟩
  keeps := fun _ _ _ ⟨K, hK, c⟩ k => ⟨K, PySem.W.Frag.In.keeps hK k, ⟨c.fx, c.df, c.vs, c.tb, c.hd, c.out, fun p hp => k _ _ (c.emp p hp)⟩⟩
def hrOb (fx : List Hx) (fn : List He.FnD) (tf : List He.Defn) (ts : List (Str × List Str)) (s : PySem.W.SharedT) : HrAl := hrObs fx fn tf ts (HandSHeadRun.getT s) (hrK (HandSHeadRun.getT s))
theorem hrOb_eq {fx : List Hx} {fn : List He.FnD} {tf : List He.Defn} {ts : List (Str × List Str)} (s : PySem.W.SharedT) : hrOb fx fn tf ts s = (hrHook fx fn tf ts).obs s.abs := by
  have e : HandSHeadRun.getT s = s.abs.heap.get? := funext (HandSHeadRun.getT_eq s)
  show hrObs fx fn tf ts (HandSHeadRun.getT s) (hrK (HandSHeadRun.getT s)) = hrObs fx fn tf ts s.abs.heap.get? (hrK s.abs.heap.get?)
  rw [e]
theorem HrSays.tab {fx : List Hx} {fn : List He.FnD} {tf : List He.Defn} {ts : List (Str × List Str)} {w : World} {h : Heap} {K : PySem.W.Frag} (c : HrSays fx fn tf ts w h K) (i : Nat) {x : Str} {ks : List Str} (e : ts[i]? = some (x, ks)) : ∃ es n, KDict K w (He.ga K x) es n := by
  have e2 : (ts.map fun t => He.dicW K (He.ga K t.1))[i]? = (ts.map fun t => some (He.keysIn w.params t.2))[i]? := by rw [c.tb]
  rw [List.getElem?_map, List.getElem?_map, e] at e2
  exact He.dicW_ok (Option.some.inj e2)
section
variable {fx : List Hx} {fn : List He.FnD} {tf : List He.Defn} {ts : List (Str × List Str)} {w : World} {h : Heap} {K : PySem.W.Frag}
theorem HrSays.f (c : HrSays fx fn tf ts w h K) (i : Nat) {f : Hx} (e : fx[i]? = some f) : f.ok K = true := c.fx f (List.mem_of_getElem? e)
theorem HrSays.g (c : HrSays fx fn tf ts w h K) (i : Nat) {f : He.Fa} (e : fx[i]? = some (.fa f)) : f.ok K = true := c.fx (.fa f) (List.mem_of_getElem? e)
theorem HrSays.d (c : HrSays fx fn tf ts w h K) (i : Nat) {d : He.FnD} (e : fn[i]? = some d) :
    (∃ oc od osl kV doc pm an cdv ct, K.lookup (He.fAd K d.at_) = some ⟨oc, od, .func (PySem.W.fnOf d.name d.qual d.params d.body d.scope .none kV doc pm an cdv ct), osl⟩ ∧ PySem.W.codeIn K cdv d.qual = true) ∧ PySem.W.keepIn K (.ref (He.fAd K d.at_)) = true := by
  obtain ⟨c1, c2⟩ := He.ba (c.df d (List.mem_of_getElem? e))
  have e2 : (fn.map fun d => He.fnObs K d.at_)[i]? = (fn.map He.FnD.val)[i]? := by rw [c.vs]
  rw [List.getElem?_map, List.getElem?_map, e] at e2
  exact ⟨He.fn_ok (Option.some.inj e2) c1, c2⟩
theorem HrSays.dt (c : HrSays fx fn tf ts w h K) (X : K.In h) (i j : Nat) {d : He.FnD} (e : fn[i]? = some d) (et : tf[j]? = some d.at_) :
    (∃ oc od osl kV doc pm an ct, K.lookup (He.fAd K d.at_) = some ⟨oc, od, .func (PySem.W.fnOf d.name d.qual d.params d.body d.scope .none kV doc pm an (.ref (He.cT K d.at_).1) ct), osl⟩ ∧ PySem.W.codeIn K (.ref (He.cT K d.at_).1) d.qual = true) ∧ PySem.W.keepIn K (.ref (He.fAd K d.at_)) = true ∧
      (PySem.W.CodeHd h (He.cT K d.at_).1 (He.cT K d.at_).2 ∧ h.get? (He.cT K d.at_).2 = some { cls := .none, data := .fields #[] }) ∧ K.lookup (He.cT K d.at_).2 = none := by
  obtain ⟨⟨oc, od, osl, kV, doc, pm, an, cdv, ct, lk, ci⟩, kp⟩ := c.d i e
  obtain ⟨c0, hc⟩ := He.codeIn_ref ci
  subst hc
  have q : (He.cT K d.at_).1 = c0 := He.codeOf_eq lk rfl
  have m := List.mem_of_getElem? et
  refine ⟨⟨oc, od, osl, kV, doc, pm, an, ct, ?_, ?_⟩, kp, ⟨PySem.W.codeHd_of_K X (c.hd _ m), c.emp _ m⟩, c.out _ m⟩
  · rw [q]; exact lk
  · rw [q]; exact ci
end
section
variable {fx : List Hx} {fn : List He.FnD} {tf : List He.Defn} {ts : List (Str × List Str)} {w : World} {h : Heap} {K : PySem.W.Frag}
theorem HrSays.fun_ (c : HrSays fx fn tf ts w h K) (i : Nat) {x q : Str} {st : Stmt} {p : He.Defn} (e : fn[i]? = some ⟨p, x, q, defArgs st, defBody st, defScope st⟩) : ∃ fd, Fun K x q st (He.fAd K p) fd := by
  obtain ⟨⟨oc, od, osl, kV, doc, pm, an, cdv, ct, lk, ci⟩, kp⟩ := c.d i e
  exact ⟨_, ⟨⟨oc, od, kV, doc, pm, an, cdv, ct, osl, rfl, lk, ci⟩, kp⟩⟩
theorem HrSays.fnc (c : HrSays fx fn tf ts w h K) (X : K.In h) (i j : Nat) {x q : Str} {st : Stmt} {p : He.Defn} (e : fn[i]? = some ⟨p, x, q, defArgs st, defBody st, defScope st⟩) (et : tf[j]? = some p) :
    (∃ fd, FunC K x q st (He.fAd K p) fd (He.cT K p).1) ∧ (PySem.W.CodeHd h (He.cT K p).1 (He.cT K p).2 ∧ h.get? (He.cT K p).2 = some { cls := .none, data := .fields #[] }) ∧ K.lookup (He.cT K p).2 = none := by
  obtain ⟨⟨oc, od, osl, kV, doc, pm, an, ct, lk, ci⟩, kp, hh, hn⟩ := c.dt X i j e et
  exact ⟨⟨_, ⟨⟨oc, od, kV, doc, pm, an, ct, osl, rfl, lk, ci⟩, kp⟩⟩, hh, hn⟩
end

def hrTf : List He.Defn := [("is_name", none), ("is_stretch", none), ("labour", none), ("is_told", none), ("law", none)]
def hrFx0 : List Hx := [.fa (.glo "Chain"), .fa (.cls "Chain"), .fa (.mkr "Chain"), .fa (.noat "Chain" "fire"), .fa (.noat "Chain" "stretches"), .fa (.noat "Chain" "now"), .fa (.noat "Chain" "row"), .fa (.noat "Chain" "loads"), .fa (.noat "Chain" "spots"), .fa (.noat "Chain" "tempos"), .fa (.noat "Chain" "leaving"), .fa (.noat "Chain" "ledgers"), .fa (.noat "Chain" "marks"), .fa (.noat "Chain" "poured"), .fa (.glo "_law_word"), .fa (.glo "is_number"), .fa (.glo "is_within"), .fa (.glo "common_divisor"), .fa (.glo "amount"), .fa (.glo "plus"), .fa (.glo "minus"), .fa (.glo "times"), .fa (.glo "over"), .fa (.glo "below"), .fa (.glo "lesser"), .fa (.glo "_law_cell"), .fa (.glo "_law_draws"), .fa (.glo "_law_many"), .fa (.glo "_law_split"), .fa (.glo "check_pace")]
def hrFx1 : List Hx := [.fa (.glo "check_paces"), .fa (.glo "is_name"), .fa (.glo "check_name"), .fa (.meth "Chain" "take_pail"), .fa (.meth "Chain" "enter"), .fa (.meth "Chain" "hands"), .fa (.meth "Chain" "emptied"), .fa (.meth "Chain" "pails"), .fa (.meth "Chain" "number_of"), .fa (.meth "Chain" "place"), .fa (.meth "Chain" "ledger"), .fa (.meth "Chain" "paces"), .fa (.meth "Chain" "hour"), .fa (.glo "speeds"), .fa (.glo "hours_at"), .fa (.glo "meeting"), .fa (.glo "walked"), .fa (.glo "ledger_on"), .fa (.meth "Chain" "till_meeting"), .fa (.meth "Chain" "walk"), .fa (.meth "Chain" "mark"), .fa (.meth "Chain" "mark_from"), .fa (.meth "Chain" "next_leaver"), .fa (.meth "Chain" "turn"), .fa (.meth "Chain" "turns"), .fa (.glo "is_stretch"), .fa (.glo "check_way"), .fa (.glo "labour"), .fa (.meth "Chain" "outs"), .fa (.glo "check_ordered")]
def hrFx2 : List Hx := [.fa (.glo "way_of"), .fa (.glo "begun"), .fa (.glo "_law_same"), .fa (.glo "_law_gcd"), .fa (.glo "_law_amt"), .fa (.glo "_law_mul"), .fa (.glo "_law_less"), .fa (.glo "_law_task"), .fa (.glo "_law_add"), .fa (.glo "is_told"), .fa (.glo "row_now"), .fa (.glo "log_fault"), .fa (.glo "_law_way"), .fa (.glo "_law_labour"), .fa (.glo "_law_name"), .fa (.glo "law"), .fa (.glo "PailError"), .base "PailError", .fa (.free "ValueError"), .fa (.glo "BadWay"), .err "PailError" "BadWay", .fa (.meth "BadWay" "__init__"), .fa (.glo "BadName"), .err "PailError" "BadName", .fa (.meth "BadName" "__init__"), .fa (.glo "Taken"), .err "PailError" "Taken", .fa (.meth "Taken" "__init__"), .fa (.glo "BadPace"), .err "PailError" "BadPace"]
def hrFx3 : List Hx := [.fa (.meth "BadPace" "__init__"), .fa (.glo "Full"), .err "PailError" "Full", .fa (.meth "Full" "__init__"), .fa (.glo "NoHand"), .err "PailError" "NoHand", .fa (.meth "NoHand" "__init__"), .fa (.glo "BadCount"), .err "PailError" "BadCount", .fa (.meth "BadCount" "__init__"), .fa (.glo "Nobody"), .err "PailError" "Nobody", .fa (.meth "Nobody" "__init__"), .fa (.glo "BadLabour"), .err "PailError" "BadLabour", .fa (.meth "BadLabour" "__init__"), .fa (.free "abs"), .fa (.free "all"), .fa (.free "bool"), .fa (.free "enumerate"), .fa (.free "int"), .fa (.free "isinstance"), .fa (.free "len"), .fa (.free "list"), .fa (.free "max"), .fa (.free "min"), .fa (.free "range"), .fa (.free "reversed"), .fa (.free "str"), .fa (.free "sum")]
def hrFx4 : List Hx := [.fa (.free "tuple"), .fa (.free "zip"), .fa (.int "LONGEST_STRETCH" 9), .fa (.int "MOST_HANDS" 8), .fa (.int "MOST_LABOUR" 54), .fa (.int "MOST_LETTERS" 8), .fa (.int "MOST_ORDERED" 4), .fa (.int "MOST_OUTS" 60), .fa (.int "MOST_PACE" 12), .fa (.int "MOST_STEPS_OR_TOIL" 9), .fa (.int "MOST_STRETCHES" 6), .fa (.str "NAMES" "abcd"), .fa (.glo "NOUGHT"), .tup "NOUGHT" [.int 0, .int 1], .nod hrTf]
def hrFx : List Hx := hrFx0 ++ (hrFx1 ++ (hrFx2 ++ (hrFx3 ++ (hrFx4))))
def hrFn0 : List He.FnD := [⟨("_law_word", none), "_law_word", "_law_word", defArgs s_l_word, defBody s_l_word, defScope s_l_word⟩, ⟨("is_number", none), "is_number", "is_number", defArgs s_p_is_number, defBody s_p_is_number, defScope s_p_is_number⟩, ⟨("is_within", none), "is_within", "is_within", defArgs s_p_is_within, defBody s_p_is_within, defScope s_p_is_within⟩, ⟨("common_divisor", none), "common_divisor", "common_divisor", defArgs s_p_common_divisor, defBody s_p_common_divisor, defScope s_p_common_divisor⟩, ⟨("amount", none), "amount", "amount", defArgs s_p_amount, defBody s_p_amount, defScope s_p_amount⟩, ⟨("plus", none), "plus", "plus", defArgs s_p_plus, defBody s_p_plus, defScope s_p_plus⟩, ⟨("minus", none), "minus", "minus", defArgs s_p_minus, defBody s_p_minus, defScope s_p_minus⟩, ⟨("times", none), "times", "times", defArgs s_p_times, defBody s_p_times, defScope s_p_times⟩, ⟨("over", none), "over", "over", defArgs s_p_over, defBody s_p_over, defScope s_p_over⟩, ⟨("below", none), "below", "below", defArgs s_p_below, defBody s_p_below, defScope s_p_below⟩, ⟨("lesser", none), "lesser", "lesser", defArgs s_p_lesser, defBody s_p_lesser, defScope s_p_lesser⟩, ⟨("_law_cell", none), "_law_cell", "_law_cell", defArgs s_l_cell, defBody s_l_cell, defScope s_l_cell⟩, ⟨("_law_draws", none), "_law_draws", "_law_draws", defArgs s_l_draws, defBody s_l_draws, defScope s_l_draws⟩, ⟨("_law_many", none), "_law_many", "_law_many", defArgs s_l_many, defBody s_l_many, defScope s_l_many⟩, ⟨("_law_split", none), "_law_split", "_law_split", defArgs s_l_split, defBody s_l_split, defScope s_l_split⟩, ⟨("check_pace", none), "check_pace", "check_pace", defArgs s_p_check_pace, defBody s_p_check_pace, defScope s_p_check_pace⟩, ⟨("check_paces", none), "check_paces", "check_paces", defArgs s_p_check_paces, defBody s_p_check_paces, defScope s_p_check_paces⟩, ⟨("is_name", none), "is_name", "is_name", defArgs s_p_is_name, defBody s_p_is_name, defScope s_p_is_name⟩, ⟨("check_name", none), "check_name", "check_name", defArgs s_p_check_name, defBody s_p_check_name, defScope s_p_check_name⟩, ⟨("Chain", some "take_pail"), "take_pail", "Chain.take_pail", defArgs s_p_Chain_take_pail, defBody s_p_Chain_take_pail, defScope s_p_Chain_take_pail⟩, ⟨("Chain", some "enter"), "enter", "Chain.enter", defArgs s_p_Chain_enter, defBody s_p_Chain_enter, defScope s_p_Chain_enter⟩, ⟨("Chain", some "hands"), "hands", "Chain.hands", defArgs s_p_Chain_hands, defBody s_p_Chain_hands, defScope s_p_Chain_hands⟩, ⟨("Chain", some "emptied"), "emptied", "Chain.emptied", defArgs s_p_Chain_emptied, defBody s_p_Chain_emptied, defScope s_p_Chain_emptied⟩, ⟨("Chain", some "pails"), "pails", "Chain.pails", defArgs s_p_Chain_pails, defBody s_p_Chain_pails, defScope s_p_Chain_pails⟩, ⟨("Chain", some "number_of"), "number_of", "Chain.number_of", defArgs s_p_Chain_number_of, defBody s_p_Chain_number_of, defScope s_p_Chain_number_of⟩, ⟨("Chain", some "place"), "place", "Chain.place", defArgs s_p_Chain_place, defBody s_p_Chain_place, defScope s_p_Chain_place⟩, ⟨("Chain", some "ledger"), "ledger", "Chain.ledger", defArgs s_p_Chain_ledger, defBody s_p_Chain_ledger, defScope s_p_Chain_ledger⟩, ⟨("Chain", some "paces"), "paces", "Chain.paces", defArgs s_p_Chain_paces, defBody s_p_Chain_paces, defScope s_p_Chain_paces⟩, ⟨("Chain", some "hour"), "hour", "Chain.hour", defArgs s_p_Chain_hour, defBody s_p_Chain_hour, defScope s_p_Chain_hour⟩, ⟨("speeds", none), "speeds", "speeds", defArgs s_p_speeds, defBody s_p_speeds, defScope s_p_speeds⟩]
def hrFn1 : List He.FnD := [⟨("hours_at", none), "hours_at", "hours_at", defArgs s_p_hours_at, defBody s_p_hours_at, defScope s_p_hours_at⟩, ⟨("meeting", none), "meeting", "meeting", defArgs s_p_meeting, defBody s_p_meeting, defScope s_p_meeting⟩, ⟨("walked", none), "walked", "walked", defArgs s_p_walked, defBody s_p_walked, defScope s_p_walked⟩, ⟨("ledger_on", none), "ledger_on", "ledger_on", defArgs s_p_ledger_on, defBody s_p_ledger_on, defScope s_p_ledger_on⟩, ⟨("Chain", some "till_meeting"), "till_meeting", "Chain.till_meeting", defArgs s_p_Chain_till_meeting, defBody s_p_Chain_till_meeting, defScope s_p_Chain_till_meeting⟩, ⟨("Chain", some "walk"), "walk", "Chain.walk", defArgs s_p_Chain_walk, defBody s_p_Chain_walk, defScope s_p_Chain_walk⟩, ⟨("Chain", some "mark"), "mark", "Chain.mark", defArgs s_p_Chain_mark, defBody s_p_Chain_mark, defScope s_p_Chain_mark⟩, ⟨("Chain", some "mark_from"), "mark_from", "Chain.mark_from", defArgs s_p_Chain_mark_from, defBody s_p_Chain_mark_from, defScope s_p_Chain_mark_from⟩, ⟨("Chain", some "next_leaver"), "next_leaver", "Chain.next_leaver", defArgs s_p_Chain_next_leaver, defBody s_p_Chain_next_leaver, defScope s_p_Chain_next_leaver⟩, ⟨("Chain", some "turn"), "turn", "Chain.turn", defArgs s_p_Chain_turn, defBody s_p_Chain_turn, defScope s_p_Chain_turn⟩, ⟨("Chain", some "turns"), "turns", "Chain.turns", defArgs s_p_Chain_turns, defBody s_p_Chain_turns, defScope s_p_Chain_turns⟩, ⟨("is_stretch", none), "is_stretch", "is_stretch", defArgs s_p_is_stretch, defBody s_p_is_stretch, defScope s_p_is_stretch⟩, ⟨("check_way", none), "check_way", "check_way", defArgs s_p_check_way, defBody s_p_check_way, defScope s_p_check_way⟩, ⟨("labour", none), "labour", "labour", defArgs s_p_labour, defBody s_p_labour, defScope s_p_labour⟩, ⟨("Chain", some "__init__"), "__init__", "Chain.__init__", defArgs s_p_Chain___init__, defBody s_p_Chain___init__, defScope s_p_Chain___init__⟩, ⟨("Chain", some "outs"), "outs", "Chain.outs", defArgs s_p_Chain_outs, defBody s_p_Chain_outs, defScope s_p_Chain_outs⟩, ⟨("check_ordered", none), "check_ordered", "check_ordered", defArgs s_p_check_ordered, defBody s_p_check_ordered, defScope s_p_check_ordered⟩, ⟨("way_of", none), "way_of", "way_of", defArgs s_p_way_of, defBody s_p_way_of, defScope s_p_way_of⟩, ⟨("begun", none), "begun", "begun", defArgs s_p_begun, defBody s_p_begun, defScope s_p_begun⟩, ⟨("_law_same", none), "_law_same", "_law_same", defArgs s_l_same, defBody s_l_same, defScope s_l_same⟩, ⟨("_law_gcd", none), "_law_gcd", "_law_gcd", defArgs s_l_gcd, defBody s_l_gcd, defScope s_l_gcd⟩, ⟨("_law_amt", none), "_law_amt", "_law_amt", defArgs s_l_amt, defBody s_l_amt, defScope s_l_amt⟩, ⟨("_law_mul", none), "_law_mul", "_law_mul", defArgs s_l_mul, defBody s_l_mul, defScope s_l_mul⟩, ⟨("_law_less", none), "_law_less", "_law_less", defArgs s_l_less, defBody s_l_less, defScope s_l_less⟩, ⟨("_law_task", none), "_law_task", "_law_task", defArgs s_l_task, defBody s_l_task, defScope s_l_task⟩, ⟨("_law_add", none), "_law_add", "_law_add", defArgs s_l_add, defBody s_l_add, defScope s_l_add⟩, ⟨("is_told", none), "is_told", "is_told", defArgs s_p_is_told, defBody s_p_is_told, defScope s_p_is_told⟩, ⟨("row_now", none), "row_now", "row_now", defArgs s_p_row_now, defBody s_p_row_now, defScope s_p_row_now⟩, ⟨("log_fault", none), "log_fault", "log_fault", defArgs s_p_log_fault, defBody s_p_log_fault, defScope s_p_log_fault⟩, ⟨("_law_way", none), "_law_way", "_law_way", defArgs s_l_way, defBody s_l_way, defScope s_l_way⟩]
def hrFn2 : List He.FnD := [⟨("_law_labour", none), "_law_labour", "_law_labour", defArgs s_l_labour, defBody s_l_labour, defScope s_l_labour⟩, ⟨("_law_name", none), "_law_name", "_law_name", defArgs s_l_name, defBody s_l_name, defScope s_l_name⟩, ⟨("law", none), "law", "law", defArgs s_LAW, defBody s_LAW, defScope s_LAW⟩, ⟨("PailError", some "__init__"), "__init__", "PailError.__init__", defArgs s_p_PailError___init__, defBody s_p_PailError___init__, defScope s_p_PailError___init__⟩, ⟨("BadWay", some "__init__"), "__init__", "BadWay.__init__", defArgs s_p_BadWay___init__, defBody s_p_BadWay___init__, defScope s_p_BadWay___init__⟩, ⟨("BadName", some "__init__"), "__init__", "BadName.__init__", defArgs s_p_BadName___init__, defBody s_p_BadName___init__, defScope s_p_BadName___init__⟩, ⟨("Taken", some "__init__"), "__init__", "Taken.__init__", defArgs s_p_Taken___init__, defBody s_p_Taken___init__, defScope s_p_Taken___init__⟩, ⟨("BadPace", some "__init__"), "__init__", "BadPace.__init__", defArgs s_p_BadPace___init__, defBody s_p_BadPace___init__, defScope s_p_BadPace___init__⟩, ⟨("Full", some "__init__"), "__init__", "Full.__init__", defArgs s_p_Full___init__, defBody s_p_Full___init__, defScope s_p_Full___init__⟩, ⟨("NoHand", some "__init__"), "__init__", "NoHand.__init__", defArgs s_p_NoHand___init__, defBody s_p_NoHand___init__, defScope s_p_NoHand___init__⟩, ⟨("BadCount", some "__init__"), "__init__", "BadCount.__init__", defArgs s_p_BadCount___init__, defBody s_p_BadCount___init__, defScope s_p_BadCount___init__⟩, ⟨("Nobody", some "__init__"), "__init__", "Nobody.__init__", defArgs s_p_Nobody___init__, defBody s_p_Nobody___init__, defScope s_p_Nobody___init__⟩, ⟨("BadLabour", some "__init__"), "__init__", "BadLabour.__init__", defArgs s_p_BadLabour___init__, defBody s_p_BadLabour___init__, defScope s_p_BadLabour___init__⟩]
def hrFn : List He.FnD := hrFn0 ++ (hrFn1 ++ (hrFn2))
def hrTs : List (Str × List Str) := []
def hrLoose0 : List Str := ["_wall", "__name__", "NOUGHT", "common_divisor", "amount", "plus", "minus", "times", "over", "below", "lesser", "PailError", "BadWay", "BadName", "Taken", "BadPace", "Full", "NoHand", "BadCount", "Nobody", "BadLabour", "MOST_LETTERS", "MOST_PACE", "MOST_HANDS", "is_number", "is_within", "is_name", "check_name", "check_pace", "check_paces"]
def hrLoose1 : List Str := ["speeds", "meeting", "hours_at", "walked", "MOST_STRETCHES", "MOST_STEPS_OR_TOIL", "is_stretch", "check_way", "labour", "MOST_OUTS", "ledger_on", "Chain", "MOST_LABOUR", "MOST_ORDERED", "LONGEST_STRETCH", "NAMES", "check_ordered", "way_of", "begun", "row_now", "is_told", "log_fault", "_law_cell", "_law_draws", "_law_split", "_law_many", "_law_same", "_law_word", "_law_gcd", "_law_amt"]
def hrLoose2 : List Str := ["_law_add", "_law_mul", "_law_less", "_law_way", "_law_labour", "_law_name", "_law_task"]
def hrLoose : List Str := hrLoose0 ++ (hrLoose1 ++ (hrLoose2))
theorem hrRun (w : World) : HandSHeadRun.RunEq (PySem.W.OpenLaw.row PySem.Challenge.rw_pailchain_k41_whole_logs_of_chains) (PySem.W.view (PySem.W.OpenLaw.row PySem.Challenge.rw_pailchain_k41_whole_logs_of_chains).prog [75]) (hrHook hrFx hrFn hrTf hrTs) (hrOb hrFx hrFn hrTf hrTs) 60000 hrLoose w := by
  intro os
  kernel_rfl
section
variable {P : Program} {w : World} {K : PySem.W.Frag} {T : Tb} {mg : Str → Option Value} {base : Heap}
/-! ### chains in the heap -/
structure Ad where
  dx : Addr
  st : Addr
  nw : Addr
  rw : Addr
  ld : Addr
  sp : Addr
  tm : Addr
  lv : Addr
  lg : Addr
  mr : Addr
  pr : Addr
def FLD : List Str := ["fire", "stretches", "now", "row", "loads", "spots", "tempos", "leaving", "ledgers", "marks", "poured"]
def flds (L : Int) (A : Ad) : List (Str × V) := [("fire", .int L), ("stretches", .ref A.st), ("now", .ref A.nw), ("row", .ref A.rw), ("loads", .ref A.ld), ("spots", .ref A.sp), ("tempos", .ref A.tm), ("leaving", .ref A.lv), ("ledgers", .ref A.lg), ("marks", .ref A.mr), ("poured", .ref A.pr)]
theorem lookup_no {fs : List (Str × V)} {m : Str} (h : m ∉ fs.map (·.1)) : fs.lookup m = none := by
  induction fs with
  | nil => rfl
  | cons a l ih =>
    obtain ⟨k, v⟩ := a
    rw [List.map_cons, List.mem_cons, not_or] at h
    rw [List.lookup_cons]
    have e : (m == k) = false := by
      cases q : (m == k) with
      | false => rfl
      | true => exact absurd (eq_of_beq q) h.1
    rw [e]
    exact ih h.2
theorem fl_no {L : Int} {A : Ad} {m : Str} (h : m ∉ FLD) : (flds L A).lookup m = none := lookup_no h
theorem fl_fire {L : Int} {A : Ad} : (flds L A).lookup ("fire" : Str) = some (.int L) := rfl
theorem fl_st {L : Int} {A : Ad} : (flds L A).lookup ("stretches" : Str) = some (.ref A.st) := rfl
theorem fl_nw {L : Int} {A : Ad} : (flds L A).lookup ("now" : Str) = some (.ref A.nw) := rfl
theorem fl_rw {L : Int} {A : Ad} : (flds L A).lookup ("row" : Str) = some (.ref A.rw) := rfl
theorem fl_ld {L : Int} {A : Ad} : (flds L A).lookup ("loads" : Str) = some (.ref A.ld) := rfl
theorem fl_sp {L : Int} {A : Ad} : (flds L A).lookup ("spots" : Str) = some (.ref A.sp) := rfl
theorem fl_tm {L : Int} {A : Ad} : (flds L A).lookup ("tempos" : Str) = some (.ref A.tm) := rfl
theorem fl_lv {L : Int} {A : Ad} : (flds L A).lookup ("leaving" : Str) = some (.ref A.lv) := rfl
theorem fl_lg {L : Int} {A : Ad} : (flds L A).lookup ("ledgers" : Str) = some (.ref A.lg) := rfl
theorem fl_mk {L : Int} {A : Ad} : (flds L A).lookup ("marks" : Str) = some (.ref A.mr) := rfl
theorem fl_pr {L : Int} {A : Ad} : (flds L A).lookup ("poured" : Str) = some (.ref A.pr) := rfl
theorem pf_nw {L : Int} {A : Ad} {a : Addr} : putF "now" (.ref a) (flds L A) = flds L { A with nw := a } := rfl
theorem pf_rw {L : Int} {A : Ad} {a : Addr} : putF "row" (.ref a) (flds L A) = flds L { A with rw := a } := rfl
theorem pf_ld {L : Int} {A : Ad} {a : Addr} : putF "loads" (.ref a) (flds L A) = flds L { A with ld := a } := rfl
theorem pf_sp {L : Int} {A : Ad} {a : Addr} : putF "spots" (.ref a) (flds L A) = flds L { A with sp := a } := rfl
theorem pf_tm {L : Int} {A : Ad} {a : Addr} : putF "tempos" (.ref a) (flds L A) = flds L { A with tm := a } := rfl
theorem pf_lv {L : Int} {A : Ad} {a : Addr} : putF "leaving" (.ref a) (flds L A) = flds L { A with lv := a } := rfl
theorem pf_lg {L : Int} {A : Ad} {a : Addr} : putF "ledgers" (.ref a) (flds L A) = flds L { A with lg := a } := rfl
theorem pf_mk {L : Int} {A : Ad} {a : Addr} : putF "marks" (.ref a) (flds L A) = flds L { A with mr := a } := rfl
theorem pf_pr {L : Int} {A : Ad} {a : Addr} : putF "poured" (.ref a) (flds L A) = flds L { A with pr := a } := rfl
/-! ### what a deed leaves: all but the objects S -/
def imm : HO → Bool
  | .tup _ => true
  | .frz _ _ => true
  | .own _ => true
  | _ => false
def mutO : HO → Bool
  | .lst _ => true
  | .dK _ => true
  | .ins _ _ _ => true
  | _ => false
structure Sx (T : Tb) (S : List Addr) (H H' : Hp) : Prop where
  keep : ∀ b o, H b = some o → nTbl o → (imm o = true ∨ b ∉ S) → H' b = some o
  ok : Ok T H → Ok T H'
  free : ∀ l, H' l = none → H l = none
theorem Sm.sx {T : Tb} {S : List Addr} {H H' : Hp} (s : Sm T H H') : Sx T S H H' := ⟨fun b o e n _ => s.keep b o e n, s.ok, s.free⟩
theorem Sx.sm {T : Tb} {H H' : Hp} (s : Sx T [] H H') : Sm T H H' := ⟨fun b o e n => s.keep b o e n (.inr (by simp)), s.ok, s.free⟩
theorem Sx.refl {T : Tb} {S : List Addr} {H : Hp} : Sx T S H H := Sm.refl.sx
theorem Sx.trans {T : Tb} {S S2 : List Addr} {H H1 H2 : Hp} (a : Sx T S H H1) (b : Sx T S2 H1 H2) (h : ∀ x ∈ S2, x ∈ S ∨ H x = none) : Sx T S H H2 :=
  ⟨fun c o e n i => b.keep c o (a.keep c o e n i) n (i.imp id fun hc hc2 => (h c hc2).elim hc fun z => by rw [z] at e; cases e), fun k => b.ok (a.ok k), fun l k => a.free l (b.free l k)⟩
theorem Sx.step {T : Tb} {S : List Addr} {H H1 H2 : Hp} (a : Sx T S H H1) (b : Sx T S H1 H2) : Sx T S H H2 := a.trans b fun _ h => .inl h
theorem Sx.sm' {T : Tb} {S : List Addr} {H H1 H2 : Hp} (a : Sx T S H H1) (b : Sm T H1 H2) : Sx T S H H2 := a.trans (S2 := []) b.sx fun _ h => nomatch h
theorem Sx.mono {T : Tb} {S S2 : List Addr} {H H' : Hp} (a : Sx T S H H') (h : ∀ x ∈ S, x ∈ S2 ∨ H x = none) : Sx T S2 H H' := Sx.refl.trans a h
theorem okP_mut2 {H : Hp} {p : Addr × Option Str} {a : Addr} {o u : HO} (h : OkP H p) (ha : H a = some u) (hm : mutO u = true) : OkP (upd H a o) p := by
  have k : ∀ b v, H b = some v → mutO v = false → upd H a o b = some v := fun b v e n => by
    rw [upd_ne (fun z => by rw [z, ha] at e; cases e; rw [hm] at n; cases n)]
    exact e
  obtain ⟨Q, q⟩ := p
  cases q with
  | none =>
    obtain ⟨ps, h1, h2⟩ := (show GxR.TabG H Q from h)
    exact ⟨ps, k _ _ h1 rfl, h2⟩
  | some q =>
    obtain ⟨ps, h1, h2, h3⟩ := (show LamX.TabS H Q q from h)
    refine ⟨ps, k _ _ h1 rfl, h2, fun pos cv hc => ?_⟩
    obtain ⟨c, e1, e2⟩ := h3 pos cv hc
    exact ⟨c, e1, k _ _ e2 (by unfold LamX.CodeO; rfl)⟩
theorem sx_upd {T : Tb} {S : List Addr} {H : Hp} {a : Addr} {o u : HO} (ha : H a = some u) (hm : mutO u = true) (hS : a ∈ S) : Sx T S H (upd H a o) := by
  refine ⟨fun b v e _ i => ?_, fun hk q hq => okP_mut2 (hk q hq) ha hm, fun l hl => ?_⟩
  · rw [upd_ne]
    · exact e
    · rintro rfl
      rcases i with i | i
      · rw [e] at ha
        cases ha
        cases u <;> simp_all [mutO, imm]
      · exact i hS
  · by_cases z : l = a
    · rw [z, upd_same] at hl; cases hl
    · rw [upd_ne z] at hl; exact hl
theorem Sx.tup {T : Tb} {S : List Addr} {K : PySem.W.Frag} {H H' : Hp} {a : Addr} {xs : List V} (e : Sx T S H H') (h : SqT K H a xs) : SqT K H' a xs := by
  rcases h with (h | ⟨o, h⟩) | h
  · exact .inl (.inl (e.keep _ _ h trivial (.inl rfl)))
  · exact .inl (.inr ⟨o, e.keep _ _ h trivial (.inl rfl)⟩)
  · exact .inr h
theorem Sx.lst {T : Tb} {S : List Addr} {H H' : Hp} {a : Addr} {xs : List V} (e : Sx T S H H') (h : H a = some (.lst xs)) (ha : a ∉ S) : H' a = some (.lst xs) := e.keep _ _ h trivial (.inr ha)
theorem Sx.seq {T : Tb} {S : List Addr} {K : PySem.W.Frag} {H H' : Hp} {a : Addr} {xs : List V} (e : Sx T S H H') (h : SqL K H a xs) (ha : a ∉ S) : SqL K H' a xs := by
  rcases h with (h | ⟨o, h⟩) | h
  · exact .inl (.inl (e.keep _ _ h trivial (.inr ha)))
  · exact .inl (.inr ⟨o, e.keep _ _ h trivial (.inl rfl)⟩)
  · exact .inr h
mutual
theorem Sx.dp {T : Tb} {S : List Addr} {K : PySem.W.Frag} {H H' : Hp} (e : Sx T S H H') : ∀ (n : Nat) (d : PyData) (v : V), noL n d = true → Dp K H v d → Dp K H' v d
  | _, .none, _, _, h => by cases h; exact .non
  | _, .bool b, _, _, h => by cases h; exact .bl b
  | _, .int i, _, _, h => by cases h; exact .int i
  | _, .str x, _, _, h => by cases h; exact .str x
  | 0, .tuple _, _, z, _ => by cases z
  | n + 1, .tuple ds, _, z, h => by
    cases h with
    | tup hs hall => exact .tup (e.tup hs) (Sx.dps e n ds _ z hall)
  | 0, .list _, _, z, _ => by cases z
  | _ + 1, .list _, _, z, _ => by cases z
  | 0, .dict _, _, z, _ => by cases z
  | _ + 1, .dict _, _, z, _ => by cases z
theorem Sx.dps {T : Tb} {S : List Addr} {K : PySem.W.Frag} {H H' : Hp} (e : Sx T S H H') : ∀ (n : Nat) (ds : List PyData) (vs : List V), ds.all (noL n) = true → DpAll K H vs ds → DpAll K H' vs ds
  | _, [], _, _, h => by cases h; exact .nil
  | n, d :: ds, _, z, h => by
    cases h with
    | cons h1 h2 =>
      rw [List.all_cons, Bool.and_eq_true] at z
      exact .cons (Sx.dp e n d _ z.1 h1) (Sx.dps e n ds _ z.2 h2)
end
/-! ### a chain, as it stands -/
structure Ch where
  fire : Int
  way : List Am
  now : Rat
  row : List Str
  loads : List Int
  spots : List Rat
  tempos : List (Str × Int)
  leaving : List Str
  ledgers : List (Str × (Rat × Rat × Rat))
  marks : List (List (Str × Rat))
  poured : List Int
def tmV (l : List (Str × Int)) : List (L2.Key × V) := l.map fun x => (Sum.inr x.1, V.int x.2)
def ledD (x : Rat × Rat × Rat) : PyData := .tuple [amD (am x.1), amD (am x.2.1), amD (am x.2.2)]
def mkD (l : List (Str × Rat)) : PyData := .tuple (l.map fun x => .tuple [.str x.1, amD (am x.2)])
def LedL (K : PySem.W.Frag) (H : Hp) (kvs : List (L2.Key × V)) (l : List (Str × (Rat × Rat × Rat))) : Prop := kvs.map (·.1) = l.map (fun x => (Sum.inr x.1 : L2.Key)) ∧ DpAll K H (kvs.map (·.2)) (l.map fun x => ledD x.2)
def ownC (c : Addr) (A : Ad) : List Addr := [c, A.rw, A.ld, A.sp, A.tm, A.lv, A.lg, A.mr, A.pr]
structure ChAt (K : PySem.W.Frag) (C : Addr) (H : Hp) (c : Addr) (A : Ad) (s : Ch) : Prop where
  ins : H c = some (.ins C A.dx (flds s.fire A))
  own : H A.dx = some (.own c)
  st : ∃ us, SqT K H A.st us ∧ DpAll K H us (s.way.map amD)
  nw : SqT K H A.nw (tv (am s.now))
  rw : H A.rw = some (.lst (s.row.map V.str))
  ld : H A.ld = some (.lst (s.loads.map V.int))
  sp : ∃ us, H A.sp = some (.lst us) ∧ AmL K H us s.spots
  tm : H A.tm = some (.dK (tmV s.tempos))
  lv : H A.lv = some (.lst (s.leaving.map V.str))
  lg : ∃ kvs, H A.lg = some (.dK kvs) ∧ LedL K H kvs s.ledgers
  mr : ∃ us, H A.mr = some (.lst us) ∧ DpAll K H us (s.marks.map mkD)
  pr : H A.pr = some (.lst (s.poured.map V.int))
  nd : (ownC c A).Nodup
theorem noL_ams (rs : List Rat) : ((rs.map am).map amD).all (noL 3) = true := by
  rw [List.all_map]
  exact List.all_eq_true.mpr fun _ _ => rfl
theorem noL_way (qs : List Am) : (qs.map amD).all (noL 3) = true := by
  rw [List.all_map]
  exact List.all_eq_true.mpr fun _ _ => rfl
theorem noL_led (l : List (Str × (Rat × Rat × Rat))) : (l.map fun x => ledD x.2).all (noL 3) = true := by
  rw [List.all_map]
  exact List.all_eq_true.mpr fun _ _ => rfl
theorem noL_mk (l : List (Str × Rat)) : noL 4 (mkD l) = true := by
  show (l.map fun x => PyData.tuple [.str x.1, amD (am x.2)]).all (noL 3) = true
  rw [List.all_map]
  exact List.all_eq_true.mpr fun _ _ => rfl
theorem noL_mks (l : List (List (Str × Rat))) : (l.map mkD).all (noL 4) = true := by
  rw [List.all_map]
  exact List.all_eq_true.mpr fun x _ => noL_mk x
theorem Sx.ams {T : Tb} {S : List Addr} {K : PySem.W.Frag} {H H' : Hp} {us : List V} {rs : List Rat} (e : Sx T S H H') (h : AmL K H us rs) : AmL K H' us rs := e.dps 3 _ _ (noL_ams rs) h
theorem Sx.led {T : Tb} {S : List Addr} {K : PySem.W.Frag} {H H' : Hp} {kvs : List (L2.Key × V)} {l : List (Str × (Rat × Rat × Rat))} (e : Sx T S H H') (h : LedL K H kvs l) : LedL K H' kvs l := ⟨h.1, e.dps 3 _ _ (noL_led l) h.2⟩
theorem Sx.mks {T : Tb} {S : List Addr} {K : PySem.W.Frag} {H H' : Hp} {us : List V} {l : List (List (Str × Rat))} (e : Sx T S H H') (h : DpAll K H us (l.map mkD)) : DpAll K H' us (l.map mkD) := e.dps 4 _ _ (noL_mks l) h
theorem nd_set {l : List Addr} (h : l.Nodup) {i : Nat} {x y : Addr} (hi : l[i]? = some x) (hy : y ∉ l) : (l.set i y).Nodup := by
  rw [List.nodup_iff_pairwise_ne, List.pairwise_iff_getElem] at *
  intro a b ha hb hab
  rw [List.length_set] at ha hb
  rw [List.getElem_set, List.getElem_set]
  split
  · split
    · omega
    · intro z; exact hy (by rw [z]; exact List.getElem_mem _)
  · split
    · intro z; exact hy (by rw [← z]; exact List.getElem_mem _)
    · exact h a b ha hb hab
section
variable {K : PySem.W.Frag} {T : Tb} {C : Addr} {H H' : Hp} {c : Addr} {A : Ad} {s : Ch} {S : List Addr}
/-- a chain stays where others are changed -/
theorem ChAt.sx (h : ChAt K C H c A s) (e : Sx T S H H') (hd : ∀ x ∈ ownC c A, x ∉ S) : ChAt K C H' c A s := by
  have m : ∀ x, x ∈ ownC c A → ∀ o, H x = some o → nTbl o → H' x = some o := fun x hx o ho n => e.keep x o ho n (.inr (hd x hx))
  obtain ⟨us, s1, s2⟩ := h.st
  obtain ⟨ps, p1, p2⟩ := h.sp
  obtain ⟨kv, k1, k2⟩ := h.lg
  obtain ⟨ms, m1, m2⟩ := h.mr
  exact ⟨m _ (by simp [ownC]) _ h.ins trivial, e.keep _ _ h.own trivial (.inl rfl), ⟨us, e.tup s1, e.dps 3 _ _ (noL_way _) s2⟩, e.tup h.nw, m _ (by simp [ownC]) _ h.rw trivial, m _ (by simp [ownC]) _ h.ld trivial, ⟨ps, m _ (by simp [ownC]) _ p1 trivial, e.ams p2⟩,
    m _ (by simp [ownC]) _ h.tm trivial, m _ (by simp [ownC]) _ h.lv trivial, ⟨kv, m _ (by simp [ownC]) _ k1 trivial, e.led k2⟩, ⟨ms, m _ (by simp [ownC]) _ m1 trivial, e.mks m2⟩, m _ (by simp [ownC]) _ h.pr trivial, h.nd⟩
theorem ChAt.sm (h : ChAt K C H c A s) (e : Sm T H H') : ChAt K C H' c A s := h.sx (S := []) e.sx fun _ _ => by simp
theorem ChAt.ne (h : ChAt K C H c A s) {i j : Nat} {x y : Addr} (hi : (ownC c A)[i]? = some x) (hj : (ownC c A)[j]? = some y) (hij : i ≠ j) : x ∉ [y] := fun z => by
  rw [List.mem_singleton.mp z] at hi
  exact hij (nd_ix h.nd hi hj)
theorem ChAt.set_rw (h : ChAt K C H c A s) (r : List Str) : ChAt K C (upd H A.rw (.lst (r.map V.str))) c A { s with row := r } := by
  obtain ⟨us0, s1, s2⟩ := h.st
  obtain ⟨ps, p1, p2⟩ := h.sp
  obtain ⟨kv, k1, k2⟩ := h.lg
  obtain ⟨ms, m1, m2⟩ := h.mr
  have e : Sx [] [A.rw] H (upd H A.rw (.lst (r.map V.str))) := sx_upd h.rw rfl List.mem_cons_self
  exact ⟨e.keep _ _ h.ins trivial (.inr (h.ne (i := 0) (j := 1) rfl rfl (by decide))), e.keep _ _ h.own trivial (.inl rfl), ⟨us0, e.tup s1, e.dps 3 _ _ (noL_way _) s2⟩, e.tup h.nw, upd_same, e.keep _ _ h.ld trivial (.inr (h.ne (i := 2) (j := 1) rfl rfl (by decide))), ⟨ps, e.keep _ _ p1 trivial (.inr (h.ne (i := 3) (j := 1) rfl rfl (by decide))), e.ams p2⟩, e.keep _ _ h.tm trivial (.inr (h.ne (i := 4) (j := 1) rfl rfl (by decide))), e.keep _ _ h.lv trivial (.inr (h.ne (i := 5) (j := 1) rfl rfl (by decide))), ⟨kv, e.keep _ _ k1 trivial (.inr (h.ne (i := 6) (j := 1) rfl rfl (by decide))), e.led k2⟩, ⟨ms, e.keep _ _ m1 trivial (.inr (h.ne (i := 7) (j := 1) rfl rfl (by decide))), e.mks m2⟩, e.keep _ _ h.pr trivial (.inr (h.ne (i := 8) (j := 1) rfl rfl (by decide))), h.nd⟩
theorem ChAt.set_ld (h : ChAt K C H c A s) (r : List Int) : ChAt K C (upd H A.ld (.lst (r.map V.int))) c A { s with loads := r } := by
  obtain ⟨us0, s1, s2⟩ := h.st
  obtain ⟨ps, p1, p2⟩ := h.sp
  obtain ⟨kv, k1, k2⟩ := h.lg
  obtain ⟨ms, m1, m2⟩ := h.mr
  have e : Sx [] [A.ld] H (upd H A.ld (.lst (r.map V.int))) := sx_upd h.ld rfl List.mem_cons_self
  exact ⟨e.keep _ _ h.ins trivial (.inr (h.ne (i := 0) (j := 2) rfl rfl (by decide))), e.keep _ _ h.own trivial (.inl rfl), ⟨us0, e.tup s1, e.dps 3 _ _ (noL_way _) s2⟩, e.tup h.nw, e.keep _ _ h.rw trivial (.inr (h.ne (i := 1) (j := 2) rfl rfl (by decide))), upd_same, ⟨ps, e.keep _ _ p1 trivial (.inr (h.ne (i := 3) (j := 2) rfl rfl (by decide))), e.ams p2⟩, e.keep _ _ h.tm trivial (.inr (h.ne (i := 4) (j := 2) rfl rfl (by decide))), e.keep _ _ h.lv trivial (.inr (h.ne (i := 5) (j := 2) rfl rfl (by decide))), ⟨kv, e.keep _ _ k1 trivial (.inr (h.ne (i := 6) (j := 2) rfl rfl (by decide))), e.led k2⟩, ⟨ms, e.keep _ _ m1 trivial (.inr (h.ne (i := 7) (j := 2) rfl rfl (by decide))), e.mks m2⟩, e.keep _ _ h.pr trivial (.inr (h.ne (i := 8) (j := 2) rfl rfl (by decide))), h.nd⟩
theorem ChAt.set_sp (h : ChAt K C H c A s) {us : List V} {r : List Rat} (hu : AmL K H us r) : ChAt K C (upd H A.sp (.lst us)) c A { s with spots := r } := by
  obtain ⟨us0, s1, s2⟩ := h.st
  obtain ⟨ps, p1, p2⟩ := h.sp
  obtain ⟨kv, k1, k2⟩ := h.lg
  obtain ⟨ms, m1, m2⟩ := h.mr
  have e : Sx [] [A.sp] H (upd H A.sp (.lst us)) := sx_upd p1 rfl List.mem_cons_self
  exact ⟨e.keep _ _ h.ins trivial (.inr (h.ne (i := 0) (j := 3) rfl rfl (by decide))), e.keep _ _ h.own trivial (.inl rfl), ⟨us0, e.tup s1, e.dps 3 _ _ (noL_way _) s2⟩, e.tup h.nw, e.keep _ _ h.rw trivial (.inr (h.ne (i := 1) (j := 3) rfl rfl (by decide))), e.keep _ _ h.ld trivial (.inr (h.ne (i := 2) (j := 3) rfl rfl (by decide))), ⟨us, upd_same, e.ams hu⟩, e.keep _ _ h.tm trivial (.inr (h.ne (i := 4) (j := 3) rfl rfl (by decide))), e.keep _ _ h.lv trivial (.inr (h.ne (i := 5) (j := 3) rfl rfl (by decide))), ⟨kv, e.keep _ _ k1 trivial (.inr (h.ne (i := 6) (j := 3) rfl rfl (by decide))), e.led k2⟩, ⟨ms, e.keep _ _ m1 trivial (.inr (h.ne (i := 7) (j := 3) rfl rfl (by decide))), e.mks m2⟩, e.keep _ _ h.pr trivial (.inr (h.ne (i := 8) (j := 3) rfl rfl (by decide))), h.nd⟩
theorem ChAt.set_tm (h : ChAt K C H c A s) (r : List (Str × Int)) : ChAt K C (upd H A.tm (.dK (tmV r))) c A { s with tempos := r } := by
  obtain ⟨us0, s1, s2⟩ := h.st
  obtain ⟨ps, p1, p2⟩ := h.sp
  obtain ⟨kv, k1, k2⟩ := h.lg
  obtain ⟨ms, m1, m2⟩ := h.mr
  have e : Sx [] [A.tm] H (upd H A.tm (.dK (tmV r))) := sx_upd h.tm rfl List.mem_cons_self
  exact ⟨e.keep _ _ h.ins trivial (.inr (h.ne (i := 0) (j := 4) rfl rfl (by decide))), e.keep _ _ h.own trivial (.inl rfl), ⟨us0, e.tup s1, e.dps 3 _ _ (noL_way _) s2⟩, e.tup h.nw, e.keep _ _ h.rw trivial (.inr (h.ne (i := 1) (j := 4) rfl rfl (by decide))), e.keep _ _ h.ld trivial (.inr (h.ne (i := 2) (j := 4) rfl rfl (by decide))), ⟨ps, e.keep _ _ p1 trivial (.inr (h.ne (i := 3) (j := 4) rfl rfl (by decide))), e.ams p2⟩, upd_same, e.keep _ _ h.lv trivial (.inr (h.ne (i := 5) (j := 4) rfl rfl (by decide))), ⟨kv, e.keep _ _ k1 trivial (.inr (h.ne (i := 6) (j := 4) rfl rfl (by decide))), e.led k2⟩, ⟨ms, e.keep _ _ m1 trivial (.inr (h.ne (i := 7) (j := 4) rfl rfl (by decide))), e.mks m2⟩, e.keep _ _ h.pr trivial (.inr (h.ne (i := 8) (j := 4) rfl rfl (by decide))), h.nd⟩
theorem ChAt.set_lv (h : ChAt K C H c A s) (r : List Str) : ChAt K C (upd H A.lv (.lst (r.map V.str))) c A { s with leaving := r } := by
  obtain ⟨us0, s1, s2⟩ := h.st
  obtain ⟨ps, p1, p2⟩ := h.sp
  obtain ⟨kv, k1, k2⟩ := h.lg
  obtain ⟨ms, m1, m2⟩ := h.mr
  have e : Sx [] [A.lv] H (upd H A.lv (.lst (r.map V.str))) := sx_upd h.lv rfl List.mem_cons_self
  exact ⟨e.keep _ _ h.ins trivial (.inr (h.ne (i := 0) (j := 5) rfl rfl (by decide))), e.keep _ _ h.own trivial (.inl rfl), ⟨us0, e.tup s1, e.dps 3 _ _ (noL_way _) s2⟩, e.tup h.nw, e.keep _ _ h.rw trivial (.inr (h.ne (i := 1) (j := 5) rfl rfl (by decide))), e.keep _ _ h.ld trivial (.inr (h.ne (i := 2) (j := 5) rfl rfl (by decide))), ⟨ps, e.keep _ _ p1 trivial (.inr (h.ne (i := 3) (j := 5) rfl rfl (by decide))), e.ams p2⟩, e.keep _ _ h.tm trivial (.inr (h.ne (i := 4) (j := 5) rfl rfl (by decide))), upd_same, ⟨kv, e.keep _ _ k1 trivial (.inr (h.ne (i := 6) (j := 5) rfl rfl (by decide))), e.led k2⟩, ⟨ms, e.keep _ _ m1 trivial (.inr (h.ne (i := 7) (j := 5) rfl rfl (by decide))), e.mks m2⟩, e.keep _ _ h.pr trivial (.inr (h.ne (i := 8) (j := 5) rfl rfl (by decide))), h.nd⟩
theorem ChAt.set_lg (h : ChAt K C H c A s) {kvs : List (L2.Key × V)} {r : List (Str × (Rat × Rat × Rat))} (hu : LedL K H kvs r) : ChAt K C (upd H A.lg (.dK kvs)) c A { s with ledgers := r } := by
  obtain ⟨us0, s1, s2⟩ := h.st
  obtain ⟨ps, p1, p2⟩ := h.sp
  obtain ⟨kv, k1, k2⟩ := h.lg
  obtain ⟨ms, m1, m2⟩ := h.mr
  have e : Sx [] [A.lg] H (upd H A.lg (.dK kvs)) := sx_upd k1 rfl List.mem_cons_self
  exact ⟨e.keep _ _ h.ins trivial (.inr (h.ne (i := 0) (j := 6) rfl rfl (by decide))), e.keep _ _ h.own trivial (.inl rfl), ⟨us0, e.tup s1, e.dps 3 _ _ (noL_way _) s2⟩, e.tup h.nw, e.keep _ _ h.rw trivial (.inr (h.ne (i := 1) (j := 6) rfl rfl (by decide))), e.keep _ _ h.ld trivial (.inr (h.ne (i := 2) (j := 6) rfl rfl (by decide))), ⟨ps, e.keep _ _ p1 trivial (.inr (h.ne (i := 3) (j := 6) rfl rfl (by decide))), e.ams p2⟩, e.keep _ _ h.tm trivial (.inr (h.ne (i := 4) (j := 6) rfl rfl (by decide))), e.keep _ _ h.lv trivial (.inr (h.ne (i := 5) (j := 6) rfl rfl (by decide))), ⟨kvs, upd_same, e.led hu⟩, ⟨ms, e.keep _ _ m1 trivial (.inr (h.ne (i := 7) (j := 6) rfl rfl (by decide))), e.mks m2⟩, e.keep _ _ h.pr trivial (.inr (h.ne (i := 8) (j := 6) rfl rfl (by decide))), h.nd⟩
theorem ChAt.set_mr (h : ChAt K C H c A s) {us : List V} {r : List (List (Str × Rat))} (hu : DpAll K H us (r.map mkD)) : ChAt K C (upd H A.mr (.lst us)) c A { s with marks := r } := by
  obtain ⟨us0, s1, s2⟩ := h.st
  obtain ⟨ps, p1, p2⟩ := h.sp
  obtain ⟨kv, k1, k2⟩ := h.lg
  obtain ⟨ms, m1, m2⟩ := h.mr
  have e : Sx [] [A.mr] H (upd H A.mr (.lst us)) := sx_upd m1 rfl List.mem_cons_self
  exact ⟨e.keep _ _ h.ins trivial (.inr (h.ne (i := 0) (j := 7) rfl rfl (by decide))), e.keep _ _ h.own trivial (.inl rfl), ⟨us0, e.tup s1, e.dps 3 _ _ (noL_way _) s2⟩, e.tup h.nw, e.keep _ _ h.rw trivial (.inr (h.ne (i := 1) (j := 7) rfl rfl (by decide))), e.keep _ _ h.ld trivial (.inr (h.ne (i := 2) (j := 7) rfl rfl (by decide))), ⟨ps, e.keep _ _ p1 trivial (.inr (h.ne (i := 3) (j := 7) rfl rfl (by decide))), e.ams p2⟩, e.keep _ _ h.tm trivial (.inr (h.ne (i := 4) (j := 7) rfl rfl (by decide))), e.keep _ _ h.lv trivial (.inr (h.ne (i := 5) (j := 7) rfl rfl (by decide))), ⟨kv, e.keep _ _ k1 trivial (.inr (h.ne (i := 6) (j := 7) rfl rfl (by decide))), e.led k2⟩, ⟨us, upd_same, e.mks hu⟩, e.keep _ _ h.pr trivial (.inr (h.ne (i := 8) (j := 7) rfl rfl (by decide))), h.nd⟩
theorem ChAt.set_pr (h : ChAt K C H c A s) (r : List Int) : ChAt K C (upd H A.pr (.lst (r.map V.int))) c A { s with poured := r } := by
  obtain ⟨us0, s1, s2⟩ := h.st
  obtain ⟨ps, p1, p2⟩ := h.sp
  obtain ⟨kv, k1, k2⟩ := h.lg
  obtain ⟨ms, m1, m2⟩ := h.mr
  have e : Sx [] [A.pr] H (upd H A.pr (.lst (r.map V.int))) := sx_upd h.pr rfl List.mem_cons_self
  exact ⟨e.keep _ _ h.ins trivial (.inr (h.ne (i := 0) (j := 8) rfl rfl (by decide))), e.keep _ _ h.own trivial (.inl rfl), ⟨us0, e.tup s1, e.dps 3 _ _ (noL_way _) s2⟩, e.tup h.nw, e.keep _ _ h.rw trivial (.inr (h.ne (i := 1) (j := 8) rfl rfl (by decide))), e.keep _ _ h.ld trivial (.inr (h.ne (i := 2) (j := 8) rfl rfl (by decide))), ⟨ps, e.keep _ _ p1 trivial (.inr (h.ne (i := 3) (j := 8) rfl rfl (by decide))), e.ams p2⟩, e.keep _ _ h.tm trivial (.inr (h.ne (i := 4) (j := 8) rfl rfl (by decide))), e.keep _ _ h.lv trivial (.inr (h.ne (i := 5) (j := 8) rfl rfl (by decide))), ⟨kv, e.keep _ _ k1 trivial (.inr (h.ne (i := 6) (j := 8) rfl rfl (by decide))), e.led k2⟩, ⟨ms, e.keep _ _ m1 trivial (.inr (h.ne (i := 7) (j := 8) rfl rfl (by decide))), e.mks m2⟩, upd_same, h.nd⟩
theorem ChAt.re_nw (h : ChAt K C H c A s) {n : Addr} {t : Rat} (hn : SqT K H n (tv (am t))) : ChAt K C (upd H c (.ins C A.dx (flds s.fire { A with nw := n }))) c { A with nw := n } { s with now := t } := by
  obtain ⟨us0, s1, s2⟩ := h.st
  obtain ⟨ps, p1, p2⟩ := h.sp
  obtain ⟨kv, k1, k2⟩ := h.lg
  obtain ⟨ms, m1, m2⟩ := h.mr
  have e : Sx [] [c] H (upd H c (.ins C A.dx (flds s.fire { A with nw := n }))) := sx_upd h.ins rfl List.mem_cons_self
  exact ⟨upd_same, e.keep _ _ h.own trivial (.inl rfl), ⟨us0, e.tup s1, e.dps 3 _ _ (noL_way _) s2⟩, e.tup hn, e.keep _ _ h.rw trivial (.inr (h.ne (i := 1) (j := 0) rfl rfl (by decide))), e.keep _ _ h.ld trivial (.inr (h.ne (i := 2) (j := 0) rfl rfl (by decide))), ⟨ps, e.keep _ _ p1 trivial (.inr (h.ne (i := 3) (j := 0) rfl rfl (by decide))), e.ams p2⟩, e.keep _ _ h.tm trivial (.inr (h.ne (i := 4) (j := 0) rfl rfl (by decide))), e.keep _ _ h.lv trivial (.inr (h.ne (i := 5) (j := 0) rfl rfl (by decide))), ⟨kv, e.keep _ _ k1 trivial (.inr (h.ne (i := 6) (j := 0) rfl rfl (by decide))), e.led k2⟩, ⟨ms, e.keep _ _ m1 trivial (.inr (h.ne (i := 7) (j := 0) rfl rfl (by decide))), e.mks m2⟩, e.keep _ _ h.pr trivial (.inr (h.ne (i := 8) (j := 0) rfl rfl (by decide))), h.nd⟩
theorem ChAt.re_rw (h : ChAt K C H c A s) {n : Addr} {r : List Str} (hn : H n = some (.lst (r.map V.str))) (np : n ∉ ownC c A) : ChAt K C (upd H c (.ins C A.dx (flds s.fire { A with rw := n }))) c { A with rw := n } { s with row := r } := by
  obtain ⟨us0, s1, s2⟩ := h.st
  obtain ⟨ps, p1, p2⟩ := h.sp
  obtain ⟨kv, k1, k2⟩ := h.lg
  obtain ⟨ms, m1, m2⟩ := h.mr
  have e : Sx [] [c] H (upd H c (.ins C A.dx (flds s.fire { A with rw := n }))) := sx_upd h.ins rfl List.mem_cons_self
  exact ⟨upd_same, e.keep _ _ h.own trivial (.inl rfl), ⟨us0, e.tup s1, e.dps 3 _ _ (noL_way _) s2⟩, e.tup h.nw, e.keep _ _ hn trivial (.inr (fun z => np (by have e : n = c := List.mem_singleton.mp z; rw [e]; exact List.mem_cons_self))), e.keep _ _ h.ld trivial (.inr (h.ne (i := 2) (j := 0) rfl rfl (by decide))), ⟨ps, e.keep _ _ p1 trivial (.inr (h.ne (i := 3) (j := 0) rfl rfl (by decide))), e.ams p2⟩, e.keep _ _ h.tm trivial (.inr (h.ne (i := 4) (j := 0) rfl rfl (by decide))), e.keep _ _ h.lv trivial (.inr (h.ne (i := 5) (j := 0) rfl rfl (by decide))), ⟨kv, e.keep _ _ k1 trivial (.inr (h.ne (i := 6) (j := 0) rfl rfl (by decide))), e.led k2⟩, ⟨ms, e.keep _ _ m1 trivial (.inr (h.ne (i := 7) (j := 0) rfl rfl (by decide))), e.mks m2⟩, e.keep _ _ h.pr trivial (.inr (h.ne (i := 8) (j := 0) rfl rfl (by decide))), nd_set h.nd (i := 1) rfl np⟩
theorem ChAt.re_ld (h : ChAt K C H c A s) {n : Addr} {r : List Int} (hn : H n = some (.lst (r.map V.int))) (np : n ∉ ownC c A) : ChAt K C (upd H c (.ins C A.dx (flds s.fire { A with ld := n }))) c { A with ld := n } { s with loads := r } := by
  obtain ⟨us0, s1, s2⟩ := h.st
  obtain ⟨ps, p1, p2⟩ := h.sp
  obtain ⟨kv, k1, k2⟩ := h.lg
  obtain ⟨ms, m1, m2⟩ := h.mr
  have e : Sx [] [c] H (upd H c (.ins C A.dx (flds s.fire { A with ld := n }))) := sx_upd h.ins rfl List.mem_cons_self
  exact ⟨upd_same, e.keep _ _ h.own trivial (.inl rfl), ⟨us0, e.tup s1, e.dps 3 _ _ (noL_way _) s2⟩, e.tup h.nw, e.keep _ _ h.rw trivial (.inr (h.ne (i := 1) (j := 0) rfl rfl (by decide))), e.keep _ _ hn trivial (.inr (fun z => np (by have e : n = c := List.mem_singleton.mp z; rw [e]; exact List.mem_cons_self))), ⟨ps, e.keep _ _ p1 trivial (.inr (h.ne (i := 3) (j := 0) rfl rfl (by decide))), e.ams p2⟩, e.keep _ _ h.tm trivial (.inr (h.ne (i := 4) (j := 0) rfl rfl (by decide))), e.keep _ _ h.lv trivial (.inr (h.ne (i := 5) (j := 0) rfl rfl (by decide))), ⟨kv, e.keep _ _ k1 trivial (.inr (h.ne (i := 6) (j := 0) rfl rfl (by decide))), e.led k2⟩, ⟨ms, e.keep _ _ m1 trivial (.inr (h.ne (i := 7) (j := 0) rfl rfl (by decide))), e.mks m2⟩, e.keep _ _ h.pr trivial (.inr (h.ne (i := 8) (j := 0) rfl rfl (by decide))), nd_set h.nd (i := 2) rfl np⟩
theorem ChAt.re_sp (h : ChAt K C H c A s) {n : Addr} {us : List V} {r : List Rat} (hn : H n = some (.lst us)) (hu : AmL K H us r) (np : n ∉ ownC c A) : ChAt K C (upd H c (.ins C A.dx (flds s.fire { A with sp := n }))) c { A with sp := n } { s with spots := r } := by
  obtain ⟨us0, s1, s2⟩ := h.st
  obtain ⟨ps, p1, p2⟩ := h.sp
  obtain ⟨kv, k1, k2⟩ := h.lg
  obtain ⟨ms, m1, m2⟩ := h.mr
  have e : Sx [] [c] H (upd H c (.ins C A.dx (flds s.fire { A with sp := n }))) := sx_upd h.ins rfl List.mem_cons_self
  exact ⟨upd_same, e.keep _ _ h.own trivial (.inl rfl), ⟨us0, e.tup s1, e.dps 3 _ _ (noL_way _) s2⟩, e.tup h.nw, e.keep _ _ h.rw trivial (.inr (h.ne (i := 1) (j := 0) rfl rfl (by decide))), e.keep _ _ h.ld trivial (.inr (h.ne (i := 2) (j := 0) rfl rfl (by decide))), ⟨us, e.keep _ _ hn trivial (.inr (fun z => np (by have e : n = c := List.mem_singleton.mp z; rw [e]; exact List.mem_cons_self))), e.ams hu⟩, e.keep _ _ h.tm trivial (.inr (h.ne (i := 4) (j := 0) rfl rfl (by decide))), e.keep _ _ h.lv trivial (.inr (h.ne (i := 5) (j := 0) rfl rfl (by decide))), ⟨kv, e.keep _ _ k1 trivial (.inr (h.ne (i := 6) (j := 0) rfl rfl (by decide))), e.led k2⟩, ⟨ms, e.keep _ _ m1 trivial (.inr (h.ne (i := 7) (j := 0) rfl rfl (by decide))), e.mks m2⟩, e.keep _ _ h.pr trivial (.inr (h.ne (i := 8) (j := 0) rfl rfl (by decide))), nd_set h.nd (i := 3) rfl np⟩
theorem ChAt.re_tm (h : ChAt K C H c A s) {n : Addr} {r : List (Str × Int)} (hn : H n = some (.dK (tmV r))) (np : n ∉ ownC c A) : ChAt K C (upd H c (.ins C A.dx (flds s.fire { A with tm := n }))) c { A with tm := n } { s with tempos := r } := by
  obtain ⟨us0, s1, s2⟩ := h.st
  obtain ⟨ps, p1, p2⟩ := h.sp
  obtain ⟨kv, k1, k2⟩ := h.lg
  obtain ⟨ms, m1, m2⟩ := h.mr
  have e : Sx [] [c] H (upd H c (.ins C A.dx (flds s.fire { A with tm := n }))) := sx_upd h.ins rfl List.mem_cons_self
  exact ⟨upd_same, e.keep _ _ h.own trivial (.inl rfl), ⟨us0, e.tup s1, e.dps 3 _ _ (noL_way _) s2⟩, e.tup h.nw, e.keep _ _ h.rw trivial (.inr (h.ne (i := 1) (j := 0) rfl rfl (by decide))), e.keep _ _ h.ld trivial (.inr (h.ne (i := 2) (j := 0) rfl rfl (by decide))), ⟨ps, e.keep _ _ p1 trivial (.inr (h.ne (i := 3) (j := 0) rfl rfl (by decide))), e.ams p2⟩, e.keep _ _ hn trivial (.inr (fun z => np (by have e : n = c := List.mem_singleton.mp z; rw [e]; exact List.mem_cons_self))), e.keep _ _ h.lv trivial (.inr (h.ne (i := 5) (j := 0) rfl rfl (by decide))), ⟨kv, e.keep _ _ k1 trivial (.inr (h.ne (i := 6) (j := 0) rfl rfl (by decide))), e.led k2⟩, ⟨ms, e.keep _ _ m1 trivial (.inr (h.ne (i := 7) (j := 0) rfl rfl (by decide))), e.mks m2⟩, e.keep _ _ h.pr trivial (.inr (h.ne (i := 8) (j := 0) rfl rfl (by decide))), nd_set h.nd (i := 4) rfl np⟩
theorem ChAt.re_lv (h : ChAt K C H c A s) {n : Addr} {r : List Str} (hn : H n = some (.lst (r.map V.str))) (np : n ∉ ownC c A) : ChAt K C (upd H c (.ins C A.dx (flds s.fire { A with lv := n }))) c { A with lv := n } { s with leaving := r } := by
  obtain ⟨us0, s1, s2⟩ := h.st
  obtain ⟨ps, p1, p2⟩ := h.sp
  obtain ⟨kv, k1, k2⟩ := h.lg
  obtain ⟨ms, m1, m2⟩ := h.mr
  have e : Sx [] [c] H (upd H c (.ins C A.dx (flds s.fire { A with lv := n }))) := sx_upd h.ins rfl List.mem_cons_self
  exact ⟨upd_same, e.keep _ _ h.own trivial (.inl rfl), ⟨us0, e.tup s1, e.dps 3 _ _ (noL_way _) s2⟩, e.tup h.nw, e.keep _ _ h.rw trivial (.inr (h.ne (i := 1) (j := 0) rfl rfl (by decide))), e.keep _ _ h.ld trivial (.inr (h.ne (i := 2) (j := 0) rfl rfl (by decide))), ⟨ps, e.keep _ _ p1 trivial (.inr (h.ne (i := 3) (j := 0) rfl rfl (by decide))), e.ams p2⟩, e.keep _ _ h.tm trivial (.inr (h.ne (i := 4) (j := 0) rfl rfl (by decide))), e.keep _ _ hn trivial (.inr (fun z => np (by have e : n = c := List.mem_singleton.mp z; rw [e]; exact List.mem_cons_self))), ⟨kv, e.keep _ _ k1 trivial (.inr (h.ne (i := 6) (j := 0) rfl rfl (by decide))), e.led k2⟩, ⟨ms, e.keep _ _ m1 trivial (.inr (h.ne (i := 7) (j := 0) rfl rfl (by decide))), e.mks m2⟩, e.keep _ _ h.pr trivial (.inr (h.ne (i := 8) (j := 0) rfl rfl (by decide))), nd_set h.nd (i := 5) rfl np⟩
theorem ChAt.re_lg (h : ChAt K C H c A s) {n : Addr} {kvs : List (L2.Key × V)} {r : List (Str × (Rat × Rat × Rat))} (hn : H n = some (.dK kvs)) (hu : LedL K H kvs r) (np : n ∉ ownC c A) : ChAt K C (upd H c (.ins C A.dx (flds s.fire { A with lg := n }))) c { A with lg := n } { s with ledgers := r } := by
  obtain ⟨us0, s1, s2⟩ := h.st
  obtain ⟨ps, p1, p2⟩ := h.sp
  obtain ⟨kv, k1, k2⟩ := h.lg
  obtain ⟨ms, m1, m2⟩ := h.mr
  have e : Sx [] [c] H (upd H c (.ins C A.dx (flds s.fire { A with lg := n }))) := sx_upd h.ins rfl List.mem_cons_self
  exact ⟨upd_same, e.keep _ _ h.own trivial (.inl rfl), ⟨us0, e.tup s1, e.dps 3 _ _ (noL_way _) s2⟩, e.tup h.nw, e.keep _ _ h.rw trivial (.inr (h.ne (i := 1) (j := 0) rfl rfl (by decide))), e.keep _ _ h.ld trivial (.inr (h.ne (i := 2) (j := 0) rfl rfl (by decide))), ⟨ps, e.keep _ _ p1 trivial (.inr (h.ne (i := 3) (j := 0) rfl rfl (by decide))), e.ams p2⟩, e.keep _ _ h.tm trivial (.inr (h.ne (i := 4) (j := 0) rfl rfl (by decide))), e.keep _ _ h.lv trivial (.inr (h.ne (i := 5) (j := 0) rfl rfl (by decide))), ⟨kvs, e.keep _ _ hn trivial (.inr (fun z => np (by have e : n = c := List.mem_singleton.mp z; rw [e]; exact List.mem_cons_self))), e.led hu⟩, ⟨ms, e.keep _ _ m1 trivial (.inr (h.ne (i := 7) (j := 0) rfl rfl (by decide))), e.mks m2⟩, e.keep _ _ h.pr trivial (.inr (h.ne (i := 8) (j := 0) rfl rfl (by decide))), nd_set h.nd (i := 6) rfl np⟩
theorem ChAt.re_mr (h : ChAt K C H c A s) {n : Addr} {us : List V} {r : List (List (Str × Rat))} (hn : H n = some (.lst us)) (hu : DpAll K H us (r.map mkD)) (np : n ∉ ownC c A) : ChAt K C (upd H c (.ins C A.dx (flds s.fire { A with mr := n }))) c { A with mr := n } { s with marks := r } := by
  obtain ⟨us0, s1, s2⟩ := h.st
  obtain ⟨ps, p1, p2⟩ := h.sp
  obtain ⟨kv, k1, k2⟩ := h.lg
  obtain ⟨ms, m1, m2⟩ := h.mr
  have e : Sx [] [c] H (upd H c (.ins C A.dx (flds s.fire { A with mr := n }))) := sx_upd h.ins rfl List.mem_cons_self
  exact ⟨upd_same, e.keep _ _ h.own trivial (.inl rfl), ⟨us0, e.tup s1, e.dps 3 _ _ (noL_way _) s2⟩, e.tup h.nw, e.keep _ _ h.rw trivial (.inr (h.ne (i := 1) (j := 0) rfl rfl (by decide))), e.keep _ _ h.ld trivial (.inr (h.ne (i := 2) (j := 0) rfl rfl (by decide))), ⟨ps, e.keep _ _ p1 trivial (.inr (h.ne (i := 3) (j := 0) rfl rfl (by decide))), e.ams p2⟩, e.keep _ _ h.tm trivial (.inr (h.ne (i := 4) (j := 0) rfl rfl (by decide))), e.keep _ _ h.lv trivial (.inr (h.ne (i := 5) (j := 0) rfl rfl (by decide))), ⟨kv, e.keep _ _ k1 trivial (.inr (h.ne (i := 6) (j := 0) rfl rfl (by decide))), e.led k2⟩, ⟨us, e.keep _ _ hn trivial (.inr (fun z => np (by have e : n = c := List.mem_singleton.mp z; rw [e]; exact List.mem_cons_self))), e.mks hu⟩, e.keep _ _ h.pr trivial (.inr (h.ne (i := 8) (j := 0) rfl rfl (by decide))), nd_set h.nd (i := 7) rfl np⟩
theorem ChAt.re_pr (h : ChAt K C H c A s) {n : Addr} {r : List Int} (hn : H n = some (.lst (r.map V.int))) (np : n ∉ ownC c A) : ChAt K C (upd H c (.ins C A.dx (flds s.fire { A with pr := n }))) c { A with pr := n } { s with poured := r } := by
  obtain ⟨us0, s1, s2⟩ := h.st
  obtain ⟨ps, p1, p2⟩ := h.sp
  obtain ⟨kv, k1, k2⟩ := h.lg
  obtain ⟨ms, m1, m2⟩ := h.mr
  have e : Sx [] [c] H (upd H c (.ins C A.dx (flds s.fire { A with pr := n }))) := sx_upd h.ins rfl List.mem_cons_self
  exact ⟨upd_same, e.keep _ _ h.own trivial (.inl rfl), ⟨us0, e.tup s1, e.dps 3 _ _ (noL_way _) s2⟩, e.tup h.nw, e.keep _ _ h.rw trivial (.inr (h.ne (i := 1) (j := 0) rfl rfl (by decide))), e.keep _ _ h.ld trivial (.inr (h.ne (i := 2) (j := 0) rfl rfl (by decide))), ⟨ps, e.keep _ _ p1 trivial (.inr (h.ne (i := 3) (j := 0) rfl rfl (by decide))), e.ams p2⟩, e.keep _ _ h.tm trivial (.inr (h.ne (i := 4) (j := 0) rfl rfl (by decide))), e.keep _ _ h.lv trivial (.inr (h.ne (i := 5) (j := 0) rfl rfl (by decide))), ⟨kv, e.keep _ _ k1 trivial (.inr (h.ne (i := 6) (j := 0) rfl rfl (by decide))), e.led k2⟩, ⟨ms, e.keep _ _ m1 trivial (.inr (h.ne (i := 7) (j := 0) rfl rfl (by decide))), e.mks m2⟩, e.keep _ _ hn trivial (.inr (fun z => np (by have e : n = c := List.mem_singleton.mp z; rw [e]; exact List.mem_cons_self))), nd_set h.nd (i := 8) rfl np⟩
theorem ChAt.some (h : ChAt K C H c A s) {x : Addr} (hx : x ∈ ownC c A) : ∃ o, H x = some o ∧ mutO o = true := by
  obtain ⟨ps, p1, p2⟩ := h.sp
  obtain ⟨kv, k1, k2⟩ := h.lg
  obtain ⟨ms, m1, m2⟩ := h.mr
  simp only [ownC, List.mem_cons, List.not_mem_nil, or_false] at hx
  rcases hx with rfl | rfl | rfl | rfl | rfl | rfl | rfl | rfl | rfl
  · exact ⟨_, h.ins, rfl⟩
  · exact ⟨_, h.rw, rfl⟩
  · exact ⟨_, h.ld, rfl⟩
  · exact ⟨_, p1, rfl⟩
  · exact ⟨_, h.tm, rfl⟩
  · exact ⟨_, h.lv, rfl⟩
  · exact ⟨_, k1, rfl⟩
  · exact ⟨_, m1, rfl⟩
  · exact ⟨_, h.pr, rfl⟩
theorem ChAt.new (h : ChAt K C H c A s) {n : Addr} (hn : H n = none) : n ∉ ownC c A := fun hx => by
  obtain ⟨o, ho, _⟩ := h.some hx
  rw [hn] at ho
  cases ho
end

structure Kl (K : PySem.W.Frag) (C : Addr) : Prop where
  cl : Cls K C
  no : ∀ f ∈ FLD, NoAttr K C f

/-! ### dicts by names -/
def getL {α : Type} (l : List (Str × α)) (n : Str) : Option α := (l.find? fun x => decide (x.1 = n)).map (·.2)
def putL {α : Type} (l : List (Str × α)) (n : Str) (a : α) : List (Str × α) := if (l.any fun x => decide (x.1 = n)) = true then l.map (fun x => if x.1 = n then (x.1, a) else x) else l ++ [(n, a)]
theorem inr_eq {a b : Str} : ((Sum.inr a : L2.Key) = Sum.inr b) ↔ a = b := ⟨fun h => Sum.inr.inj h, fun h => by rw [h]⟩
theorem val_tm (l : List (Str × Int)) (n : Str) : valV (tmV l) (Sum.inr n) = (getL l n).map V.int := by
  unfold valV getL tmV
  induction l with
  | nil => rfl
  | cons x l ih =>
    rw [List.map_cons, List.find?_cons, List.find?_cons]
    by_cases h : x.1 = n
    · rw [decide_eq_true h, decide_eq_true (inr_eq.mpr h)]
      rfl
    · rw [decide_eq_false h, decide_eq_false (fun z => h (inr_eq.mp z))]
      exact ih
theorem any_tm (l : List (Str × Int)) (n : Str) : ((tmV l).any fun kv => decide (kv.1 = Sum.inr n)) = l.any fun x => decide (x.1 = n) := by
  unfold tmV
  rw [List.any_map]
  congr 1
  funext x
  show decide ((Sum.inr x.1 : L2.Key) = Sum.inr n) = decide (x.1 = n)
  exact decide_eq_decide.mpr inr_eq
theorem put_tm (l : List (Str × Int)) (n : Str) (p : Int) : putK (tmV l) (Sum.inr n) (V.int p) = tmV (putL l n p) := by
  unfold putK putL
  rw [any_tm]
  split
  · unfold tmV
    rw [List.map_map, List.map_map]
    refine List.map_congr_left fun x _ => ?_
    show (if (Sum.inr x.1 : L2.Key) = Sum.inr n then _ else _) = _
    by_cases h : x.1 = n
    · rw [if_pos (inr_eq.mpr h)]
      simp only [Function.comp, if_pos h]
    · rw [if_neg (fun z => h (inr_eq.mp z))]
      simp only [Function.comp, if_neg h]
  · unfold tmV
    rw [List.map_append]
    rfl
theorem led_val {K : PySem.W.Frag} {H : Hp} : ∀ {kvs : List (L2.Key × V)} {l : List (Str × (Rat × Rat × Rat))}, LedL K H kvs l → ∀ n : Str,
    (getL l n = none ∧ valV kvs (Sum.inr n) = none) ∨ ∃ x v, getL l n = some x ∧ valV kvs (Sum.inr n) = some v ∧ Dp K H v (ledD x)
  | [], [], _, n => .inl ⟨rfl, rfl⟩
  | [], _ :: _, h, n => by cases h.1
  | _ :: _, [], h, n => by cases h.1
  | kv :: kvs, x :: l, h, n => by
    obtain ⟨h1, h2⟩ := h
    rw [List.map_cons, List.map_cons] at h1 h2
    have e1 := (List.cons.inj h1).1
    have e2 := (List.cons.inj h1).2
    cases h2 with
    | cons d1 d2 =>
      unfold getL valV
      rw [List.find?_cons, List.find?_cons]
      by_cases hn : x.1 = n
      · rw [decide_eq_true hn, decide_eq_true (by rw [e1, hn])]
        exact .inr ⟨x.2, kv.2, rfl, rfl, d1⟩
      · rw [decide_eq_false hn, decide_eq_false (fun z => by rw [e1] at z; exact hn (inr_eq.mp z))]
        exact led_val ⟨e2, d2⟩ n
theorem led_any {K : PySem.W.Frag} {H : Hp} : ∀ {kvs : List (L2.Key × V)} {l : List (Str × (Rat × Rat × Rat))}, LedL K H kvs l → ∀ n : Str, (kvs.any fun kv => decide (kv.1 = Sum.inr n)) = l.any fun x => decide (x.1 = n)
  | [], [], _, n => rfl
  | [], _ :: _, h, n => by cases h.1
  | _ :: _, [], h, n => by cases h.1
  | kv :: kvs, x :: l, h, n => by
    obtain ⟨h1, h2⟩ := h
    rw [List.map_cons, List.map_cons] at h1 h2
    cases h2 with
    | cons d1 d2 =>
      rw [List.any_cons, List.any_cons, led_any ⟨(List.cons.inj h1).2, d2⟩ n, (List.cons.inj h1).1]
      congr 1
      exact decide_eq_decide.mpr inr_eq
theorem led_map {K : PySem.W.Frag} {H : Hp} {n : Str} {v : V} {x : Rat × Rat × Rat} (hv : Dp K H v (ledD x)) : ∀ {kvs : List (L2.Key × V)} {l : List (Str × (Rat × Rat × Rat))}, LedL K H kvs l →
    LedL K H (kvs.map fun kv => if kv.1 = Sum.inr n then (kv.1, v) else kv) (l.map fun y => if y.1 = n then (y.1, x) else y)
  | [], [], _ => ⟨rfl, .nil⟩
  | [], _ :: _, h => by cases h.1
  | _ :: _, [], h => by cases h.1
  | kv :: kvs, y :: l, h => by
    obtain ⟨h1, h2⟩ := h
    rw [List.map_cons, List.map_cons] at h1 h2
    have e1 := (List.cons.inj h1).1
    cases h2 with
    | cons d1 d2 =>
      have ih := led_map hv (n := n) ⟨(List.cons.inj h1).2, d2⟩
      by_cases hn : y.1 = n
      · have hk : kv.1 = Sum.inr n := by rw [e1, hn]
        refine ⟨?_, ?_⟩
        · rw [List.map_cons, List.map_cons, List.map_cons, List.map_cons, if_pos hk, if_pos hn, ih.1]
          exact congrArg (· :: _) e1
        · simp only [List.map_cons, if_pos hk, if_pos hn]
          exact .cons hv ih.2
      · have hk : kv.1 ≠ Sum.inr n := fun z => hn (inr_eq.mp (e1.symm.trans z))
        refine ⟨?_, ?_⟩
        · rw [List.map_cons, List.map_cons, List.map_cons, List.map_cons, if_neg hk, if_neg hn, ih.1]
          exact congrArg (· :: _) e1
        · simp only [List.map_cons, if_neg hk, if_neg hn]
          exact .cons d1 ih.2
theorem led_put {K : PySem.W.Frag} {H : Hp} {kvs : List (L2.Key × V)} {l : List (Str × (Rat × Rat × Rat))} (h : LedL K H kvs l) {n : Str} {v : V} {x : Rat × Rat × Rat} (hv : Dp K H v (ledD x)) : LedL K H (putK kvs (Sum.inr n) v) (putL l n x) := by
  unfold putK putL
  rw [led_any h]
  split
  · exact led_map hv h
  · refine ⟨?_, ?_⟩
    · rw [List.map_append, List.map_append, h.1]
      rfl
    · rw [List.map_append, List.map_append]
      exact dpa_app h.2 (.cons hv .nil)
theorem led_len {K : PySem.W.Frag} {H : Hp} {kvs : List (L2.Key × V)} {l : List (Str × (Rat × Rat × Rat))} (h : LedL K H kvs l) : kvs.length = l.length := by
  have := congrArg List.length h.1
  rw [List.length_map, List.length_map] at this
  exact this
theorem getL_put {α : Type} (l : List (Str × α)) (n m : Str) (a : α) : getL (putL l n a) m = if n = m then some a else getL l m := by
  unfold putL
  split
  · rename_i h
    unfold getL
    induction l with
    | nil => cases h
    | cons x l ih =>
      rw [List.map_cons, List.find?_cons, List.find?_cons]
      by_cases hx : x.1 = n
      · rw [if_pos hx]
        by_cases hm : n = m
        · rw [if_pos hm, decide_eq_true (show x.1 = m by rw [hx, hm])]
          rfl
        · rw [if_neg hm, decide_eq_false (show ¬ x.1 = m by rw [hx]; exact hm)]
          dsimp only
          by_cases ha : (l.any fun x => decide (x.1 = n)) = true
          · have := ih ha
            rw [if_neg hm] at this
            exact this
          · have e : l.map (fun x => if x.1 = n then (x.1, a) else x) = l := by
              refine (List.map_congr_left fun y hy => ?_).trans (List.map_id l)
              refine if_neg fun z => ha (List.any_eq_true.mpr ⟨y, hy, decide_eq_true z⟩)
            rw [e]
      · rw [if_neg hx]
        rw [List.any_cons, decide_eq_false hx, Bool.false_or] at h
        by_cases hm : x.1 = m
        · rw [decide_eq_true hm]
          by_cases hnm : n = m
          · exact absurd (hm.trans hnm.symm) hx
          · rw [if_neg hnm]
        · rw [decide_eq_false hm]
          exact ih h
  · rename_i h
    unfold getL
    rw [List.find?_append]
    by_cases hm : n = m
    · rw [if_pos hm]
      have e : l.find? (fun x => decide (x.1 = m)) = none := by
        rw [List.find?_eq_none]
        intro y hy z
        exact h (List.any_eq_true.mpr ⟨y, hy, by rw [hm]; exact z⟩)
      rw [e, Option.none_or, List.find?_cons, decide_eq_true (show (n, a).1 = m from hm)]
      rfl
    · rw [if_neg hm]
      cases e : l.find? (fun x => decide (x.1 = m)) with
      | some y => rfl
      | none =>
        rw [Option.none_or, List.find?_cons, decide_eq_false (show ¬ (n, a).1 = m from hm)]
        rfl
theorem putL_len {α : Type} (l : List (Str × α)) (n : Str) (a : α) : (putL l n a).length ≤ l.length + 1 := by
  unfold putL
  split
  · rw [List.length_map]; omega
  · rw [List.length_append]; exact Nat.le_refl _
theorem putL_has {α : Type} {l : List (Str × α)} {n : Str} {a b : α} (h : getL l n = some b) : (putL l n a).length = l.length := by
  unfold putL
  rw [if_pos, List.length_map]
  unfold getL at h
  cases e : l.find? (fun x => decide (x.1 = n)) with
  | none => rw [e] at h; cases h
  | some y => exact List.any_eq_true.mpr ⟨y, List.mem_of_find?_eq_some e, by have := List.find?_some e; simpa using this⟩
theorem flat_strs (l : List Str) : (l.map V.str).all flatV = true := by
  rw [List.all_map]
  exact List.all_eq_true.mpr fun _ _ => rfl
theorem inV_strs (n : Str) (l : List Str) : inV (.str n) (l.map V.str) = decide (n ∈ l) := by
  unfold inV
  induction l with
  | nil => simp
  | cons x l ih =>
    rw [List.map_cons, List.any_cons, ih]
    show ((x == n) || _) = _
    by_cases h : x = n
    · subst h
      simp
    · have e : (x == n) = false := by simpa using h
      rw [e, Bool.false_or]
      refine decide_eq_decide.mpr ?_
      rw [List.mem_cons]
      exact ⟨.inr, fun z => z.resolve_left fun y => h y.symm⟩

def sp_p_is_number (K : PySem.W.Frag) (T : Tb) : Sp := fun vs H Q _ => ∃ i : Int, vs = [.int i] ∧ Q (.bl true) H
theorem ok_p_is_number {f : Addr} {fd : FuncData} (F : Fun K "is_number" "is_number" s_p_is_number f fd) (B : Bn mg) : FnOk P w K mg base CX0 1 f fd ["thing"] (sp_p_is_number K T) := by
  refine F.ok sc_p_is_number (fun vs H Q E h => ?_) (fun cdv A outer s H vs Q E hr h => ?_)
  · obtain ⟨i, rfl, _⟩ := h
    rfl
  · obtain ⟨i, rfl, q⟩ := h
    refine ⟨_, (pss_one (ps_ret (pe_and (pe_callB call_isi (by rfl) B.isinstance_ (by decide +kernel) (pa_cons (pv 0) (pa_cons (pe_bltn (v := .ty "int") (by rfl) B.int_ (by decide +kernel) rfl) pa_nil))) (pe_one (pe_not (pe_callB call_isi (by rfl) B.isinstance_ (by decide +kernel) (pa_cons (pv 0) (pa_cons (pe_bltn (v := .ty "bool") (by rfl) B.bool_ (by decide +kernel) rfl) pa_nil)))))))), ?_⟩
    refine ⟨_, rfl, _, _, _, _, true, rfl, .ty "int", .base (.int i), kit_ty kb_int_int, _, rfl, iteT ?_⟩
    exact ⟨_, rfl, _, _, _, _, false, rfl, .ty "bool", .base (.int i), kit_ty kb_int_bool, _, rfl, q⟩
def sp_p_is_within (K : PySem.W.Frag) (T : Tb) : Sp := fun vs H Q _ => ∃ i l m : Int, vs = [.int i, .int l, .int m] ∧ Q (.bl (decide (l ≤ i) && decide (i ≤ m))) H
theorem ok_p_is_within {f : Addr} {fd : FuncData} (F : Fun K "is_within" "is_within" s_p_is_within f fd) (F_p_is_number : Fn P w K mg base 1 "is_number" ["thing"] (sp_p_is_number K T)) : FnOk P w K mg base CX0 2 f fd ["thing", "least", "most"] (sp_p_is_within K T) := by
  refine F.ok sc_p_is_within (fun vs H Q E h => ?_) (fun cdv A outer s H vs Q E hr h => ?_)
  · obtain ⟨i, l, m, rfl, _⟩ := h
    rfl
  · obtain ⟨i, l, m, rfl, q⟩ := h
    refine ⟨_, (pss_one (ps_ret (pe_and (pe_fn F_p_is_number (hr.mono (by decide)) (pa_cons (pv 0) pa_nil)) (pe_one (pe_chain op_le op_le (pv 1) (pv 0) (pv 2)))))), ?_⟩
    refine ⟨_, rfl, i, rfl, _, rfl, iteT ?_⟩
    refine ⟨_, rfl, _, rfl, _, _, rfl, rfl, _, rfl, ?_⟩
    by_cases h : l ≤ i
    · rw [decide_eq_true h, Bool.true_and] at q
      rw [decide_eq_true h]
      exact iteT ⟨_, rfl, _, _, rfl, rfl, q⟩
    · rw [decide_eq_false h, Bool.false_and] at q
      rw [decide_eq_false h]
      exact iteF q
def paceB (z : Int) : Bool := decide (1 ≤ z) && decide (z ≤ 12)
def sp_p_check_pace (K : PySem.W.Frag) (T : Tb) (CP : Addr) : Sp := fun vs H Q E => ∃ z : Int, vs = [.int z] ∧ (paceB z = true → Q .non H) ∧ (paceB z = false → ∀ cls d H', Sm T H H' → Rf K CP "bad pace" cls d H' → E cls d H')
theorem ok_p_check_pace {f : Addr} {fd : FuncData} {u_MOST_PACE : Value} (F : Fun K "check_pace" "check_pace" s_p_check_pace f fd) (C_MOST_PACE : RelV (.int 12) u_MOST_PACE ∧ mg "MOST_PACE" = some u_MOST_PACE) {CP : Addr} (R_BadPace : Err P w K mg base CP "BadPace" "bad pace") (F_p_is_within : Fn P w K mg base 2 "is_within" ["thing", "least", "most"] (sp_p_is_within K T)) : FnOk P w K mg base (L2.CX P w) 4 f fd ["pace"] (sp_p_check_pace K T CP) := by
  obtain ⟨⟨tM, rfl⟩, gM⟩ := id C_MOST_PACE
  refine F.okX sc_p_check_pace (fun vs H Q E h => ?_) (fun cdv A outer s H vs Q E hr h => ?_)
  · obtain ⟨z, rfl, _⟩ := h
    rfl
  · obtain ⟨z, rfl, k1, k2⟩ := h
    refine ⟨_, (pss_one (ps_if (pt_not (pt_val (pe_fn F_p_is_within (hr.mono (by decide)) (pa_cons (pv 0) (pa_cons pe_int (pa_cons (pe_glob (by rfl) C_MOST_PACE.2 C_MOST_PACE.1) pa_nil)))))) (pss_one (ps_raise rfl (takes_of rfl rfl rfl rfl) (pmk_err R_BadPace (hr.mono (by decide)) (by rfl)))) pss_nil)), ?_⟩
    refine ⟨_, rfl, z, 1, 12, rfl, _, rfl, ?_⟩
    show if (!(paceB z)) = true then _ else _
    cases hz : paceB z with
    | true => exact iteF (k1 hz)
    | false => exact iteT fun cls dd hn rf => k2 hz cls (some dd) _ (same_upd hn) rf
/-- what paces are refused with -/
def pcW (m : Int) (zs : List Int) : Option Str := if ¬ (1 ≤ (zs.length : Int) ∧ (zs.length : Int) ≤ m) then some "bad count" else if zs.all paceB = true then none else some "bad pace"
def sp_p_check_paces (K : PySem.W.Frag) (T : Tb) (CP : Addr) : Sp := fun vs H Q E => ∃ (a : Addr) (zs : List Int) (m : Int), vs = [.ref a, .int m] ∧ SqL K H a (zs.map V.int) ∧ (pcW m zs = none → Q .non H) ∧ (∀ wd, pcW m zs = some wd → ∀ cls d H', Sm T H H' → Rf K CP wd cls d H' → E cls d H')
theorem ok_p_check_paces {f : Addr} {fd : FuncData} (F : Fun K "check_paces" "check_paces" s_p_check_paces f fd) (B : Bn mg) {CP : Addr} (R_BadCount : Err P w K mg base CP "BadCount" "bad count") (F_p_check_pace : Fx P w K mg base 4 "check_pace" ["pace"] (sp_p_check_pace K T CP)) : FnOk P w K mg base (L2.CX P w) 5 f fd ["paces", "most"] (sp_p_check_paces K T CP) := by
  refine F.okX sc_p_check_paces (fun vs H Q E h => ?_) (fun cdv A outer s H vs Q E hr h => ?_)
  · obtain ⟨a, zs, m, rfl, _⟩ := h
    rfl
  · obtain ⟨a, zs, m, rfl, ha, k1, k2⟩ := h
    refine ⟨_, (pss_cons (ps_if (pt_not (pt_chain op_le op_le pe_int (pe_callB call_len_seq (by rfl) B.len_ (by decide +kernel) (pa_cons (pv 0) pa_nil)) (pv 1))) (pss_one (ps_raise rfl (takes_of rfl rfl rfl rfl) (pmk_err R_BadCount (hr.mono (by decide)) (by rfl)))) pss_nil)
      (pss_one (ps_for (passes_of rfl) rfl (pi_list (pv 0)) (pg_name (i := 2) sc_p_check_paces.nd rfl (.inl rfl))
      (pss_one (ps_expr (pe_fx F_p_check_pace (hr.mono (by decide)) (takes_of rfl rfl rfl rfl) (pa_cons (pv 2) pa_nil))))))), ?_⟩
    refine ⟨_, rfl, a, _, rfl, .inl ha, _, _, rfl, rfl, _, rfl, ?_⟩
    rw [List.length_map]
    have bad : ¬ (1 ≤ (zs.length : Int) ∧ (zs.length : Int) ≤ m) → tErr K CP "bad count" [] H (fun cls d H' => E cls d H') := fun hb cls dd hn rf => k2 "bad count" (by unfold pcW; rw [if_pos hb]) cls (some dd) _ (same_upd hn) rf
    by_cases h1 : (1 : Int) ≤ (zs.length : Int)
    · rw [decide_eq_true h1]
      refine iteT ?_
      refine ⟨_, rfl, _, _, rfl, rfl, _, rfl, ?_⟩
      by_cases h2 : (zs.length : Int) ≤ m
      · rw [decide_eq_true h2]
        refine iteF ?_
        refine ⟨_, rfl, a, rfl, ⟨_, ha⟩, for_list (K := K) (a := a) (xs := zs.map V.int) (fun i σ H3 => H3 = H ∧ (zs.take i).all paceB = true ∧ ∃ x, σ = [some (.ref a), some (.int m), x]) ⟨rfl, by rw [List.take_zero]; rfl, _, rfl⟩ (fun i σ H3 _ ⟨e, _⟩ => by rw [e]; exact ha) ?_ ?_⟩
        · rintro i v σ H3 hi ⟨rfl, hall, x, rfl⟩
          rw [List.getElem?_map] at hi
          obtain ⟨z, hq, rfl⟩ : ∃ z, zs[i]? = some z ∧ V.int z = v := Option.map_eq_some_iff.mp hi
          refine ⟨_, rfl, z, rfl, fun hz => ?_, fun hz cls d H' s' rf => ?_⟩
          · refine ⟨rfl, ?_, _, rfl⟩
            rw [List.take_add_one, List.all_append, hall, hq]
            show (true && ([z].all paceB)) = true
            rw [List.all_cons, hz]
            rfl
          · refine k2 "bad pace" ?_ cls d H' s' rf
            unfold pcW
            rw [if_neg (fun c => c ⟨h1, h2⟩), if_neg]
            intro c
            have := List.all_eq_true.mp c z (List.mem_of_getElem? hq)
            rw [hz] at this
            exact absurd this (by decide)
        · rintro σ H3 ⟨rfl, hall, x, rfl⟩
          refine k1 ?_
          rw [List.length_map, List.take_length] at hall
          unfold pcW
          rw [if_neg (fun c => c ⟨h1, h2⟩), if_pos hall]
      · rw [decide_eq_false h2]
        exact iteT (bad fun c => h2 c.2)
    · rw [decide_eq_false h1]
      exact iteF ⟨_, rfl, iteT (bad fun c => h1 c.1)⟩

theorem elt_rng {prog : Program} {w : World} {scope : Scope} {x lo hi : Str} {j1 j2 : Nat} {p1 p2 p3 p4 : Pos} (hk : scope.kind = .function) (hl : scope.names.lookup x = some .local) (hd : (x == ("__debug__" : Str)) = false := by decide) :
    GxR.EltP prog w scope x (.Compare (.Constant (.str lo) j1 p1) [.LtE, .LtE] [.Name x p2, .Constant (.str hi) j2 p3] p4) (fun c => !decide ([c] < lo.cps.toList) && !decide (hi.cps.toList < [c])) := by
  intro cenv A' E' c t s₂ m₂ hs hn hm
  refine Compare_chain ?_ (by with_unfolding_all rfl)
  refine Calls.Constant_str (chain_link ?_)
  refine wpAny_Name (wpAny_loadName_local (by rw [hs]; exact hk) (show cenv.scope.names.lookup x = some .local by rw [hs]; exact hl) (hn.keeps fun _ _ e => e) hm ?_) hd
  refine PySem.P.le_str (wpAny_truthy_bool ?_)
  show (if (!decide ([c] < lo.cps.toList)) = true then _ else _)
  cases h1 : (!decide ([c] < lo.cps.toList)) with
  | false =>
    refine ite_ff ⟨?_, GxR.keeps_tok _ _⟩
    show Value.bool false = Value.bool (!decide ([c] < lo.cps.toList) && !decide (hi.cps.toList < [c]))
    rw [h1, Bool.false_and]
  | true =>
    refine ite_tt (chain_last (Calls.Constant_str (PySem.P.le_str ⟨?_, GxR.keeps_tok _ _⟩)))
    show Value.bool (!decide (hi.cps.toList < [c])) = Value.bool (!decide ([c] < lo.cps.toList) && !decide (hi.cps.toList < [c]))
    rw [h1, Bool.true_and]
def letB (c : Nat) : Bool := !decide ([c] < (("a" : Str)).cps.toList) && !decide ((("z" : Str)).cps.toList < [c])
def nameB (n : Str) : Bool := (decide (1 ≤ n.length) && decide (n.length ≤ 8)) && n.cps.toList.all letB
def sp_p_is_name (K : PySem.W.Frag) (T : Tb) : Sp := fun vs H Q _ => ∃ n : Str, vs = [.str n] ∧ n.length ≤ sizeLine ∧ Ok T H ∧ ∀ H', Sm T H H' → Q (.bl (nameB n)) H'
theorem ok_p_is_name {f : Addr} {fd : FuncData} {u_MOST_LETTERS : Value} {c PT : Addr} (F : FunC K "is_name" "is_name" s_p_is_name f fd c) (hnT : (T.map (·.1)).Nodup) (hPT : (PT, (none : Option Str)) ∈ T) (TB : GxR.TabB base mg c PT) (B : Bn mg) (C_MOST_LETTERS : RelV (.int 8) u_MOST_LETTERS ∧ mg "MOST_LETTERS" = some u_MOST_LETTERS) : FnOk P w K mg base CX0 1 f fd ["text"] (sp_p_is_name K T) := by
  obtain ⟨⟨tM, rfl⟩, gM⟩ := id C_MOST_LETTERS
  refine F.ok sc_p_is_name (fun vs H Q E h => ?_) (fun A outer s H vs Q E hr h => ?_)
  · obtain ⟨n, rfl, _⟩ := h
    rfl
  · obtain ⟨n, rfl, hsz, hok, q⟩ := h
    refine ⟨_, (pss_one (ps_ret (pe_and (pe_chain op_le op_le pe_int (pe_callB call_len_str (by rfl) B.len_ (by decide +kernel) (pa_cons (pv 0) pa_nil)) (pe_glob (by rfl) C_MOST_LETTERS.2 C_MOST_LETTERS.1)) (pe_one (GxR.pe_allS hr (by rfl) B.all_ (by decide +kernel) TB rfl (gens_by (by decide +kernel)) (pv 0) (elt_rng rfl rfl) (fun _ => rfl)))))), ?_⟩
    refine ⟨_, rfl, n, rfl, hsz, _, _, rfl, rfl, _, rfl, ?_⟩
    have q0 := fun H' (s : Sm T H H') => q H' s
    unfold nameB at q0
    by_cases h1 : 1 ≤ n.length
    · rw [decide_eq_true (show (1 : Int) ≤ (n.length : Int) by omega)]
      refine iteT ⟨_, _, rfl, rfl, _, rfl, ?_⟩
      by_cases h2 : n.length ≤ 8
      · rw [decide_eq_true (show (n.length : Int) ≤ 8 by omega)]
        refine iteT ⟨_, rfl, n, rfl, hok _ hPT, fun H2 ht => ?_⟩
        have r := q0 H2 (sm_tabbed hnT hPT (hok _ hPT) ht)
        rw [decide_eq_true h1, decide_eq_true h2, Bool.true_and, Bool.true_and] at r
        exact r
      · rw [decide_eq_false (show ¬ (n.length : Int) ≤ 8 by omega)]
        have r := q0 H Sm.refl
        rw [decide_eq_false h2, Bool.and_false, Bool.false_and] at r
        exact iteF r
    · rw [decide_eq_false (show ¬ (1 : Int) ≤ (n.length : Int) by omega)]
      have r := q0 H Sm.refl
      rw [decide_eq_false h1, Bool.false_and, Bool.false_and] at r
      exact iteF ⟨_, rfl, iteF r⟩
def sp_p_check_name (K : PySem.W.Frag) (T : Tb) (CP : Addr) : Sp := fun vs H Q E => ∃ n : Str, vs = [.str n] ∧ n.length ≤ sizeLine ∧ Ok T H ∧ (nameB n = true → ∀ H', Sm T H H' → Q .non H') ∧ (nameB n = false → ∀ cls d H', Sm T H H' → Rf K CP "bad name" cls d H' → E cls d H')
theorem ok_p_check_name {f : Addr} {fd : FuncData} (F : Fun K "check_name" "check_name" s_p_check_name f fd) {CP : Addr} (R_BadName : Err P w K mg base CP "BadName" "bad name") (F_p_is_name : Fn P w K mg base 1 "is_name" ["text"] (sp_p_is_name K T)) : FnOk P w K mg base (L2.CX P w) 4 f fd ["name"] (sp_p_check_name K T CP) := by
  refine F.okX sc_p_check_name (fun vs H Q E h => ?_) (fun cdv A outer s H vs Q E hr h => ?_)
  · obtain ⟨n, rfl, _⟩ := h
    rfl
  · obtain ⟨n, rfl, hsz, hok, k1, k2⟩ := h
    refine ⟨_, (pss_one (ps_if (pt_not (pt_val (pe_fn F_p_is_name (hr.mono (by decide)) (pa_cons (pv 0) pa_nil)))) (pss_one (ps_raise rfl (takes_of rfl rfl rfl rfl) (pmk_err R_BadName (hr.mono (by decide)) (by rfl)))) pss_nil)), ?_⟩
    refine ⟨_, rfl, n, rfl, hsz, hok, fun H1 s1 => ⟨_, rfl, ?_⟩⟩
    cases hz : nameB n with
    | true => exact iteF (k1 hz H1 s1)
    | false => exact iteT fun cls dd hn rf => k2 hz cls (some dd) _ (s1.trans (same_upd hn)) rf

def takeS (s : Ch) : Ch := { s with marks := s.marks ++ [[]], loads := (s.marks.length : Int) :: s.loads, spots := 0 :: s.spots }
def sp_p_Chain_take_pail (K : PySem.W.Frag) (T : Tb) (CC : Addr) : Sp := fun vs H Q _ => ∃ (c : Addr) (A : Ad) (s : Ch), vs = [.ref c] ∧ ChAt K CC H c A s ∧ (s.marks.length < 5000 ∧ s.loads.length < 100 ∧ s.spots.length < 100) ∧
  ∀ H', Sx T (ownC c A) H H' → ChAt K CC H' c A (takeS s) → Q (.int s.marks.length) H'
theorem ok_p_Chain_take_pail {f : Addr} {fd : FuncData} {a_NOUGHT : Addr} (F : Fun K "take_pail" "Chain.take_pail" s_p_Chain_take_pail f fd) (B : Bn mg) (g_NOUGHT : mg "NOUGHT" = some (.ref a_NOUGHT)) (s_NOUGHT : ∀ H, SqT K H a_NOUGHT [.int 0, .int 1]) {CC : Addr} (TC : Kl K CC) : FnOk P w K mg base CX0 1 f fd ["self"] (sp_p_Chain_take_pail K T CC) := by
  refine F.ok sc_p_Chain_take_pail (fun vs H Q E h => ?_) (fun cdv A outer s H vs Q E hr h => ?_)
  · obtain ⟨c, A, s, rfl, _⟩ := h
    rfl
  · obtain ⟨c, A, s, rfl, h, ⟨l1, l2, l3⟩, q⟩ := h
    refine ⟨_, (pss_cons (ps_set (i := 1) sc_p_Chain_take_pail.nd rfl (.inl rfl) (pe_callB call_len_seq (by rfl) B.len_ (by decide +kernel) (pa_cons (pe_fc TC.cl (TC.no "marks" (by decide +kernel)) (pv 0)) pa_nil)))
      (pss_cons (ps_expr (pe_bm PySem.F.plainAttrs_list PySem.F.slot_list_append PySem.F.type_list_append mt_append (pe_fc TC.cl (TC.no "marks" (by decide +kernel)) (pv 0)) (pa_cons (pe_tup pa_nil) pa_nil)))
      (pss_cons (ps_expr (pe_bm PySem.F.plainAttrs_list PySem.F.slot_list_insert PySem.F.type_list_insert mt_insert (pe_fc TC.cl (TC.no "loads" (by decide +kernel)) (pv 0)) (pa_cons pe_int (pa_cons (pv 1) pa_nil))))
      (pss_cons (ps_expr (pe_bm PySem.F.plainAttrs_list PySem.F.slot_list_insert PySem.F.type_list_insert mt_insert (pe_fc TC.cl (TC.no "spots" (by decide +kernel)) (pv 0)) (pa_cons pe_int (pa_cons (pe_glob (v := .ref a_NOUGHT) (by rfl) g_NOUGHT rfl) pa_nil))))
      (pss_one (ps_ret (pv 1))))))), ?_⟩
    obtain ⟨ms, m1, m2⟩ := h.mr
    have lm : ms.length = s.marks.length := by rw [dpa_len m2, List.length_map]
    refine ⟨_, rfl, c, _, _, _, rfl, h.ins, fl_mk, A.mr, ms, rfl, .inl (SqL.of m1), ?_⟩
    refine ⟨_, rfl, c, _, _, _, rfl, h.ins, fl_mk, .inl ⟨rfl, _, SqL.of m1⟩, by show 0 ≤ sizeLine; decide, fun t nt => ?_⟩
    have u1 := same_upd (T := T) (o := .tup []) nt
    have h1 := h.sm u1
    refine ⟨A.mr, ms, _, rfl, rfl, u1.k m1, szl (by omega), ?_⟩
    have d2 : DpAll K (upd H t (.tup [])) (ms ++ [.ref t]) ((s.marks ++ [[]]).map mkD) := by
      rw [List.map_append]
      exact dpa_app (dpa_same u1 _ _ m2) (.cons (.tup (SqT.of upd_same) .nil) .nil)
    have h2 := h1.set_mr d2
    have x2 : Sx T (ownC c A) H _ := u1.sx.step (sx_upd (o := .lst (ms ++ [.ref t])) (u1.k m1) rfl (by simp [ownC]))
    refine ⟨_, rfl, c, _, _, _, rfl, h2.ins, fl_ld, .inl ⟨rfl, _, SqL.of h2.ld⟩, _, rfl, A.ld, _, 0, _, rfl, rfl, h2.ld, by rw [List.length_map]; exact szl (by show s.loads.length < _; omega), by decide, by decide, ?_⟩
    have h3 := h2.set_ld ((s.marks.length : Int) :: s.loads)
    have x3 := x2.step (sx_upd (o := .lst (((s.marks.length : Int) :: s.loads).map V.int)) h2.ld rfl (by simp [ownC]))
    obtain ⟨ps, p1, p2⟩ := h3.sp
    have lp := p2.len
    rw [lm]
    refine ⟨_, rfl, c, _, _, _, rfl, h3.ins, fl_sp, .inl ⟨rfl, _, SqL.of p1⟩, A.sp, _, 0, _, rfl, rfl, p1, szl (by have : s.spots.length < 100 := l3; have e : ps.length = s.spots.length := lp; omega), by decide, by decide, ?_⟩
    have d4 : AmL K (upd (upd (upd H t (.tup [])) A.mr (.lst (ms ++ [.ref t]))) A.ld (.lst (((s.marks.length : Int) :: s.loads).map V.int))) (.ref a_NOUGHT :: ps) (0 :: s.spots) := .cons (amD_dp (by rw [am_zero]; exact s_NOUGHT _)) p2
    have h4 := h3.set_sp d4
    have x4 := x3.step (sx_upd (o := .lst (.ref a_NOUGHT :: ps)) p1 rfl (by simp [ownC]))
    exact ⟨_, rfl, q _ x4 h4⟩

def enterW (s : Ch) (n : Str) (p : Int) : Option Str := if nameB n = true then (if n ∈ s.row then some "taken" else if paceB p = true then (if s.row.length < 8 then none else some "full") else some "bad pace") else some "bad name"
def enterS (s : Ch) (n : Str) (p : Int) : Ch := takeS { s with row := n :: s.row, tempos := putL s.tempos n p, ledgers := if (getL s.ledgers n).isSome = true then s.ledgers else putL s.ledgers n (0, 0, 0) }
theorem led0 {K : PySem.W.Frag} {H : Hp} {t a : Addr} (h : SqT K H t [.ref a, .ref a, .ref a]) (ha : SqT K H a (tv ((0, 1) : Am))) : Dp K H (.ref t) (ledD (0, 0, 0)) := by
  have d : Dp K H (.ref a) (amD (am 0)) := amD_dp (by rw [am_zero]; exact ha)
  exact .tup h (.cons d (.cons d (.cons d .nil)))
def sp_p_Chain_enter (K : PySem.W.Frag) (T : Tb) (CP CC : Addr) : Sp := fun vs H Q E => ∃ (c : Addr) (A : Ad) (s : Ch) (n : Str) (p : Int), vs = [.ref c, .str n, .int p] ∧ ChAt K CC H c A s ∧ n.length ≤ sizeLine ∧ Ok T H ∧ (s.marks.length < 5000 ∧ s.loads.length < 100 ∧ s.spots.length < 100 ∧ s.row.length < 100 ∧ s.tempos.length < 1000 ∧ s.ledgers.length < 1000) ∧
  (enterW s n p = none → ∀ H', Sx T (ownC c A) H H' → ChAt K CC H' c A (enterS s n p) → Q (.int s.marks.length) H') ∧ (∀ wd, enterW s n p = some wd → ∀ cls d H', Sm T H H' → Rf K CP wd cls d H' → E cls d H')
theorem ok_p_Chain_enter {f : Addr} {fd : FuncData} {u_MOST_HANDS : Value} {a_NOUGHT : Addr} (F : Fun K "enter" "Chain.enter" s_p_Chain_enter f fd) (B : Bn mg) (C_MOST_HANDS : RelV (.int 8) u_MOST_HANDS ∧ mg "MOST_HANDS" = some u_MOST_HANDS) (g_NOUGHT : mg "NOUGHT" = some (.ref a_NOUGHT)) (s_NOUGHT : ∀ H, SqT K H a_NOUGHT [.int 0, .int 1]) {CP : Addr} (R_Taken : Err P w K mg base CP "Taken" "taken") (R_Full : Err P w K mg base CP "Full" "full") {CC : Addr} (TC : Kl K CC) (F_p_check_pace : Fx P w K mg base 4 "check_pace" ["pace"] (sp_p_check_pace K T CP)) (F_p_check_name : Fx P w K mg base 4 "check_name" ["name"] (sp_p_check_name K T CP)) (M_take_pail : Mt P w K mg base CC 1 "take_pail" ["self"] (sp_p_Chain_take_pail K T CC)) : FnOk P w K mg base (L2.CX P w) 5 f fd ["self", "name", "pace"] (sp_p_Chain_enter K T CP CC) := by
  obtain ⟨⟨tM, rfl⟩, gM⟩ := id C_MOST_HANDS
  refine F.okX sc_p_Chain_enter (fun vs H Q E h => ?_) (fun cdv A outer s H vs Q E hr h => ?_)
  · obtain ⟨c, A, s, n, p, rfl, _⟩ := h
    rfl
  · obtain ⟨c, A, s, n, p, rfl, h, hsz, hok, ⟨l1, l2, l3, l4, l5, l6⟩, k1, k2⟩ := h
    refine ⟨_, (pss_cons (ps_expr (pe_fx F_p_check_name (hr.mono (by decide)) (takes_of rfl rfl rfl rfl) (pa_cons (pv 1) pa_nil)))
      (pss_cons (ps_if (pt_cmpR op_in_seq (pv 1) (pe_fc TC.cl (TC.no "row" (by decide +kernel)) (pv 0)) (by rfl)) (pss_one (ps_raise rfl (takes_of rfl rfl rfl rfl) (pmk_err R_Taken (hr.mono (by decide)) (by rfl)))) pss_nil)
      (pss_cons (ps_expr (pe_fx F_p_check_pace (hr.mono (by decide)) (takes_of rfl rfl rfl rfl) (pa_cons (pv 2) pa_nil)))
      (pss_cons (ps_if (pt_cmpR op_ge (pe_callB call_len_seq (by rfl) B.len_ (by decide +kernel) (pa_cons (pe_fc TC.cl (TC.no "row" (by decide +kernel)) (pv 0)) pa_nil)) (pe_glob (by rfl) C_MOST_HANDS.2 C_MOST_HANDS.1) (nomark _)) (pss_one (ps_raise rfl (takes_of rfl rfl rfl rfl) (pmk_err R_Full (hr.mono (by decide)) (by rfl)))) pss_nil)
      (pss_cons (ps_expr (pe_bm PySem.F.plainAttrs_list PySem.F.slot_list_insert PySem.F.type_list_insert mt_insert (pe_fc TC.cl (TC.no "row" (by decide +kernel)) (pv 0)) (pa_cons pe_int (pa_cons (pv 1) pa_nil))))
      (pss_cons (ps_dput (hu_of hr) (pe_fc TC.cl (TC.no "tempos" (by decide +kernel)) (pv 0)) (pv 1) (pv 2) rfl)
      (pss_cons (ps_if (pt_cmp (pc_dnotin (hu_of hr) (pv 1) (pe_fc TC.cl (TC.no "ledgers" (by decide +kernel)) (pv 0)))) (pss_one (ps_dput (hu_of hr) (pe_fc TC.cl (TC.no "ledgers" (by decide +kernel)) (pv 0)) (pv 1) (pe_tup (pa_cons (pe_glob (v := .ref a_NOUGHT) (by rfl) g_NOUGHT rfl) (pa_cons (pe_glob (v := .ref a_NOUGHT) (by rfl) g_NOUGHT rfl) (pa_cons (pe_glob (v := .ref a_NOUGHT) (by rfl) g_NOUGHT rfl) pa_nil)))) rfl)) pss_nil)
      (pss_one (ps_ret (pe_mt0 M_take_pail TC.cl (hr.mono (by decide)) (pv 0) )))))))))), ?_⟩
    refine ⟨_, rfl, n, rfl, hsz, hok, fun hn H1 s1 => ?_, fun hn cls d H' s' rf => k2 "bad name" (by unfold enterW; rw [hn]; rfl) cls d H' s' rf⟩
    have h1 := h.sm s1
    refine ⟨_, rfl, _, rfl, c, _, _, _, rfl, h1.ins, fl_rw, A.rw, _, rfl, .inl (SqL.of h1.rw), rfl, flat_strs _, _, rfl, ?_⟩
    show if (inV (.str n) (s.row.map V.str)) = true then _ else _
    rw [inV_strs]
    refine ite2 (fun e => ?_) (fun e => ?_)
    · have hm : n ∈ s.row := of_decide_eq_true e
      exact fun cls dd hn' rf => k2 "taken" (by unfold enterW; rw [if_pos hn, if_pos hm]) cls (some dd) _ (s1.trans (same_upd hn')) rf
    · have hm : n ∉ s.row := fun z => e (decide_eq_true z)
      refine ⟨_, rfl, p, rfl, fun hp => ?_, fun hp cls d H' s' rf => k2 "bad pace" (by unfold enterW; rw [if_pos hn, if_neg hm, hp]; rfl) cls d H' (s1.trans s') rf⟩
      refine ⟨_, rfl, c, _, _, _, rfl, h1.ins, fl_rw, A.rw, _, rfl, .inl (SqL.of h1.rw), _, _, rfl, rfl, _, rfl, ?_⟩
      rw [List.length_map]
      refine ite2 (fun e => ?_) (fun e => ?_)
      · have hl : ¬ s.row.length < 8 := by have := of_decide_eq_true e; omega
        exact fun cls dd hn' rf => k2 "full" (by unfold enterW; rw [if_pos hn, if_neg hm, if_pos hp, if_neg hl]) cls (some dd) _ (s1.trans (same_upd hn')) rf
      · have hl : s.row.length < 8 := by
          have e' : ¬ ((s.row.length : Int) ≥ 8) := fun z => e (decide_eq_true z)
          omega
        have k1 := k1 (by unfold enterW; rw [if_pos hn, if_neg hm, if_pos hp, if_pos hl])
        refine ⟨_, rfl, c, _, _, _, rfl, h1.ins, fl_rw, .inl ⟨rfl, _, SqL.of h1.rw⟩, _, rfl, A.rw, _, 0, _, rfl, rfl, h1.rw, by rw [List.length_map]; exact szl (by omega), by decide, by decide, ?_⟩
        have h2 := h1.set_rw (n :: s.row)
        have x2 : Sx T (ownC c A) H _ := s1.sx.step (sx_upd (o := .lst ((n :: s.row).map V.str)) h1.rw rfl (by simp [ownC]))
        refine ⟨_, rfl, _, rfl, c, _, _, _, rfl, h2.ins, fl_tm, _, rfl, A.tm, _, rfl, DPut.k (k := Sum.inr n) h2.tm (by unfold tmV; rw [List.length_map]; exact szl (by show s.tempos.length < _; omega)), ?_⟩
        rw [put_tm]
        have h3 := h2.set_tm (putL s.tempos n p)
        have x3 := x2.step (sx_upd (o := .dK (tmV (putL s.tempos n p))) h2.tm rfl (by simp [ownC]))
        dsimp only
        refine seq_if (fun σ' H4 => Sx T (ownC c A) H H4 ∧ ∃ x1 x2, σ' = [some (.ref c), x1, x2] ∧ ChAt K CC H4 c A { s with row := n :: s.row, tempos := putL s.tempos n p, ledgers := if (getL s.ledgers n).isSome = true then s.ledgers else putL s.ledgers n (0, 0, 0) }) (fun σ' H4 pp => ?_) (fun k => ?_)
        · obtain ⟨x4, y1, y2, rfl, h4⟩ := pp
          refine ⟨_, rfl, c, _, _, rfl, h4.ins, fl_no (by decide +kernel), c, A, _, rfl, h4, ⟨l1, l2, l3⟩, fun H5 x5 h5 => k1 H5 (x4.step x5) h5⟩
        · obtain ⟨kv, g1, g2⟩ := h3.lg
          refine ⟨_, rfl, _, rfl, c, _, _, _, rfl, h3.ins, fl_lg, A.lg, _, rfl, DGet.k (k := Sum.inr n) g1, _, rfl, ?_⟩
          rcases led_val g2 n with ⟨e1, e2⟩ | ⟨x, v, e1, e2, e3⟩
          · have e1 : getL s.ledgers n = none := e1
            rw [e2]
            refine iteT ⟨by show 3 ≤ sizeLine; decide, fun t nt => ?_⟩
            have u := same_upd (T := T) (o := .tup [.ref a_NOUGHT, .ref a_NOUGHT, .ref a_NOUGHT]) nt
            have h4 := h3.sm u
            have g3 := u.k g1
            refine ⟨_, rfl, c, _, _, _, rfl, h4.ins, fl_lg, _, rfl, A.lg, _, rfl, DPut.k (k := Sum.inr n) g3 (by rw [led_len g2]; exact szl (by show s.ledgers.length < _; omega)), ?_⟩
            have g4 : LedL K (upd (upd (upd H1 A.rw (.lst ((n :: s.row).map V.str))) A.tm (.dK (tmV (putL s.tempos n p)))) t (.tup [.ref a_NOUGHT, .ref a_NOUGHT, .ref a_NOUGHT])) (putK kv (Sum.inr n) (.ref t)) (putL s.ledgers n (0, 0, 0)) := led_put (u.sx (S := []) |>.led g2) (led0 (SqT.of upd_same) (s_NOUGHT _))
            have h5 := h4.set_lg g4
            have x5 := (x3.sm' u).step (sx_upd (o := .dK (putK kv (Sum.inr n) (.ref t))) g3 rfl (by simp [ownC]))
            refine k _ _ ⟨x5, _, _, rfl, ?_⟩
            rw [e1]
            exact h5
          · have e1 : getL s.ledgers n = some x := e1
            rw [e2]
            refine iteF (k _ _ ⟨x3, _, _, rfl, ?_⟩)
            rw [e1]
            exact h3

def sp_p_Chain_hands (K : PySem.W.Frag) (T : Tb) (CC : Addr) : Sp := fun vs H Q _ => ∃ (c : Addr) (A : Ad) (s : Ch), vs = [.ref c] ∧ ChAt K CC H c A s ∧ ∀ p H', Sm T H H' → H p = none → H' p = some (.lst (s.row.map V.str)) → Q (.ref p) H'
theorem ok_p_Chain_hands {f : Addr} {fd : FuncData} (F : Fun K "hands" "Chain.hands" s_p_Chain_hands f fd) (B : Bn mg) {CC : Addr} (TC : Kl K CC) : FnOk P w K mg base CX0 1 f fd ["self"] (sp_p_Chain_hands K T CC) := by
  refine F.ok sc_p_Chain_hands (fun vs H Q E h => ?_) (fun cdv A outer s H vs Q E hr h => ?_)
  · obtain ⟨c, A, s, rfl, _⟩ := h
    rfl
  · obtain ⟨c, A, s, rfl, h, q⟩ := h
    refine ⟨_, (pss_one (ps_ret (pe_callTy call_list_of (by rfl) B.list_ (by decide +kernel) (pa_cons (pe_fc TC.cl (TC.no "row" (by decide +kernel)) (pv 0)) pa_nil)))), ?_⟩
    exact ⟨_, rfl, c, _, _, _, rfl, h.ins, fl_rw, A.rw, _, rfl, .inl (SqL.of h.rw), fun p np => q p _ (same_upd np) np upd_same⟩
def sp_p_Chain_emptied (K : PySem.W.Frag) (T : Tb) (CC : Addr) : Sp := fun vs H Q _ => ∃ (c : Addr) (A : Ad) (s : Ch), vs = [.ref c] ∧ ChAt K CC H c A s ∧ ∀ p H', Sm T H H' → H p = none → H' p = some (.lst (s.poured.map V.int)) → Q (.ref p) H'
theorem ok_p_Chain_emptied {f : Addr} {fd : FuncData} (F : Fun K "emptied" "Chain.emptied" s_p_Chain_emptied f fd) (B : Bn mg) {CC : Addr} (TC : Kl K CC) : FnOk P w K mg base CX0 1 f fd ["self"] (sp_p_Chain_emptied K T CC) := by
  refine F.ok sc_p_Chain_emptied (fun vs H Q E h => ?_) (fun cdv A outer s H vs Q E hr h => ?_)
  · obtain ⟨c, A, s, rfl, _⟩ := h
    rfl
  · obtain ⟨c, A, s, rfl, h, q⟩ := h
    refine ⟨_, (pss_one (ps_ret (pe_callTy call_list_of (by rfl) B.list_ (by decide +kernel) (pa_cons (pe_fc TC.cl (TC.no "poured" (by decide +kernel)) (pv 0)) pa_nil)))), ?_⟩
    exact ⟨_, rfl, c, _, _, _, rfl, h.ins, fl_pr, A.pr, _, rfl, .inl (SqL.of h.pr), fun p np => q p _ (same_upd np) np upd_same⟩
def sp_p_Chain_pails (K : PySem.W.Frag) (T : Tb) (CC : Addr) : Sp := fun vs H Q _ => ∃ (c : Addr) (A : Ad) (s : Ch), vs = [.ref c] ∧ ChAt K CC H c A s ∧ Q (.int s.marks.length) H
theorem ok_p_Chain_pails {f : Addr} {fd : FuncData} (F : Fun K "pails" "Chain.pails" s_p_Chain_pails f fd) (B : Bn mg) {CC : Addr} (TC : Kl K CC) : FnOk P w K mg base CX0 1 f fd ["self"] (sp_p_Chain_pails K T CC) := by
  refine F.ok sc_p_Chain_pails (fun vs H Q E h => ?_) (fun cdv A outer s H vs Q E hr h => ?_)
  · obtain ⟨c, A, s, rfl, _⟩ := h
    rfl
  · obtain ⟨c, A, s, rfl, h, q⟩ := h
    refine ⟨_, (pss_one (ps_ret (pe_callB call_len_seq (by rfl) B.len_ (by decide +kernel) (pa_cons (pe_fc TC.cl (TC.no "marks" (by decide +kernel)) (pv 0)) pa_nil)))), ?_⟩
    obtain ⟨ms, m1, m2⟩ := h.mr
    have e : ms.length = s.marks.length := by rw [dpa_len m2, List.length_map]
    refine ⟨_, rfl, c, _, _, _, rfl, h.ins, fl_mk, A.mr, ms, rfl, .inl (SqL.of m1), ?_⟩
    rw [e]
    exact q
theorem strs_ix {l : List Str} {n : Str} (h : n ∈ l) : (l.map V.str)[l.idxOf n]? = some (.str n) ∧ ∀ (m : Nat) (z : V), m < l.idxOf n → (l.map V.str)[m]? = some z → eqV z (.str n) = false := by
  have hl := List.idxOf_lt_length_of_mem h
  refine ⟨?_, fun m z hm hz => ?_⟩
  · rw [List.getElem?_map, List.getElem?_eq_getElem hl, List.getElem_idxOf]
    rfl
  · rw [List.getElem?_map, List.getElem?_eq_getElem (by omega)] at hz
    cases hz
    have := List.not_of_lt_findIdx (p := (· == n)) (xs := l) (i := m) hm
    show (l[m] == n) = false
    simpa using this
def sp_p_Chain_number_of (K : PySem.W.Frag) (T : Tb) (CP CC : Addr) : Sp := fun vs H Q E => ∃ (c : Addr) (A : Ad) (s : Ch) (n : Str), vs = [.ref c, .str n] ∧ ChAt K CC H c A s ∧ (n ∈ s.row → Q (.int (s.row.idxOf n : Nat)) H) ∧ (n ∉ s.row → ∀ cls d H', Sm T H H' → Rf K CP "no hand" cls d H' → E cls d H')
theorem ok_p_Chain_number_of {f : Addr} {fd : FuncData} (F : Fun K "number_of" "Chain.number_of" s_p_Chain_number_of f fd) {CP : Addr} (R_NoHand : Err P w K mg base CP "NoHand" "no hand") {CC : Addr} (TC : Kl K CC) : FnOk P w K mg base (L2.CX P w) 4 f fd ["self", "name"] (sp_p_Chain_number_of K T CP CC) := by
  refine F.okX sc_p_Chain_number_of (fun vs H Q E h => ?_) (fun cdv A outer s H vs Q E hr h => ?_)
  · obtain ⟨c, A, s, n, rfl, _⟩ := h
    rfl
  · obtain ⟨c, A, s, n, rfl, h, k1, k2⟩ := h
    refine ⟨_, (pss_cons (ps_if (pt_cmpR op_notIn_seq (pv 1) (pe_fc TC.cl (TC.no "row" (by decide +kernel)) (pv 0)) (by rfl)) (pss_one (ps_raise rfl (takes_of rfl rfl rfl rfl) (pmk_err R_NoHand (hr.mono (by decide)) (by rfl)))) pss_nil)
      (pss_one (ps_ret (pe_bm PySem.F.plainAttrs_list PySem.F.slot_list_index PySem.F.type_list_index mt_index (pe_fc TC.cl (TC.no "row" (by decide +kernel)) (pv 0)) (pa_cons (pv 1) pa_nil))))), ?_⟩
    refine ⟨_, rfl, _, rfl, c, _, _, _, rfl, h.ins, fl_rw, A.rw, _, rfl, .inl (SqL.of h.rw), rfl, flat_strs _, _, rfl, ?_⟩
    show if (!inV (.str n) (s.row.map V.str)) = true then _ else _
    rw [inV_strs]
    by_cases hm : n ∈ s.row
    · rw [decide_eq_true hm]
      have e := strs_ix hm
      refine iteF ⟨_, rfl, c, _, _, _, rfl, h.ins, fl_rw, .inl ⟨rfl, _, SqL.of h.rw⟩, _, rfl, A.rw, _, _, s.row.idxOf n, .str n, rfl, rfl, SqL.of h.rw, rfl, flat_strs _, e.1, ?_, e.2, k1 hm⟩
      show (n == n) = true
      simp
    · rw [decide_eq_false hm]
      exact iteT fun cls dd hn' rf => k2 hm cls (some dd) _ (same_upd hn') rf
def sp_p_Chain_place (K : PySem.W.Frag) (T : Tb) (CP CC : Addr) : Sp := fun vs H Q E => ∃ (c : Addr) (A : Ad) (s : Ch) (n : Str), vs = [.ref c, .str n] ∧ ChAt K CC H c A s ∧ s.spots.length = s.row.length ∧ (n ∈ s.row → ∀ q, SqT K H q (tv (am (s.spots.getD (s.row.idxOf n) 0))) → Q (.ref q) H) ∧ (n ∉ s.row → ∀ cls d H', Sm T H H' → Rf K CP "no hand" cls d H' → E cls d H')
theorem ok_p_Chain_place {f : Addr} {fd : FuncData} (F : Fun K "place" "Chain.place" s_p_Chain_place f fd) {CP : Addr} {CC : Addr} (TC : Kl K CC) (M_number_of : Mx P w K mg base CC 4 "number_of" ["self", "name"] (sp_p_Chain_number_of K T CP CC)) : FnOk P w K mg base (L2.CX P w) 5 f fd ["self", "name"] (sp_p_Chain_place K T CP CC) := by
  refine F.okX sc_p_Chain_place (fun vs H Q E h => ?_) (fun cdv A outer s H vs Q E hr h => ?_)
  · obtain ⟨c, A, s, n, rfl, _⟩ := h
    rfl
  · obtain ⟨c, A, s, n, rfl, h, hl, k1, k2⟩ := h
    refine ⟨_, (pss_one (ps_ret (pe_ix ix_list (pe_fc TC.cl (TC.no "spots" (by decide +kernel)) (pv 0)) (pe_mx M_number_of TC.cl (hr.mono (by decide)) (takes_of rfl rfl rfl rfl) (pv 0) (pa_cons (pv 1) pa_nil)) (fun _ _ => rfl)))), ?_⟩
    obtain ⟨ps, p1, p2⟩ := h.sp
    refine ⟨_, rfl, c, _, _, _, rfl, h.ins, fl_sp, _, rfl, c, _, _, rfl, h.ins, fl_no (by decide +kernel), _, rfl, c, A, s, n, rfl, h, fun hm => ?_, k2⟩
    have hi : s.row.idxOf n < s.spots.length := by rw [hl]; exact List.idxOf_lt_length_of_mem hm
    obtain ⟨b, g, q⟩ := p2.at hi
    exact ⟨A.sp, ps, _, .ref b, rfl, rfl, SqL.of p1, at_of (j := s.row.idxOf n) rfl g, k1 hm b q⟩
def sp_p_Chain_ledger (K : PySem.W.Frag) (T : Tb) (CP CC : Addr) : Sp := fun vs H Q E => ∃ (c : Addr) (A : Ad) (s : Ch) (n : Str), vs = [.ref c, .str n] ∧ ChAt K CC H c A s ∧ (∀ x, getL s.ledgers n = some x → ∀ v, Dp K H v (ledD x) → Q v H) ∧ (getL s.ledgers n = none → ∀ cls d H', Sm T H H' → Rf K CP "no hand" cls d H' → E cls d H')
theorem ok_p_Chain_ledger {f : Addr} {fd : FuncData} (F : Fun K "ledger" "Chain.ledger" s_p_Chain_ledger f fd) {CP : Addr} (R_NoHand : Err P w K mg base CP "NoHand" "no hand") {CC : Addr} (TC : Kl K CC) : FnOk P w K mg base (L2.CX P w) 4 f fd ["self", "name"] (sp_p_Chain_ledger K T CP CC) := by
  refine F.okX sc_p_Chain_ledger (fun vs H Q E h => ?_) (fun cdv A outer s H vs Q E hr h => ?_)
  · obtain ⟨c, A, s, n, rfl, _⟩ := h
    rfl
  · obtain ⟨c, A, s, n, rfl, h, k1, k2⟩ := h
    refine ⟨_, (pss_cons (ps_if (pt_cmp (pc_dnotin (hu_of hr) (pv 1) (pe_fc TC.cl (TC.no "ledgers" (by decide +kernel)) (pv 0)))) (pss_one (ps_raise rfl (takes_of rfl rfl rfl rfl) (pmk_err R_NoHand (hr.mono (by decide)) (by rfl)))) pss_nil)
      (pss_one (ps_ret (pe_dget (hu_of hr) (pe_fc TC.cl (TC.no "ledgers" (by decide +kernel)) (pv 0)) (pv 1) (fun _ _ => rfl))))), ?_⟩
    obtain ⟨kv, g1, g2⟩ := h.lg
    refine ⟨_, rfl, _, rfl, c, _, _, _, rfl, h.ins, fl_lg, A.lg, _, rfl, DGet.k (k := Sum.inr n) g1, _, rfl, ?_⟩
    rcases led_val g2 n with ⟨e1, e2⟩ | ⟨x, v, e1, e2, e3⟩
    · rw [e2]
      exact iteT fun cls dd hn' rf => k2 e1 cls (some dd) _ (same_upd hn') rf
    · rw [e2]
      refine iteF ⟨_, rfl, c, _, _, _, rfl, h.ins, fl_lg, _, rfl, A.lg, _, rfl, ?_, k1 x e1 v e3⟩
      rw [← e2]
      exact DGet.k (k := Sum.inr n) g1
/-- the paces of the row -/
def pcs (s : Ch) : List Int := s.row.map fun n => (getL s.tempos n).getD 1
def sp_p_Chain_paces (K : PySem.W.Frag) (T : Tb) (CC : Addr) : Sp := fun vs H Q _ => ∃ (c : Addr) (A : Ad) (s : Ch), vs = [.ref c] ∧ ChAt K CC H c A s ∧ s.row.length ≤ 1000 ∧ (∀ n ∈ s.row, (getL s.tempos n).isSome = true) ∧ ∀ p H', Sm T H H' → H p = none → H' p = some (.lst ((pcs s).map V.int)) → Q (.ref p) H'
theorem ok_p_Chain_paces {f : Addr} {fd : FuncData} (F : Fun K "paces" "Chain.paces" s_p_Chain_paces f fd) {CC : Addr} (TC : Kl K CC) : FnOk P w K mg base CX0 1 f fd ["self"] (sp_p_Chain_paces K T CC) := by
  refine F.ok sc_p_Chain_paces (fun vs H Q E h => ?_) (fun cdv A outer s H vs Q E hr h => ?_)
  · obtain ⟨c, A, s, rfl, _⟩ := h
    rfl
  · obtain ⟨c, A, s, rfl, h, hl, hs, q⟩ := h
    refine ⟨_, (pss_one (ps_ret (pe_lc (own := [("name", 1)]) (g := (gName 1)) (tt := tYes) (by rfl) sc_p_Chain_paces.nd (pi_list (pe_fc TC.cl (TC.no "row" (by decide +kernel)) (pv 0))) (blkOk_by (own := [("name", 1)]) (N := ["self", "name"]) (sc := (defScope s_p_Chain_paces)) (by decide +kernel)) (fun _ _ _ _ _ => (pg_name (i := 1) sc_p_Chain_paces.nd rfl (.inl rfl))) (fun _ _ _ _ _ => pts_nil) (fun _ _ _ _ _ => (pe_dget (hu_of hr) (pe_fc TC.cl (TC.no "tempos" (by decide +kernel)) (pv 0)) (pv 1) (fun _ _ => rfl)))))), ?_⟩
    refine ⟨_, rfl, c, _, _, _, rfl, h.ins, fl_rw, A.rw, rfl, ⟨_, SqL.of h.rw⟩, fun D hD => lc_list (K := K) (a := A.rw) (xs := s.row.map V.str) (Qd := _) (fun i H' => Sm T H H' ∧ H' D = some (.lst (((pcs s).take i).map V.int))) ⟨same_upd hD, upd_same⟩ (fun i H' _ ⟨sm, _⟩ => SqL.of (sm.k h.rw)) ?_ ?_⟩
    · rintro i v H' hi ⟨sm, eD⟩
      rw [List.getElem?_map] at hi
      obtain ⟨n, hq, rfl⟩ : ∃ n, s.row[i]? = some n ∧ V.str n = v := Option.map_eq_some_iff.mp hi
      have hil := (List.getElem?_eq_some_iff.mp hq).1
      have h' := h.sm sm
      obtain ⟨p, hp⟩ := Option.isSome_iff_exists.mp (hs n (List.mem_of_getElem? hq))
      have ev : valV (tmV s.tempos) (Sum.inr n) = some (.int p) := by rw [val_tm, hp]; rfl
      refine ⟨rfl, tyes_i ?_⟩
      refine ⟨_, rfl, c, _, _, _, rfl, h'.ins, fl_tm, _, rfl, A.tm, .int p, rfl, by rw [← ev]; exact DGet.k (k := Sum.inr n) h'.tm, ?_⟩
      refine ⟨_, eD, by rw [List.length_map, List.length_take]; exact szl (by omega), same_mut sm hD eD, ?_⟩
      have e2 : (pcs s)[i]? = some p := by
        unfold pcs
        rw [List.getElem?_map, hq, Option.map_some, hp]
        rfl
      rw [upd_same, List.take_add_one, e2, List.map_append]
      rfl
    · rintro H' ⟨sm, eD⟩
      rw [List.length_map, List.take_of_length_le (by unfold pcs; rw [List.length_map]; exact Nat.le_refl _)] at eD
      exact q D H' sm hD eD

def sp_p_Chain_hour (K : PySem.W.Frag) (T : Tb) (CC : Addr) : Sp := fun vs H Q _ => ∃ (c : Addr) (A : Ad) (s : Ch), vs = [.ref c] ∧ ChAt K CC H c A s ∧ ∀ q, SqT K H q (tv (am s.now)) → Q (.ref q) H
theorem ok_p_Chain_hour {f : Addr} {fd : FuncData} (F : Fun K "hour" "Chain.hour" s_p_Chain_hour f fd) {CC : Addr} (TC : Kl K CC) : FnOk P w K mg base CX0 1 f fd ["self"] (sp_p_Chain_hour K T CC) := by
  refine F.ok sc_p_Chain_hour (fun vs H Q E h => ?_) (fun cdv A outer s H vs Q E hr h => ?_)
  · obtain ⟨c, A, s, rfl, _⟩ := h
    rfl
  · obtain ⟨c, A, s, rfl, h, q⟩ := h
    refine ⟨_, (pss_one (ps_ret (pe_fc TC.cl (TC.no "now" (by decide +kernel)) (pv 0)))), ?_⟩
    exact ⟨_, rfl, c, _, _, _, rfl, h.ins, fl_nw, q _ h.nw⟩

def sp_p_speeds (K : PySem.W.Frag) (T : Tb) : Sp := fun vs H Q _ => ∃ a b us ns ps, vs = [.ref a, .ref b] ∧ SqL K H a (ns.map V.int) ∧ SqL K H b us ∧ DpAll K H us ((ps.map am).map amD) ∧ ns.length = ps.length ∧ ns.length ≤ 1000 ∧
  ∀ p H', Sm T H H' → H p = none → H' p = some (.lst ((spd ns ps).map V.int)) → Q (.ref p) H'
theorem atI_head {xs : List Int} {s : Int} {r : List Int} (h : xs = s :: r) : atI (xs.reverse.map V.int) (-1) = some (.int s) := by
  rw [h, List.reverse_cons, List.map_append]
  exact atI_last _ _
theorem ok_p_speeds {f : Addr} {fd : FuncData} (F : Fun K "speeds" "speeds" s_p_speeds f fd) (B : Bn mg) : FnOk P w K mg base CX0 1 f fd ["paces", "places"] (sp_p_speeds K T) := by
  refine F.ok sc_p_speeds (fun vs H Q E h => ?_) (fun cdv A outer s H vs Q E hr h => ?_)
  · obtain ⟨a, b, us, ns, ps, rfl, _⟩ := h
    rfl
  · obtain ⟨a, b, us, ns, ps, rfl, ha, hb, hd, hl, hl2, q⟩ := h
    refine ⟨_, (pss_cons (ps_set (i := 2) sc_p_speeds.nd rfl (.inl rfl) (pe_lst pa_nil))
      (pss_cons (ps_for PassesOwn.never rfl (pi_revR (by rfl) B.reversed_ (prg_1 (by rfl) B.range_ (pe_callB call_len_seq (by rfl) B.len_ (by decide +kernel) (pa_cons (pv 0) pa_nil)))) (pg_name (i := 3) sc_p_speeds.nd rfl (.inl rfl))
      (pss_cons (ps_set (i := 4) sc_p_speeds.nd rfl (.inl rfl) (pe_ix ix_list (pv 0) (pv 3) (fun _ _ => rfl)))
      (pss_cons (ps_if (PW.pt (pw_and (pt_truth (pv 2) (by intro _; rfl)) (pw_and1 (pt_cmpR (op_eqD hr.units) (pe_ix ix_list (pv 1) (pv 3) (fun _ _ => rfl)) (pe_ix ix_list (pv 1) (pe_op op_add (pv 3) pe_int) (fun _ _ => rfl)) (nomark _))))) (pss_one (ps_set (i := 4) sc_p_speeds.nd rfl (.inl rfl) (pe_callB (call_min2 rfl) (by rfl) B.min_ (by decide +kernel) (pa_cons (pv 4) (pa_cons (pe_ix ix_list (pv 2) (pe_un un_neg pe_int) (fun _ _ => rfl)) pa_nil))))) pss_nil)
      (pss_one (ps_expr (pe_bm PySem.F.plainAttrs_list PySem.F.slot_list_append PySem.F.type_list_append mt_append (pv 2) (pa_cons (pv 4) pa_nil)))))))
      (pss_cons (ps_expr (pe_bm0 PySem.F.plainAttrs_list PySem.F.slot_list_reverse PySem.F.type_list_reverse mt_reverse (pv 2)))
      (pss_one (ps_ret (pv 2)))))), ?_⟩
    have lu : us.length = ps.length := by rw [dpa_len hd, List.length_map, List.length_map]
    refine ⟨Nat.zero_le _, fun o no => ?_⟩
    have u0 := same_upd (T := T) (o := .lst []) no
    refine ⟨_, rfl, a, _, rfl, .inl (u0.seq ha), _, rfl, by decide, by decide, by rw [List.length_map]; omega, by rw [List.length_map]; omega, for_rangeC (fun i σ H3 => Sm T H H3 ∧ ∃ x3 x4, σ = [some (.ref a), some (.ref b), some (.ref o), x3, x4] ∧ H3 o = some (.lst (((spd (ns.drop (ns.length - i)) (ps.drop (ns.length - i))).reverse).map V.int))) ?_ ?_ ?_⟩
    · refine ⟨u0, _, _, rfl, ?_⟩
      rw [upd_same, Nat.sub_zero, List.drop_length]
      rfl
    · rintro i σ H3 hi ⟨s3, x3, x4, rfl, eo⟩
      rw [List.length_map] at hi
      have hin : i < ns.length := by omega
      obtain ⟨j, hj⟩ : ∃ j, j = ns.length - 1 - i := ⟨_, rfl⟩
      have hjn : j < ns.length := by omega
      have e1 : ns.length - i = j + 1 := by omega
      have e2 : ns.length - (i + 1) = j := by omega
      rw [e1] at eo
      have st := spd_step hl hjn
      have ez : (0 + ((((ns.map V.int).length : Int) - 0).toNat : Int) - 1 + (i : Int) * -1) = (j : Int) := by rw [List.length_map]; omega
      rw [ez]
      generalize hG : spd (ns.drop (j + 1)) (ps.drop (j + 1)) = G at *
      have lG : G.length = ns.length - (j + 1) := by rw [← hG, spd_len _ _ (by rw [List.length_drop, List.length_drop, hl]), List.length_drop]
      refine ⟨_, rfl, _, rfl, a, _, _, .int ns[j], rfl, rfl, s3.seq ha, at_map (i := j) rfl (List.getElem?_eq_getElem hjn), ?_⟩
      dsimp only [gName]
      refine seq_if (fun σ' H' => Sm T H3 H' ∧ ∃ x3 sp, σ' = [some (.ref a), some (.ref b), some (.ref o), x3, some (.int sp)] ∧ spd (ns.drop j) (ps.drop j) = sp :: G) (fun σ' H' p => ?_) (fun k => ?_)
      · obtain ⟨s4, x3, sp, rfl, es⟩ := p
        have eo4 := s4.k eo
        refine ⟨_, rfl, .inl ⟨rfl, _, SqL.of eo4⟩, _, rfl, o, _, _, rfl, rfl, eo4, ?_, ?_⟩
        · rw [List.length_map, List.length_reverse, lG]
          exact szl (by omega)
        · refine ⟨same_mut (s3.trans s4) no eo4, _, _, rfl, ?_⟩
          rw [upd_same, e2, es, List.reverse_cons, List.map_append]
          rfl
      · refine ⟨_, rfl, _, .inl ⟨_, SqL.of eo, rfl⟩, ?_⟩
        by_cases hlast : j + 1 < ns.length
        · have hne : ((G.reverse.map V.int).isEmpty) = false := by
            cases hg : G with
            | nil => rw [hg] at lG; simp at lG; omega
            | cons s r => simp
          rw [hne]
          refine iteT ?_
          obtain ⟨b1, g1, q1⟩ := am_at hd (i := j) (by omega)
          obtain ⟨b2, g2, q2⟩ := am_at hd (i := j + 1) (by omega)
          refine ⟨_, rfl, _, rfl, b, _, _, .ref b1, rfl, rfl, s3.seq hb, at_of (j := j) rfl g1, ?_⟩
          refine ⟨_, rfl, _, rfl, _, _, rfl, rfl, b, _, _, .ref b2, rfl, rfl, s3.seq hb, at_of (j := j + 1) (by omega) g2, ?_⟩
          refine ⟨amD (am ps[j]), amD (am ps[j + 1]), amD_dp (same_tup s3 q1), amD_dp (same_tup s3 q2), shaped_am _, shaped_am _, _, rfl, ?_⟩
          rw [eqv_am]
          rw [dif_pos hlast] at st
          by_cases he : ps[j] = ps[j + 1]
          · rw [decide_eq_true (by rw [he])]
            refine iteT ?_
            rw [if_pos he] at st
            obtain ⟨s, r, hg⟩ : ∃ s r, G = s :: r := by
              cases hg : G with
              | nil => rw [hg] at lG; simp at lG; omega
              | cons s r => exact ⟨s, r, rfl⟩
            refine ⟨_, rfl, _, rfl, 1, rfl, o, _, _, _, rfl, rfl, SqL.of eo, atI_head hg, _, _, rfl, ?_⟩
            refine k _ _ ⟨Sm.refl, _, _, rfl, ?_⟩
            rw [st, hg, List.headD_cons]
            rfl
          · rw [decide_eq_false (fun z => he (am_inj z))]
            refine iteF ?_
            rw [if_neg he] at st
            exact k _ _ ⟨Sm.refl, _, _, rfl, st⟩
        · have hg : G = [] := by
            cases hg : G with
            | nil => rfl
            | cons s r => rw [hg] at lG; simp at lG; omega
          rw [hg]
          refine iteF (iteF ?_)
          rw [dif_neg hlast, hg] at st
          exact k _ _ ⟨Sm.refl, _, _, rfl, by rw [st, hg]⟩
    · rintro σ H3 ⟨s3, x3, x4, rfl, eo⟩
      rw [List.length_map] at eo
      rw [show ns.length - (((ns.length : Nat) : Int) - 0).toNat = 0 by omega, List.drop_zero, List.drop_zero] at eo
      refine ⟨_, rfl, .inl ⟨rfl, _, SqL.of eo⟩, o, _, rfl, rfl, eo, ?_⟩
      refine ⟨_, rfl, q o _ (same_mut s3 no eo) no ?_⟩
      rw [upd_same, ← List.map_reverse, List.reverse_reverse]

def sp_p_hours_at (K : PySem.W.Frag) (T : Tb) : Sp := fun vs H Q _ => ∃ (a : Addr) (x : Rat) (k : Int), vs = [.ref a, .int k] ∧ SqT K H a (tv (am x)) ∧ Bd 4000 (am x) ∧ (0 < k ∧ k < 2 ^ 60) ∧
  ∀ p H', Sm T H H' → H p = none → H' p = some (.tup (tv (am (x / (k : Rat))))) → Q (.ref p) H'
theorem ok_p_hours_at {f : Addr} {fd : FuncData} (F : Fun K "hours_at" "hours_at" s_p_hours_at f fd) (F_p_over : Fn P w K mg base 3 "over" ["one", "other"] (sp_p_over K T)) : FnOk P w K mg base CX0 4 f fd ["gap", "speed"] (sp_p_hours_at K T) := by
  refine F.ok sc_p_hours_at (fun vs H Q E h => ?_) (fun cdv A outer s H vs Q E hr h => ?_)
  · obtain ⟨a, x, k, rfl, _⟩ := h
    rfl
  · obtain ⟨a, x, k, rfl, ha, bx, hk, q⟩ := h
    refine ⟨_, (pss_one (ps_ret (pe_fn F_p_over (hr.mono (by decide)) (pa_cons (pv 0) (pa_cons (pe_tup (pa_cons (pv 1) (pa_cons pe_int pa_nil))) pa_nil))))), ?_⟩
    refine ⟨_, rfl, _, rfl, by show 2 ≤ sizeLine; decide, fun t nt => ?_⟩
    have u := same_upd (T := T) (o := HO.tup [V.int k, V.int 1]) nt
    refine ⟨a, t, am x, (k, 1), rfl, same_tup u ha, SqT.of upd_same, ⟨bx, bd_int (small (by omega))⟩, ⟨am_pos _, by show (0 : Int) < 1; decide, by show k ≠ 0; omega⟩, fun p H' s np e => ?_⟩
    rw [← am_int k, over_am _ _ (cn (by omega))] at e
    exact q p H' (u.trans s) (u.free _ np) e

def sp_p_meeting (K : PySem.W.Frag) (T : Tb) : Sp := fun vs H Q _ => ∃ (L D : Int) (a b : Addr) (us : List V) (ns : List Int) (ps : List Rat), vs = [.int L, .ref a, .ref b] ∧ SqL K H a (ns.map V.int) ∧ SqL K H b us ∧ DpAll K H us ((ps.map am).map amD) ∧ Wk D L ns ps ∧ (0 < D ∧ D.natAbs < 2 ^ 3900) ∧ (1 ≤ L ∧ L ≤ 1000) ∧
  (ns = [] → Q .non H) ∧ (ns ≠ [] → ∀ p H', Sm T H H' → SqT K H' p (tv (am (meetM L ns ps))) → Q (.ref p) H')
theorem ok_p_meeting {f : Addr} {fd : FuncData} (F : Fun K "meeting" "meeting" s_p_meeting f fd) (B : Bn mg) (F_p_minus : Fn P w K mg base 3 "minus" ["one", "other"] (sp_p_minus K T)) (F_p_lesser : Fn P w K mg base 2 "lesser" ["one", "other"] (sp_p_lesser K T)) (F_p_speeds : Fn P w K mg base 1 "speeds" ["paces", "places"] (sp_p_speeds K T)) (F_p_hours_at : Fn P w K mg base 4 "hours_at" ["gap", "speed"] (sp_p_hours_at K T)) : FnOk P w K mg base CX0 5 f fd ["labour", "paces", "places"] (sp_p_meeting K T) := by
  refine F.ok sc_p_meeting (fun vs H Q E h => ?_) (fun cdv A outer s H vs Q E hr h => ?_)
  · obtain ⟨L, D, a, b, us, ns, ps, rfl, _⟩ := h
    rfl
  · obtain ⟨L, D, a, b, us, ns, ps, rfl, ha, hb, hd, wk, hD, hL, q0, q1⟩ := h
    refine ⟨_, (pss_cons (ps_if (pt_not (pt_truth (pv 1) (by intro _; rfl))) (pss_one (ps_ret pe_non)) pss_nil)
      (pss_cons (ps_set (i := 3) sc_p_meeting.nd rfl (.inl rfl) (pe_fn F_p_hours_at (hr.mono (by decide)) (pa_cons (pe_fn F_p_minus (hr.mono (by decide)) (pa_cons (pe_tup (pa_cons (pv 0) (pa_cons pe_int pa_nil))) (pa_cons (pe_ix ix_list (pv 2) (pe_un un_neg pe_int) (fun _ _ => rfl)) pa_nil))) (pa_cons (pe_ix ix_list (pv 1) (pe_un un_neg pe_int) (fun _ _ => rfl)) pa_nil))))
      (pss_cons (ps_set (i := 4) sc_p_meeting.nd rfl (.inl rfl) (pe_fn F_p_speeds (hr.mono (by decide)) (pa_cons (pv 1) (pa_cons (pv 2) pa_nil))))
      (pss_cons (ps_for PassesOwn.never rfl (pi_range1 (by rfl) B.range_ (pa_cons (pe_op op_sub (pe_callB call_len_seq (by rfl) B.len_ (by decide +kernel) (pa_cons (pv 1) pa_nil)) pe_int) pa_nil)) (pg_name (i := 5) sc_p_meeting.nd rfl (.inl rfl))
      (pss_cons (ps_set (i := 6) sc_p_meeting.nd rfl (.inl rfl) (pe_op op_sub (pe_ix ix_list (pv 4) (pv 5) (fun _ _ => rfl)) (pe_ix ix_list (pv 4) (pe_op op_add (pv 5) pe_int) (fun _ _ => rfl))))
      (pss_one (ps_if (pt_cmpR op_gt (pv 6) pe_int (nomark _)) (pss_one (ps_set (i := 3) sc_p_meeting.nd rfl (.inl rfl) (pe_fn F_p_lesser (hr.mono (by decide)) (pa_cons (pv 3) (pa_cons (pe_fn F_p_hours_at (hr.mono (by decide)) (pa_cons (pe_fn F_p_minus (hr.mono (by decide)) (pa_cons (pe_ix ix_list (pv 2) (pe_op op_add (pv 5) pe_int) (fun _ _ => rfl)) (pa_cons (pe_ix ix_list (pv 2) (pv 5) (fun _ _ => rfl)) pa_nil))) (pa_cons (pv 6) pa_nil))) pa_nil))))) pss_nil))))
      (pss_one (ps_ret (pv 3))))))), ?_⟩
    have hle := wk.eq
    have h8 := wk.n8
    have lu : us.length = ps.length := by rw [dpa_len hd, List.length_map, List.length_map]
    refine ⟨_, rfl, _, .inl ⟨_, ha, rfl⟩, ?_⟩
    by_cases hn : ns = []
    · subst hn
      exact iteT (q0 rfl)
    · have hn0 : 0 < ns.length := List.length_pos_iff.mpr hn
      have q1 := q1 hn
      rw [show ((ns.map V.int).isEmpty) = false by cases ns with | nil => exact absurd rfl hn | cons => rfl]
      refine iteF ?_
      obtain ⟨pb, gb, qb⟩ := am_at hd (i := ns.length - 1) (by omega)
      have hL1 : (1 : Rat) ≤ (L : Rat) := Rat.intCast_le_intCast.mpr hL.1
      have hL2 : (L : Rat) ≤ 1000 := Rat.intCast_le_intCast.mpr hL.2
      have c0 := wk.nn _ (List.getElem_mem (show ns.length - 1 < ps.length by omega))
      have c1 := wk.fire _ (List.getElem_mem (show ns.length - 1 < ps.length by omega))
      have c2 := wk.fr _ (List.getElem_mem (show ns.length - 1 < ps.length by omega))
      have p0 := wk.pace _ (List.getElem_mem (show ns.length - 1 < ns.length by omega))
      have fL : Fr D (L : Rat) := Fr.int (by omega) L
      refine ⟨_, rfl, by show 2 ≤ sizeLine; decide, fun t nt => ?_⟩
      have u := same_upd (T := T) (o := HO.tup [V.int L, V.int 1]) nt
      refine ⟨_, rfl, 1, rfl, b, _, _, .ref pb, rfl, rfl, u.seq hb, at_neg1 (by omega) (by rw [lu, ← hle]; exact gb), ?_⟩
      refine ⟨t, pb, (L, 1), am ps[ns.length - 1], rfl, SqT.of upd_same, same_tup u qb, ⟨bd_int (small (by omega)), bd_fr1 hD.1 hD.2 c2 (by grind) (by grind)⟩, ⟨by show (0 : Int) < 1; decide, am_pos _⟩, fun p1 H1 s1 n1 e1 => ?_⟩
      rw [← am_int L, minus_am] at e1
      have s01 := u.trans s1
      refine ⟨_, rfl, 1, rfl, a, _, _, .int ns[ns.length - 1], rfl, rfl, s01.seq ha, at_neg1 (by rw [List.length_map]; exact hn0) (by rw [List.length_map, List.getElem?_map, List.getElem?_eq_getElem (by omega)]; rfl), ?_⟩
      refine ⟨p1, (L : Rat) - ps[ns.length - 1], ns[ns.length - 1], rfl, SqT.of e1, bd_fr1 hD.1 hD.2 (fL.sub c2) (by grind) (by grind), ⟨by omega, by omega⟩, fun p2 H2 s2 n2 e2 => ?_⟩
      have s02 := s01.trans s2
      have eL : ((L : Rat) - ps[ns.length - 1]) / ((ns[ns.length - 1] : Int) : Rat) = lastH L ns ps := by
        unfold lastH
        rw [getD_lt (show ns.length - 1 < ps.length by omega), getD_lt (show ns.length - 1 < ns.length by omega)]
      rw [eL] at e2
      refine ⟨_, rfl, _, rfl, a, b, us, ns, ps, rfl, s02.seq ha, s02.seq hb, dpa_same s02 _ _ hd, hle, by omega, fun go H3 s3 n3 e3 => ?_⟩
      have s03 := s02.trans s3
      refine ⟨_, rfl, a, _, rfl, .inl (s03.seq ha), _, _, rfl, rfl, ((ns.length - 1 : Nat) : Int), ?_, by omega, by omega, for_range (lo := 0) (n := ns.length - 1) (fun i σ H4 => Sm T H3 H4 ∧ ∃ ph x5 x6, σ = [some (.int L), some (.ref a), some (.ref b), some (.ref ph), some (.ref go), x5, x6] ∧ SqT K H4 ph (tv (am (meetF (spd ns ps) ps (lastH L ns ps) i)))) ⟨Sm.refl, p2, _, _, rfl, SqT.of (s3.k e2)⟩ ?_ ?_⟩
      · show [V.int (((ns.map V.int).length : Int) - 1)] = _
        rw [List.length_map, show ((ns.length : Int) - 1) = ((ns.length - 1 : Nat) : Int) by omega]
      · rintro i σ H4 hi ⟨s4, ph, x5, x6, rfl, hph⟩
        have hi' : i + 1 < ns.length := by omega
        have s04 := s03.trans s4
        have e4 := s4.k e3
        have lsp := spd_len ns ps hle
        have g0 : (spd ns ps)[i]? = some ((spd ns ps).getD i 0) := by rw [List.getD_eq_getElem?_getD, List.getElem?_eq_getElem (show i < (spd ns ps).length by omega)]; rfl
        have g1 : (spd ns ps)[i + 1]? = some ((spd ns ps).getD (i + 1) 0) := by rw [List.getD_eq_getElem?_getD, List.getElem?_eq_getElem (show i + 1 < (spd ns ps).length by omega)]; rfl
        obtain ⟨b1, gb1, qb1⟩ := am_at hd (i := i) (by omega)
        obtain ⟨b2, gb2, qb2⟩ := am_at hd (i := i + 1) (by omega)
        have d0 := spd_bd wk (show i < ns.length by omega)
        have d1 := spd_bd wk hi'
        refine ⟨_, rfl, _, rfl, go, _, _, _, rfl, rfl, SqL.of e4, at_map (i := i) (by omega) g0, _, rfl, _, rfl, _, _, rfl, rfl, go, _, _, _, rfl, rfl, SqL.of e4, at_map (i := i + 1) (by omega) g1, _, _, rfl, rfl, ?_⟩
        refine ⟨_, rfl, _, _, rfl, rfl, _, rfl, ite2 (fun e => ?_) (fun e => ?_)⟩
        · have hg : (spd ns ps).getD (i + 1) 0 < (spd ns ps).getD i 0 := by
            have := of_decide_eq_true e
            omega
          have ap := apart wk hi' hg
          have m1 := meetF_ok wk (by omega) hn0 (i := i) (by omega)
          obtain ⟨k1, k11, k12, kf, kn, kL⟩ := m1
          have r1 := wk.fr _ (List.getElem_mem (show i < ps.length by omega))
          have r2 := wk.fr _ (List.getElem_mem (show i + 1 < ps.length by omega))
          have t1 := wk.nn _ (List.getElem_mem (show i < ps.length by omega))
          have t2 := wk.nn _ (List.getElem_mem (show i + 1 < ps.length by omega))
          have v1 := wk.fire _ (List.getElem_mem (show i < ps.length by omega))
          have v2 := wk.fire _ (List.getElem_mem (show i + 1 < ps.length by omega))
          rw [getD_lt (show i < ps.length by omega), getD_lt (show i + 1 < ps.length by omega)] at ap
          refine ⟨_, rfl, _, rfl, _, rfl, _, _, rfl, rfl, b, _, _, .ref b2, rfl, rfl, s04.seq hb, at_of (j := i + 1) (by omega) gb2, _, rfl, _, rfl, b, _, _, .ref b1, rfl, rfl, s04.seq hb, at_of (j := i) (by omega) gb1, ?_⟩
          refine ⟨b2, b1, am ps[i + 1], am ps[i], rfl, same_tup s04 qb2, same_tup s04 qb1, ⟨bd_fr1 hD.1 hD.2 r2 (by grind) (by grind), bd_fr1 hD.1 hD.2 r1 (by grind) (by grind)⟩, ⟨am_pos _, am_pos _⟩, fun p5 H5 s5 n5 e5 => ?_⟩
          rw [minus_am] at e5
          refine ⟨_, rfl, p5, ps[i + 1] - ps[i], (spd ns ps).getD i 0 - (spd ns ps).getD (i + 1) 0, rfl, SqT.of e5, bd_fr1 hD.1 hD.2 (r2.sub r1) (by grind) (by grind), ⟨by omega, by omega⟩, fun p6 H6 s6 n6 e6 => ?_⟩
          have s46 := s5.trans s6
          have m2 := meetF_ok wk (by omega) hn0 (i := i + 1) (by omega)
          have fc := (r2.sub r1).divI (k := (spd ns ps).getD i 0 - (spd ns ps).getD (i + 1) 0) (by omega) (by omega)
          have cpos := lt_div (k := (spd ns ps).getD i 0 - (spd ns ps).getD (i + 1) 0) (by omega) ap
          have cle := div_le1 (a := ps[i + 1] - ps[i]) (k := (spd ns ps).getD i 0 - (spd ns ps).getD (i + 1) 0) (by omega) (sub_nn ap)
          refine ⟨ph, p6, _, _, rfl, same_tup s46 hph, SqT.of e6, ⟨bd_fr hD.1 hD.2 k11 k12 kf (neg_le kn (by decide)) (Rat.le_trans kL hL2), bd_fr hD.1 hD.2 (by omega) (by omega) fc (neg_le (Rat.le_of_lt cpos) (by decide)) (Rat.le_trans cle (sub_le' (Rat.le_trans v2 hL2) t1))⟩, ?_⟩
          refine ⟨s4.trans s46, _, _, _, rfl, ?_⟩
          simp only [meetF]
          rw [if_pos hg, getD_lt (show i < ps.length by omega), getD_lt (show i + 1 < ps.length by omega)]
          exact lesser_sq (same_tup s46 hph) (SqT.of e6)
        · have hg : ¬ (spd ns ps).getD (i + 1) 0 < (spd ns ps).getD i 0 := fun z => e (decide_eq_true (by omega))
          refine ⟨s4, ph, _, _, rfl, ?_⟩
          simp only [meetF]
          rw [if_neg hg]
          exact hph
      · rintro σ H4 ⟨s4, ph, x5, x6, rfl, hph⟩
        exact ⟨_, rfl, q1 ph H4 (s03.trans s4) hph⟩

/-! ### walked on -/
def walkM (ns : List Int) (ps : List Rat) (t : Rat) : List Rat := (List.range ns.length).map fun j => ps.getD j 0 + t * (((spd ns ps).getD j 0 : Int) : Rat)
theorem walkM_len (ns : List Int) (ps : List Rat) (t : Rat) : (walkM ns ps t).length = ns.length := by
  unfold walkM
  rw [List.length_map, List.length_range]
theorem walkM_get {ns : List Int} {ps : List Rat} {t : Rat} {j : Nat} (h : j < ns.length) : (walkM ns ps t).getD j 0 = ps.getD j 0 + t * (((spd ns ps).getD j 0 : Int) : Rat) := by
  unfold walkM
  rw [List.getD_eq_getElem?_getD, List.getElem?_map, List.getElem?_range h]
  rfl
theorem ext_getD {α : Type} {d : α} {xs ys : List α} (hl : xs.length = ys.length) (h : ∀ j, j < xs.length → xs.getD j d = ys.getD j d) : xs = ys := by
  refine List.ext_getElem? fun j => ?_
  by_cases hj : j < xs.length
  · have := h j hj
    rw [getD_lt hj, getD_lt (show j < ys.length by omega)] at this
    rw [List.getElem?_eq_getElem hj, List.getElem?_eq_getElem (show j < ys.length by omega), this]
  · rw [List.getElem?_eq_none (by omega), List.getElem?_eq_none (by omega)]
theorem lt_le {a b c : Rat} (h : a < b) (g : b ≤ c) : a < c := by grind
theorem sep {pj pk t gj gk : Rat} (e : pj + t * gj = pk + t * gk) : t * (gj - gk) = pk - pj := by grind
theorem spd_walk {D L : Int} {ns : List Int} {ps : List Rat} (w : Wk D L ns ps) {t : Rat} (h0 : 0 ≤ t) (ht : t < meetM L ns ps) : spd ns (walkM ns ps t) = spd ns ps := by
  have lw := walkM_len ns ps t
  have l1 := spd_len ns ps w.eq
  have l2 := spd_len ns (walkM ns ps t) lw.symm
  have key : ∀ k j, j < ns.length → ns.length - j ≤ k → (spd ns (walkM ns ps t)).getD j 0 = (spd ns ps).getD j 0 := by
    intro k
    induction k with
    | zero => intro j h1 h2; omega
    | succ k ih =>
      intro j h1 h2
      rw [spd_rec lw.symm h1]
      by_cases h : j + 1 < ns.length
      · have g1 := ih (j + 1) h (by omega)
        rw [g1, walkM_get h1, walkM_get h]
        have hr := spd_rec w.eq h1
        by_cases e : ps.getD j 0 = ps.getD (j + 1) 0
        · rw [if_pos ⟨h, e⟩] at hr
          by_cases e2 : ps.getD j 0 + t * (((spd ns ps).getD j 0 : Int) : Rat) = ps.getD (j + 1) 0 + t * (((spd ns ps).getD (j + 1) 0 : Int) : Rat)
          · rw [if_pos ⟨h, e2⟩]
            exact hr.symm
          · rw [if_neg (fun z => e2 z.2)]
            have hne : (spd ns ps).getD j 0 ≠ (spd ns ps).getD (j + 1) 0 := fun z => e2 (by rw [e, z])
            rw [hr] at hne ⊢
            unfold mnI at hne ⊢
            split
            · rename_i c; rw [if_pos c] at hne; exact absurd rfl hne
            · rfl
        · rw [if_neg (fun z => e z.2)] at hr
          refine (if_neg (fun z => ?_)).trans hr.symm
          have e2 := z.2
          have le := ps_le w h
          have lt : ps.getD j 0 < ps.getD (j + 1) 0 := by grind
          by_cases hg : (spd ns ps).getD (j + 1) 0 < (spd ns ps).getD j 0
          · have c := (meetF_le (spd ns ps) ps (lastH L ns ps) (ns.length - 1)).2 j (by omega) hg
            have em : cand (spd ns ps) ps j * (((spd ns ps).getD j 0 - (spd ns ps).getD (j + 1) 0 : Int) : Rat) = ps.getD (j + 1) 0 - ps.getD j 0 := div_mul (by omega)
            have s := sep e2
            rw [← Rat.intCast_sub] at s
            have tc : t < cand (spd ns ps) ps j := lt_le ht c
            have := Rat.mul_lt_mul_of_pos_right tc (cp (show 0 < (spd ns ps).getD j 0 - (spd ns ps).getD (j + 1) 0 by omega))
            grind
          · have s := sep e2
            rw [← Rat.intCast_sub] at s
            have k0 : (((spd ns ps).getD j 0 - (spd ns ps).getD (j + 1) 0 : Int) : Rat) ≤ 0 := Rat.intCast_le_intCast.mpr (by omega)
            have := Rat.mul_le_mul_of_nonneg_left k0 h0
            grind
      · rw [if_neg (fun z => h z.1), spd_rec w.eq h1, if_neg (fun z => h z.1)]
  exact ext_getD (d := 0) (by omega) fun j hj => key _ j (by omega) (Nat.le_refl _)
theorem walk_walk {D L : Int} {ns : List Int} {ps : List Rat} (w : Wk D L ns ps) {t h : Rat} (h0 : 0 ≤ t) (h1 : t ≤ h) (hm : h ≤ meetM L ns ps) : walkM ns (walkM ns ps t) (h - t) = walkM ns ps h := by
  have lw := walkM_len ns ps t
  refine ext_getD (d := 0) (by rw [walkM_len, walkM_len]) fun j hj => ?_
  rw [walkM_len] at hj
  rw [walkM_get hj, walkM_get hj, walkM_get hj]
  by_cases c : t < meetM L ns ps
  · rw [spd_walk w h0 c]
    grind
  · have : h = t := by grind
    subst this
    grind

def sp_p_walked (K : PySem.W.Frag) (T : Tb) : Sp := fun vs H Q _ => ∃ (D : Int) (a b hp : Addr) (us : List V) (ns : List Int) (ps : List Rat) (t : Rat), vs = [.ref a, .ref b, .ref hp] ∧ SqL K H a (ns.map V.int) ∧ SqL K H b us ∧ AmL K H us ps ∧ SqT K H hp (tv (am t)) ∧ ns.length = ps.length ∧ ns.length ≤ 1000 ∧
  (0 < D ∧ D.natAbs < 2 ^ 3900) ∧ (∀ j, j < ns.length → 1 ≤ (spd ns ps).getD j 0 ∧ (spd ns ps).getD j 0 ≤ 12) ∧ (∀ p ∈ ps, Fr D p ∧ 0 ≤ p ∧ p ≤ 50000) ∧ (Fr D t ∧ 0 ≤ t ∧ t ≤ 50000) ∧
  ∀ p H' us', Sm T H H' → H p = none → H' p = some (.lst us') → AmL K H' us' (walkM ns ps t) → Q (.ref p) H'
theorem ok_p_walked {f : Addr} {fd : FuncData} (F : Fun K "walked" "walked" s_p_walked f fd) (B : Bn mg) (F_p_plus : Fn P w K mg base 3 "plus" ["one", "other"] (sp_p_plus K T)) (F_p_times : Fn P w K mg base 3 "times" ["one", "other"] (sp_p_times K T)) (F_p_speeds : Fn P w K mg base 1 "speeds" ["paces", "places"] (sp_p_speeds K T)) : FnOk P w K mg base CX0 4 f fd ["paces", "places", "hours"] (sp_p_walked K T) := by
  refine F.ok sc_p_walked (fun vs H Q E h => ?_) (fun cdv A outer s H vs Q E hr h => ?_)
  · obtain ⟨D, a, b, hp, us, ns, ps, t, rfl, _⟩ := h
    rfl
  · obtain ⟨D, a, b, hp, us, ns, ps, t, rfl, ha, hb, hu, ht, hl, hl2, hD, hg, hps, ⟨tf, t0, t1⟩, q⟩ := h
    refine ⟨_, (pss_cons (ps_set (i := 3) sc_p_walked.nd rfl (.inl rfl) (pe_fn F_p_speeds (hr.mono (by decide)) (pa_cons (pv 0) (pa_cons (pv 1) pa_nil))))
      (pss_one (ps_ret (pe_lc (own := [("place", 4), ("speed", 5)]) (g := (gTup K 2 (gCons (gName 4) (gCons (gName 5) gNil)))) (tt := tYes) (by rfl) sc_p_walked.nd (pi_zip (by rfl) B.zip_ (pa_cons (pv 1) (pa_cons (pv 3) pa_nil))) (blkOk_by (own := [("place", 4), ("speed", 5)]) (N := ["paces", "places", "hours", "going", "place", "speed"]) (sc := (defScope s_p_walked)) (by decide +kernel)) (fun _ _ _ _ _ => (pg_tup rfl (pgs_cons (pg_name (i := 4) sc_p_walked.nd rfl (.inl rfl)) (pgs_cons (pg_name (i := 5) sc_p_walked.nd rfl (.inl rfl)) pgs_nil)))) (fun _ _ _ _ _ => pts_nil) (fun _ _ _ _ _ => (pe_fn F_p_plus (hr.mono (by decide)) (pa_cons (pv 4) (pa_cons (pe_fn F_p_times (hr.mono (by decide)) (pa_cons (pe_tup (pa_cons (pv 5) (pa_cons pe_int pa_nil))) (pa_cons (pv 2) pa_nil))) pa_nil)))))))), ?_⟩
    have lu := hu.len
    have lsp := spd_len ns ps hl
    refine ⟨_, rfl, _, rfl, a, b, us, ns, ps, rfl, ha, hb, hu, hl, hl2, fun go H1 s1 n1 e1 => ?_⟩
    refine ⟨_, rfl, _, rfl, b, go, us, (spd ns ps).map V.int, rfl, s1.seq hb, SqL.of e1, fun D0 hD0 => lc_it (walk_zip (n := ns.length) (by rw [lu, List.length_map, lsp]; omega)) (Qd := _) (fun i H' => Sm T H1 H' ∧ ∃ vs, H' D0 = some (.lst vs) ∧ AmL K H' vs ((List.range i).map fun j => ps.getD j 0 + t * (((spd ns ps).getD j 0 : Int) : Rat))) ⟨same_upd hD0, [], upd_same, .nil⟩ (fun i H' _ ⟨sm, _⟩ => ⟨(s1.trans sm).seq hb, SqL.of (sm.k e1)⟩) ?_ ?_⟩
    · rintro i x H2 H3 hi ⟨sm, vs, eD, hv⟩ ⟨tp, x1, y1, rfl, ntp, rfl, f1, f2⟩
      obtain ⟨b1, g1, q1⟩ := hu.at (i := i) (by omega)
      have gj : (spd ns ps)[i]? = some ((spd ns ps).getD i 0) := by rw [List.getD_eq_getElem?_getD, List.getElem?_eq_getElem (show i < (spd ns ps).length by omega)]; rfl
      simp only [g1] at f1
      simp only [List.getElem?_map, gj, Option.map_some] at f2
      cases f1
      cases f2
      have ut := same_upd (T := T) (o := .tup [V.ref b1, V.int ((spd ns ps).getD i 0)]) ntp
      have gi := hg i hi
      have hp1 := hps _ (getD_mem (d := (0 : Rat)) (show i < ps.length by omega))
      have c0 : (1 : Rat) ≤ (((spd ns ps).getD i 0 : Int) : Rat) := Rat.intCast_le_intCast.mpr gi.1
      have c1 : (((spd ns ps).getD i 0 : Int) : Rat) ≤ 12 := Rat.intCast_le_intCast.mpr gi.2
      refine ⟨tp, _, rfl, SqT.of upd_same, rfl, _, _, rfl, _, _, rfl, rfl, rfl, tyes_i ?_⟩
      refine ⟨_, rfl, _, rfl, by show 2 ≤ sizeLine; decide, fun t2 nt2 => ?_⟩
      have u2 := same_upd (T := T) (o := .tup [V.int ((spd ns ps).getD i 0), V.int 1]) nt2
      have s13 := s1.trans (sm.trans (ut.trans u2))
      refine ⟨_, rfl, t2, hp, ((spd ns ps).getD i 0, 1), am t, rfl, SqT.of upd_same, same_tup s13 ht, ⟨bd_int (small (by omega)), bdL hD.1 hD.2 tf t0 (Rat.le_trans t1 (by decide))⟩, ⟨by show (0 : Int) < 1; decide, am_pos _⟩, fun p4 H4 s4 n4 e4 => ?_⟩
      rw [← am_int, times_am, Rat.mul_comm] at e4
      have mr := mul_rng t0 t1 c0 c1
      have fm : Fr D (t * (((spd ns ps).getD i 0 : Int) : Rat)) := by rw [Rat.mul_comm]; exact tf.mulI _
      refine ⟨b1, p4, am (ps.getD i 0), am (t * (((spd ns ps).getD i 0 : Int) : Rat)), rfl, same_tup (s13.trans s4) q1, SqT.of e4, ⟨bdL hD.1 hD.2 hp1.1 hp1.2.1 (Rat.le_trans hp1.2.2 (by decide)), bdL hD.1 hD.2 fm mr.1 (Rat.le_trans mr.2 (by decide +kernel))⟩, ⟨am_pos _, am_pos _⟩, fun p5 H5 s5 n5 e5 => ?_⟩
      rw [plus_am] at e5
      have sA := ut.trans (u2.trans (s4.trans s5))
      have eD5 := sA.k eD
      have lv : vs.length = i := by rw [hv.len, List.length_map, List.length_range]
      refine ⟨_, eD5, szl (by omega), same_mut (sm.trans sA) hD0 eD5, _, upd_same, ?_⟩
      rw [take_range]
      exact (hv.keep sA).push eD5 (SqT.of e5)
    · rintro H2 ⟨sm, vs, eD, hv⟩
      exact q D0 H2 vs (s1.trans sm) (s1.free _ hD0) eD hv

theorem getI {l : List Int} {j : Nat} (h : j < l.length) : l[j]? = some (l.getD j 0) := by
  rw [getD_lt h, List.getElem?_eq_getElem h]
theorem spd_le {ns : List Int} {xs : List Rat} (hl : ns.length = xs.length) {j : Nat} (hj : j < ns.length) : (spd ns xs).getD j 0 ≤ ns.getD j 0 := by
  rw [spd_rec hl hj]
  split
  · exact mnI_le_l _ _
  · exact Int.le_refl _

def ledAdd (x : Rat × Rat × Rat) (p v : Int) (h : Rat) : Rat × Rat × Rat := (x.1 + h, x.2.1 + ((v : Int) : Rat) * h, x.2.2 + ((p - v : Int) : Rat) * h)
/-- an amount over D that is not great -/
def Ok6 (D : Int) (r : Rat) : Prop := Fr D r ∧ 0 ≤ r ∧ r ≤ 900000
theorem ok6_bd {D : Int} {r : Rat} (hD : 0 < D ∧ D.natAbs < 2 ^ 3900) (h : Ok6 D r) : Bd 4000 (am r) := bdL hD.1 hD.2 h.1 h.2.1 (Rat.le_trans h.2.2 (by decide))
theorem led_parts {K : PySem.W.Frag} {H : Hp} {v : V} {x : Rat × Rat × Rat} (h : Dp K H v (ledD x)) : ∃ t a b c, v = .ref t ∧ SqT K H t [.ref a, .ref b, .ref c] ∧ SqT K H a (tv (am x.1)) ∧ SqT K H b (tv (am x.2.1)) ∧ SqT K H c (tv (am x.2.2)) := by
  unfold ledD at h
  cases h with
  | tup hs ha =>
    cases ha with
    | cons h1 h2 =>
      cases h2 with
      | cons h3 h4 =>
        cases h4 with
        | cons h5 h6 =>
          cases h6
          obtain ⟨a, rfl, ha⟩ := pd_at h1
          obtain ⟨b, rfl, hb⟩ := pd_at h3
          obtain ⟨c, rfl, hc⟩ := pd_at h5
          exact ⟨_, a, b, c, rfl, hs, ha, hb, hc⟩
def sp_p_ledger_on (K : PySem.W.Frag) (T : Tb) : Sp := fun vs H Q _ => ∃ (D : Int) (u : V) (x : Rat × Rat × Rat) (p v : Int) (hp : Addr) (h : Rat), vs = [u, .int p, .int v, .ref hp] ∧ Dp K H u (ledD x) ∧ SqT K H hp (tv (am h)) ∧ (0 < D ∧ D.natAbs < 2 ^ 3900) ∧ (Ok6 D x.1 ∧ Ok6 D x.2.1 ∧ Ok6 D x.2.2) ∧ (Fr D h ∧ 0 ≤ h ∧ h ≤ 50000) ∧ (1 ≤ v ∧ v ≤ p ∧ p ≤ 12) ∧
  ∀ t H', Sm T H H' → Dp K H' (.ref t) (ledD (ledAdd x p v h)) → Q (.ref t) H'
theorem ok_p_ledger_on {f : Addr} {fd : FuncData} (F : Fun K "ledger_on" "ledger_on" s_p_ledger_on f fd) (F_p_plus : Fn P w K mg base 3 "plus" ["one", "other"] (sp_p_plus K T)) (F_p_times : Fn P w K mg base 3 "times" ["one", "other"] (sp_p_times K T)) : FnOk P w K mg base CX0 4 f fd ["ledger", "pace", "speed", "hours"] (sp_p_ledger_on K T) := by
  refine F.ok sc_p_ledger_on (fun vs H Q E h => ?_) (fun cdv A outer s H vs Q E hr h => ?_)
  · obtain ⟨D, u, x, p, v, hp, h, rfl, _⟩ := h
    rfl
  · obtain ⟨D, u, x, p, v, hp, h, rfl, hu, hh, hD, ⟨o1, o2, o3⟩, ⟨hf, h0, h1⟩, ⟨v1, vp, p12⟩, q⟩ := h
    refine ⟨_, (pss_cons (ps_asg (pv 0) (pg_tup rfl (pgs_cons (pg_name (i := 4) sc_p_ledger_on.nd rfl (.inl rfl)) (pgs_cons (pg_name (i := 5) sc_p_ledger_on.nd rfl (.inl rfl)) (pgs_cons (pg_name (i := 6) sc_p_ledger_on.nd rfl (.inl rfl)) pgs_nil)))))
      (pss_cons (ps_set (i := 7) sc_p_ledger_on.nd rfl (.inl rfl) (pe_fn F_p_times (hr.mono (by decide)) (pa_cons (pe_tup (pa_cons (pv 2) (pa_cons pe_int pa_nil))) (pa_cons (pv 3) pa_nil))))
      (pss_cons (ps_set (i := 8) sc_p_ledger_on.nd rfl (.inl rfl) (pe_fn F_p_times (hr.mono (by decide)) (pa_cons (pe_tup (pa_cons (pe_op op_sub (pv 1) (pv 2)) (pa_cons pe_int pa_nil))) (pa_cons (pv 3) pa_nil))))
      (pss_one (ps_ret (pe_tup (pa_cons (pe_fn F_p_plus (hr.mono (by decide)) (pa_cons (pv 4) (pa_cons (pv 3) pa_nil))) (pa_cons (pe_fn F_p_plus (hr.mono (by decide)) (pa_cons (pv 5) (pa_cons (pv 7) pa_nil))) (pa_cons (pe_fn F_p_plus (hr.mono (by decide)) (pa_cons (pv 6) (pa_cons (pv 8) pa_nil))) pa_nil))))))))), ?_⟩
    obtain ⟨t, a, b, c, rfl, ht, ha, hb, hc⟩ := led_parts hu
    have bh : Bd 4000 (am h) := bdL hD.1 hD.2 hf h0 (Rat.le_trans h1 (by decide))
    have cv : (1 : Rat) ≤ ((v : Int) : Rat) ∧ ((v : Int) : Rat) ≤ 12 := ⟨Rat.intCast_le_intCast.mpr v1, (Rat.intCast_le_intCast.mpr (show v ≤ 12 by omega) : ((v : Int) : Rat) ≤ ((12 : Int) : Rat))⟩
    have cq : (0 : Rat) ≤ ((p - v : Int) : Rat) ∧ ((p - v : Int) : Rat) ≤ 12 := ⟨Rat.intCast_nonneg.mpr (by omega), (Rat.intCast_le_intCast.mpr (show p - v ≤ 12 by omega) : ((p - v : Int) : Rat) ≤ ((12 : Int) : Rat))⟩
    have m1 := mul_rng h0 h1 cv.1 cv.2
    have m2 := mul_rng0 h0 h1 cq.1 cq.2
    have f1 : Fr D (((v : Int) : Rat) * h) := hf.mulI _
    have f2 : Fr D (((p - v : Int) : Rat) * h) := hf.mulI _
    rw [Rat.mul_comm] at m1 m2
    refine ⟨_, rfl, t, _, rfl, ht, rfl, _, _, rfl, _, _, rfl, _, _, rfl, rfl, ?_⟩
    refine ⟨_, rfl, by show 2 ≤ sizeLine; decide, fun t1 nt1 => ?_⟩
    have u1 := same_upd (T := T) (o := .tup [.int v, .int 1]) nt1
    refine ⟨_, rfl, t1, hp, (v, 1), am h, rfl, SqT.of upd_same, same_tup u1 hh, ⟨bd_int (small (by omega)), bh⟩, ⟨by show (0 : Int) < 1; decide, am_pos _⟩, fun p2 H2 s2 n2 e2 => ?_⟩
    rw [← am_int, times_am] at e2
    refine ⟨_, rfl, _, rfl, _, _, rfl, rfl, by show 2 ≤ sizeLine; decide, fun t3 nt3 => ?_⟩
    have u3 := same_upd (T := T) (o := .tup [.int (p - v), .int 1]) nt3
    have s3 := u1.trans (s2.trans u3)
    refine ⟨_, rfl, t3, hp, (p - v, 1), am h, rfl, SqT.of upd_same, same_tup s3 hh, ⟨bd_int (small (by omega)), bh⟩, ⟨by show (0 : Int) < 1; decide, am_pos _⟩, fun p4 H4 s4 n4 e4 => ?_⟩
    rw [← am_int, times_am] at e4
    have s04 := s3.trans s4
    have e2' := (u3.trans s4).k e2
    refine ⟨_, rfl, _, rfl, a, hp, _, _, rfl, same_tup s04 ha, same_tup s04 hh, ⟨ok6_bd hD o1, bh⟩, ⟨am_pos _, am_pos _⟩, fun p5 H5 s5 n5 e5 => ?_⟩
    rw [plus_am] at e5
    refine ⟨_, rfl, _, rfl, b, p2, _, _, rfl, same_tup (s04.trans s5) hb, SqT.of (s5.k e2'), ⟨ok6_bd hD o2, bdL hD.1 hD.2 f1 m1.1 (Rat.le_trans m1.2 (by decide +kernel))⟩, ⟨am_pos _, am_pos _⟩, fun p6 H6 s6 n6 e6 => ?_⟩
    rw [plus_am] at e6
    refine ⟨_, rfl, _, rfl, c, p4, _, _, rfl, same_tup (s04.trans (s5.trans s6)) hc, SqT.of ((s5.trans s6).k e4), ⟨ok6_bd hD o3, bdL hD.1 hD.2 f2 m2.1 (Rat.le_trans m2.2 (by decide +kernel))⟩, ⟨am_pos _, am_pos _⟩, fun p7 H7 s7 n7 e7 => ?_⟩
    rw [plus_am] at e7
    refine ⟨by show 3 ≤ sizeLine; decide, fun t8 nt8 => ?_⟩
    have u8 := same_upd (T := T) (o := .tup [.ref p5, .ref p6, .ref p7]) nt8
    refine q t8 _ (s04.trans (s5.trans (s6.trans (s7.trans u8)))) (.tup (SqT.of upd_same) (.cons (amD_dp (SqT.of ((s6.trans (s7.trans u8)).k e5))) (.cons (amD_dp (SqT.of ((s7.trans u8).k e6))) (.cons (amD_dp (SqT.of (u8.k e7))) .nil))))
/-- a chain fit to be walked -/
structure WOk (D : Int) (s : Ch) : Prop where
  wk : Wk D s.fire (pcs s) s.spots
  hD : 0 < D ∧ D.natAbs < 2 ^ 3900
  f1 : 1 ≤ s.fire ∧ s.fire ≤ 1000
  nd : s.row.Nodup
  tp : ∀ n ∈ s.row, (getL s.tempos n).isSome = true
  lg : ∀ n ∈ s.row, ∃ x, getL s.ledgers n = some x ∧ Ok6 D x.1 ∧ Ok6 D x.2.1 ∧ Ok6 D x.2.2
  ll : s.ledgers.length ≤ 1000
  now : Ok6 D s.now
theorem pcs_len (s : Ch) : (pcs s).length = s.row.length := by unfold pcs; rw [List.length_map]
def sp_p_Chain_till_meeting (K : PySem.W.Frag) (T : Tb) (CC : Addr) : Sp := fun vs H Q _ => ∃ (D : Int) (c : Addr) (A : Ad) (s : Ch), vs = [.ref c] ∧ ChAt K CC H c A s ∧ WOk D s ∧ s.row ≠ [] ∧ ∀ p H', Sm T H H' → SqT K H' p (tv (am (meetM s.fire (pcs s) s.spots))) → Q (.ref p) H'
theorem ok_p_Chain_till_meeting {f : Addr} {fd : FuncData} (F : Fun K "till_meeting" "Chain.till_meeting" s_p_Chain_till_meeting f fd) {CC : Addr} (TC : Kl K CC) (M_paces : Mt P w K mg base CC 1 "paces" ["self"] (sp_p_Chain_paces K T CC)) (F_p_meeting : Fn P w K mg base 5 "meeting" ["labour", "paces", "places"] (sp_p_meeting K T)) : FnOk P w K mg base CX0 6 f fd ["self"] (sp_p_Chain_till_meeting K T CC) := by
  refine F.ok sc_p_Chain_till_meeting (fun vs H Q E h => ?_) (fun cdv A outer s H vs Q E hr h => ?_)
  · obtain ⟨D, c, A, s, rfl, _⟩ := h
    rfl
  · obtain ⟨D, c, A, s, rfl, h, w, hne, q⟩ := h
    refine ⟨_, (pss_one (ps_ret (pe_fn F_p_meeting (hr.mono (by decide)) (pa_cons (pe_fc TC.cl (TC.no "fire" (by decide +kernel)) (pv 0)) (pa_cons (pe_mt0 M_paces TC.cl (hr.mono (by decide)) (pv 0) ) (pa_cons (pe_fc TC.cl (TC.no "spots" (by decide +kernel)) (pv 0)) pa_nil)))))), ?_⟩
    have n8 := w.wk.n8
    rw [pcs_len] at n8
    refine ⟨_, rfl, c, _, _, _, rfl, h.ins, fl_fire, _, rfl, c, _, _, rfl, h.ins, fl_no (by decide +kernel), c, A, s, rfl, h, by omega, w.tp, fun p H1 s1 np ep => ?_⟩
    have h1 := h.sm s1
    obtain ⟨ps, p1, p2⟩ := h1.sp
    refine ⟨_, rfl, c, _, _, _, rfl, h1.ins, fl_sp, s.fire, D, p, A.sp, ps, pcs s, s.spots, rfl, SqL.of ep, SqL.of p1, p2, w.wk, w.hD, w.f1, fun e => ?_, fun _ p2 H2 s2 hp2 => q p2 H2 (s1.trans s2) hp2⟩
    have := congrArg List.length e
    rw [pcs_len] at this
    exact absurd (List.length_eq_zero_iff.mp this) hne
theorem nd_inj {l : List Str} (h : l.Nodup) {i j : Nat} (hi : i < l.length) (hj : j < l.length) (e : l[i] = l[j]) : i = j := nd_ix h (List.getElem?_eq_getElem hi) (by rw [List.getElem?_eq_getElem hj, e])
def ledN (s : Ch) (h : Rat) : Nat → List (Str × (Rat × Rat × Rat))
  | 0 => s.ledgers
  | i + 1 => putL (ledN s h i) (s.row.getD i "") (ledAdd ((getL s.ledgers (s.row.getD i "")).getD (0, 0, 0)) ((pcs s).getD i 0) ((spd (pcs s) s.spots).getD i 0) h)
theorem ledN_get {s : Ch} {h : Rat} (nd : s.row.Nodup) : ∀ i, i ≤ s.row.length → ∀ n, (∀ j, j < i → s.row.getD j "" ≠ n) → getL (ledN s h i) n = getL s.ledgers n
  | 0, _, n, _ => rfl
  | i + 1, hi, n, hn => by
    show getL (putL _ _ _) n = _
    rw [getL_put, if_neg (hn i (by omega))]
    exact ledN_get nd i (by omega) n fun j hj => hn j (by omega)
theorem ledN_at {s : Ch} {h : Rat} (nd : s.row.Nodup) {i : Nat} (hi : i ≤ s.row.length) : ∀ {j : Nat}, j < i → getL (ledN s h i) (s.row.getD j "") = some (ledAdd ((getL s.ledgers (s.row.getD j "")).getD (0, 0, 0)) ((pcs s).getD j 0) ((spd (pcs s) s.spots).getD j 0) h) := by
  induction i with
  | zero => intro j hj; omega
  | succ i ih =>
    intro j hj
    show getL (putL _ _ _) _ = _
    rw [getL_put]
    by_cases c : j = i
    · subst c
      rw [if_pos rfl]
    · rw [if_neg, ih (by omega) (by omega)]
      rw [getD_lt (show i < s.row.length by omega), getD_lt (show j < s.row.length by omega)]
      exact fun z => c (nd_inj nd (by omega) (by omega) z).symm
theorem ledN_len {s : Ch} {h : Rat} (hs : ∀ n ∈ s.row, ∃ x, getL s.ledgers n = some x) (nd : s.row.Nodup) : ∀ i, i ≤ s.row.length → (ledN s h i).length = s.ledgers.length
  | 0, _ => rfl
  | i + 1, hi => by
    have hm := getD_mem (d := ("" : Str)) (show i < s.row.length by omega)
    obtain ⟨x, hx⟩ := hs _ hm
    have e := ledN_get (h := h) nd i (by omega) (s.row.getD i "") (fun j hj => by
      rw [getD_lt (show i < s.row.length by omega), getD_lt (show j < s.row.length by omega)]
      exact fun z => absurd (nd_inj nd (by omega) (by omega) z) (by omega))
    show (putL _ _ _).length = _
    rw [putL_has (b := x) (by rw [e]; exact hx)]
    exact ledN_len hs nd i (by omega)
def walkS (s : Ch) (h : Rat) : Ch := { s with ledgers := ledN s h s.row.length, spots := walkM (pcs s) s.spots h, now := s.now + h }
def sp_p_Chain_walk (K : PySem.W.Frag) (T : Tb) (CC : Addr) : Sp := fun vs H Q _ => ∃ (D : Int) (c : Addr) (A : Ad) (s : Ch) (hp : Addr) (h : Rat), vs = [.ref c, .ref hp] ∧ ChAt K CC H c A s ∧ WOk D s ∧ SqT K H hp (tv (am h)) ∧ (Fr D h ∧ 0 ≤ h ∧ h ≤ 50000) ∧
  ∀ H' A', Sx T (ownC c A) H H' → (∀ x ∈ ownC c A', x ∈ ownC c A ∨ H x = none) → ChAt K CC H' c A' (walkS s h) → Q .non H'
theorem ok_p_Chain_walk {f : Addr} {fd : FuncData} (F : Fun K "walk" "Chain.walk" s_p_Chain_walk f fd) (B : Bn mg) {CC : Addr} (TC : Kl K CC) (F_p_plus : Fn P w K mg base 3 "plus" ["one", "other"] (sp_p_plus K T)) (M_paces : Mt P w K mg base CC 1 "paces" ["self"] (sp_p_Chain_paces K T CC)) (F_p_speeds : Fn P w K mg base 1 "speeds" ["paces", "places"] (sp_p_speeds K T)) (F_p_walked : Fn P w K mg base 4 "walked" ["paces", "places", "hours"] (sp_p_walked K T)) (F_p_ledger_on : Fn P w K mg base 4 "ledger_on" ["ledger", "pace", "speed", "hours"] (sp_p_ledger_on K T)) : FnOk P w K mg base CX0 5 f fd ["self", "hours"] (sp_p_Chain_walk K T CC) := by
  refine F.ok sc_p_Chain_walk (fun vs H Q E h => ?_) (fun cdv A outer s H vs Q E hr h => ?_)
  · obtain ⟨D, c, A, s, hp, h, rfl, _⟩ := h
    rfl
  · obtain ⟨D, c, A, s, hp, h, rfl, ch, w, hh, ⟨hf, h0, h1⟩, q⟩ := h
    refine ⟨_, (pss_cons (ps_set (i := 2) sc_p_Chain_walk.nd rfl (.inl rfl) (pe_mt0 M_paces TC.cl (hr.mono (by decide)) (pv 0) ))
      (pss_cons (ps_set (i := 3) sc_p_Chain_walk.nd rfl (.inl rfl) (pe_fn F_p_speeds (hr.mono (by decide)) (pa_cons (pv 2) (pa_cons (pe_fc TC.cl (TC.no "spots" (by decide +kernel)) (pv 0)) pa_nil))))
      (pss_cons (ps_for PassesOwn.never rfl (pi_zip3 (by rfl) B.zip_ (pa_cons (pe_fc TC.cl (TC.no "row" (by decide +kernel)) (pv 0)) (pa_cons (pv 2) (pa_cons (pv 3) pa_nil)))) (pg_tup rfl (pgs_cons (pg_name (i := 4) sc_p_Chain_walk.nd rfl (.inl rfl)) (pgs_cons (pg_name (i := 5) sc_p_Chain_walk.nd rfl (.inl rfl)) (pgs_cons (pg_name (i := 6) sc_p_Chain_walk.nd rfl (.inl rfl)) pgs_nil))))
      (pss_one (ps_dput (hu_of hr) (pe_fc TC.cl (TC.no "ledgers" (by decide +kernel)) (pv 0)) (pv 4) (pe_fn F_p_ledger_on (hr.mono (by decide)) (pa_cons (pe_dget (hu_of hr) (pe_fc TC.cl (TC.no "ledgers" (by decide +kernel)) (pv 0)) (pv 4) (fun _ _ => rfl)) (pa_cons (pv 5) (pa_cons (pv 6) (pa_cons (pv 1) pa_nil))))) rfl)))
      (pss_cons (ps_fc TC.cl (TC.no "spots" (by decide +kernel)) (pv 0) (pe_fn F_p_walked (hr.mono (by decide)) (pa_cons (pv 2) (pa_cons (pe_fc TC.cl (TC.no "spots" (by decide +kernel)) (pv 0)) (pa_cons (pv 1) pa_nil)))))
      (pss_one (ps_fc TC.cl (TC.no "now" (by decide +kernel)) (pv 0) (pe_fn F_p_plus (hr.mono (by decide)) (pa_cons (pe_fc TC.cl (TC.no "now" (by decide +kernel)) (pv 0)) (pa_cons (pv 1) pa_nil))))))))), ?_⟩
    have n8 := w.wk.n8
    have eq0 := w.wk.eq
    rw [pcs_len] at n8
    have lp := pcs_len s
    have bh : Bd 4000 (am h) := bdL w.hD.1 w.hD.2 hf h0 (Rat.le_trans h1 (by decide))
    refine ⟨_, rfl, c, _, _, rfl, ch.ins, fl_no (by decide +kernel), c, A, s, rfl, ch, by omega, w.tp, fun pp H1 s1 npp epp => ?_⟩
    have c1 := ch.sm s1
    obtain ⟨ps, p1, p2⟩ := c1.sp
    refine ⟨_, rfl, _, rfl, c, _, _, _, rfl, c1.ins, fl_sp, pp, A.sp, ps, pcs s, s.spots, rfl, SqL.of epp, SqL.of p1, p2, eq0, by omega, fun pg H2 s2 npg epg => ?_⟩
    have c2 := c1.sm s2
    have s12 := s1.trans s2
    have epp2 := s2.k epp
    have lsp : (spd (pcs s) s.spots).length = s.row.length := by rw [spd_len _ _ eq0, lp]
    have npp0 := ch.new npp
    have npg0 := c1.new npg
    refine ⟨_, rfl, c, _, _, _, rfl, c2.ins, fl_rw, _, rfl, _, rfl, A.rw, pp, pg, _, _, _, rfl, SqL.of c2.rw, SqL.of epp2, SqL.of epg, for_it (walk_zip3 (us := s.row.map V.str) (vs := (pcs s).map V.int) (ws := (spd (pcs s) s.spots).map V.int) (n := s.row.length) (by rw [List.length_map, List.length_map, List.length_map, lp, lsp]; omega)) (fun i σ H3 => Sx T (ownC c A) H2 H3 ∧ ChAt K CC H3 c A { s with ledgers := ledN s h i } ∧ ∃ x4 x5 x6, σ = [some (.ref c), some (.ref hp), some (.ref pp), some (.ref pg), x4, x5, x6]) ⟨Sx.refl, c2, _, _, _, rfl⟩ (fun i σ H3 _ ⟨x3, c3, _⟩ => ⟨SqL.of c3.rw, SqL.of (x3.lst epp2 npp0), SqL.of (x3.lst epg npg0)⟩) ?_ ?_⟩
    · rintro i x σ H3 H4 hi ⟨x3, c3, x4, x5, x6, rfl⟩ ⟨tp, y1, y2, y3, rfl, ntp, rfl, f1, f2, f3⟩
      have g2 := getI (l := pcs s) (j := i) (by omega)
      have g3 := getI (l := spd (pcs s) s.spots) (j := i) (by omega)
      have g1 : s.row[i]? = some (s.row.getD i "") := by rw [getD_lt hi, List.getElem?_eq_getElem hi]
      simp only [List.getElem?_map, g1, Option.map_some] at f1
      simp only [List.getElem?_map, g2, Option.map_some] at f2
      simp only [List.getElem?_map, g3, Option.map_some] at f3
      cases f1
      cases f2
      cases f3
      have hm := getD_mem (d := ("" : Str)) hi
      generalize hn : s.row.getD i "" = n at *
      have ut := same_upd (T := T) (o := .tup [.str n, .int ((pcs s).getD i 0), .int ((spd (pcs s) s.spots).getD i 0)]) ntp
      have c4 := c3.sm ut
      obtain ⟨kv, g4, g5⟩ := c4.lg
      obtain ⟨x, hx, o1, o2, o3⟩ := w.lg n hm
      have ex : getL (ledN s h i) n = some x := by
        rw [ledN_get w.nd i (by omega) n (fun j hj => by
          rw [← hn, getD_lt (show i < s.row.length by omega), getD_lt (show j < s.row.length by omega)]
          exact fun z => absurd (nd_inj w.nd (by omega) (by omega) z) (by omega))]
        exact hx
      have hgn : getL ({ s with ledgers := ledN s h i } : Ch).ledgers n = some x := ex
      rcases led_val g5 n with ⟨e1, _⟩ | ⟨x', v, e1, e2, e3⟩
      · rw [hgn] at e1; cases e1
      · rw [hgn] at e1
        cases e1
        have hpc := w.wk.pace _ (getD_mem (d := (0 : Int)) (show i < (pcs s).length by omega))
        have hsp := spd_bd w.wk (j := i) (by omega)
        have hle : (spd (pcs s) s.spots).getD i 0 ≤ (pcs s).getD i 0 := spd_le eq0 (by omega)
        refine ⟨tp, _, rfl, SqT.of upd_same, rfl, _, _, rfl, _, _, rfl, _, _, rfl, rfl, ?_⟩
        refine ⟨_, rfl, c, _, _, _, rfl, c4.ins, fl_lg, _, rfl, A.lg, v, rfl, by rw [← e2]; exact DGet.k (k := Sum.inr n) g4, _, rfl, _, rfl, _, rfl, ?_⟩
        refine ⟨D, v, x, _, _, hp, h, rfl, e3, (s12.sx (S := [])).tup hh |> fun z => (x3.sm' ut).tup z, w.hD, ⟨o1, o2, o3⟩, ⟨hf, h0, h1⟩, ⟨hsp.1, hle, hpc.2⟩, fun t H5 s5 d5 => ?_⟩
        have c5 := c4.sm s5
        have g6 := s5.k g4
        refine ⟨_, rfl, c, _, _, _, rfl, c5.ins, fl_lg, _, rfl, A.lg, _, rfl, DPut.k (k := Sum.inr n) g6 (by rw [led_len g5]; exact szl (by show (ledN s h i).length < _; rw [ledN_len (fun n hn => by obtain ⟨x, hx, _⟩ := w.lg n hn; exact ⟨x, hx⟩) w.nd i (by omega)]; have := w.ll; omega)), ?_⟩
        have g7 := led_put (n := n) ((s5.sx (S := [])).led g5) d5
        have c6 := c5.set_lg g7
        refine ⟨(x3.sm' (ut.trans s5)).step (sx_upd (o := .dK (putK kv (Sum.inr n) (.ref t))) g6 rfl (by simp [ownC])), ?_, _, _, _, rfl⟩
        have e6 : ledN s h (i + 1) = putL (ledN s h i) n (ledAdd x ((pcs s).getD i 0) ((spd (pcs s) s.spots).getD i 0) h) := by
          show putL _ (s.row.getD i "") _ = _
          rw [hn, hx]
          rfl
        rw [e6]
        exact c6
    · rintro σ H3 ⟨x3, c3, x4, x5, x6, rfl⟩
      obtain ⟨ps3, p3, p4⟩ := c3.sp
      have hg8 : ∀ j, j < (pcs s).length → 1 ≤ (spd (pcs s) s.spots).getD j 0 ∧ (spd (pcs s) s.spots).getD j 0 ≤ 12 := fun j hj => spd_bd w.wk hj
      have hps : ∀ p ∈ s.spots, Fr D p ∧ 0 ≤ p ∧ p ≤ 50000 := fun p hp => ⟨w.wk.fr p hp, w.wk.nn p hp, Rat.le_trans (w.wk.fire p hp) (Rat.le_trans (Rat.intCast_le_intCast.mpr w.f1.2) (by decide +kernel))⟩
      have hh3 := x3.tup ((s12.sx (S := [])).tup hh)
      refine ⟨_, rfl, _, rfl, c, _, _, _, rfl, c3.ins, fl_sp, _, rfl, D, pp, A.sp, hp, ps3, pcs s, s.spots, h, rfl, SqL.of (x3.lst epp2 npp0), SqL.of p3, p4, hh3, eq0, by omega, w.hD, hg8, hps, ⟨hf, h0, h1⟩, fun p5 H5 us' s5 n5 e5 hu5 => ?_⟩
      have c5 := c3.sm s5
      refine ⟨_, rfl, c, _, _, rfl, c5.ins, by show 11 < 1000; decide, ?_⟩
      rw [pf_sp]
      have np5 := c3.new n5
      have c6 := c5.re_sp e5 hu5 np5
      have x6 : Sx T (ownC c A) H _ := (s12.sx.step x3).sm' s5 |>.step (sx_upd (o := .ins CC A.dx (flds s.fire { A with sp := p5 })) c5.ins rfl (by simp [ownC]))
      have hh6 := x6.tup hh
      refine ⟨_, rfl, c, _, _, _, rfl, c6.ins, fl_nw, _, rfl, _, hp, _, _, rfl, c6.nw, hh6, ⟨ok6_bd w.hD w.now, bh⟩, ⟨am_pos _, am_pos _⟩, fun p7 H7 s7 n7 e7 => ?_⟩
      rw [plus_am] at e7
      have c7 := c6.sm s7
      refine ⟨_, rfl, c, _, _, rfl, c7.ins, by show 11 < 1000; decide, ?_⟩
      rw [pf_nw]
      have c8 := c7.re_nw (SqT.of e7)
      refine q _ _ (x6.sm' s7 |>.step (sx_upd c7.ins rfl (by simp [ownC]))) ?_ c8
      intro y hy
      have hy2 : y = p5 ∨ y ∈ ownC c A := by
        simp only [ownC, List.mem_cons, List.not_mem_nil, or_false] at hy ⊢
        rcases hy with h | h | h | h | h | h | h | h | h <;> simp [h]
      rcases hy2 with rfl | h
      · exact .inr (s12.free _ (x3.free _ n5))
      · exact .inl h

theorem while_ix {c : TT} {tb : TS} {D : Ends} {σ : L2.St} {H : Hp} (W : Nat → L2.St → Hp → Prop) (n : Nat) (h0 : W n σ H)
    (hs : ∀ m σ H, W m σ H → c σ H fun b H1 => if b = true then tb { D with nx := fun σ' H' => ∃ m', m' < m ∧ W m' σ' H', ct := fun σ' H' => ∃ m', m' < m ∧ W m' σ' H', bk := D.nx } σ H1 else D.nx σ H1)
    (mono : ∀ σ H Q Q', (∀ b H1, Q b H1 → Q' b H1) → c σ H Q → c σ H Q') : tWhile c tb D σ H := by
  refine ⟨W, ⟨n, h0⟩, fun m σ H hW => mono σ H _ _ (fun b H1 q => ?_) (hs m σ H hW)⟩
  cases b with
  | true => exact ⟨_, fun σ' H' z => z, q⟩
  | false => exact q
/-- at the place at the bearer is noted -/
def markS (s : Ch) (i : Nat) : Ch := { s with marks := s.marks.set (s.loads.getD i 0).toNat (s.marks.getD (s.loads.getD i 0).toNat [] ++ [(s.row.getD i "", s.spots.getD i 0)]) }
/-- lists side by side -/
structure Side (s : Ch) : Prop where
  ll : s.loads.length = s.row.length
  ls : s.spots.length = s.row.length
  n8 : s.row.length ≤ 8
  ld : ∀ l ∈ s.loads, 0 ≤ l ∧ l < (s.marks.length : Int)
theorem markS_side {s : Ch} (h : Side s) (i : Nat) : Side (markS s i) := ⟨h.ll, h.ls, h.n8, fun l hl => by
  show 0 ≤ l ∧ l < ((s.marks.set _ _).length : Int)
  rw [List.length_set]
  exact h.ld l hl⟩
theorem map_set_mk (l : List (List (Str × Rat))) (k : Nat) (m : List (Str × Rat)) : (l.set k m).map mkD = (l.map mkD).set k (mkD m) := by rw [List.map_set]
theorem dpa_set {K : PySem.W.Frag} {H : Hp} : ∀ {vs : List V} {ds : List PyData} {v : V} {d : PyData} (k : Nat), DpAll K H vs ds → Dp K H v d → DpAll K H (vs.set k v) (ds.set k d)
  | _, [], _, _, _, h, _ => by cases h; exact .nil
  | _, _ :: _, _, _, 0, h, g => by
    cases h with
    | cons h1 h2 => exact .cons g h2
  | _, _ :: _, _, _, k + 1, h, g => by
    cases h with
    | cons h1 h2 => exact .cons h1 (dpa_set k h2 g)
def sp_p_Chain_mark (K : PySem.W.Frag) (T : Tb) (CC : Addr) : Sp := fun vs H Q _ => ∃ (c : Addr) (A : Ad) (s : Ch) (i : Nat), vs = [.ref c, .int i] ∧ ChAt K CC H c A s ∧ Side s ∧ i < s.row.length ∧ (∀ m ∈ s.marks, m.length ≤ 5000) ∧ ∀ H', Sx T (ownC c A) H H' → ChAt K CC H' c A (markS s i) → Q .non H'
theorem ok_p_Chain_mark {f : Addr} {fd : FuncData} (F : Fun K "mark" "Chain.mark" s_p_Chain_mark f fd) {CC : Addr} (TC : Kl K CC) : FnOk P w K mg base CX0 1 f fd ["self", "at"] (sp_p_Chain_mark K T CC) := by
  refine F.ok sc_p_Chain_mark (fun vs H Q E h => ?_) (fun cdv A outer s H vs Q E hr h => ?_)
  · obtain ⟨c, A, s, i, rfl, _⟩ := h
    rfl
  · obtain ⟨c, A, s, i, rfl, h, sd, hi, hm, q⟩ := h
    refine ⟨_, (pss_cons (ps_set (i := 2) sc_p_Chain_mark.nd rfl (.inl rfl) (pe_ix ix_list (pe_fc TC.cl (TC.no "loads" (by decide +kernel)) (pv 0)) (pv 1) (fun _ _ => rfl)))
      (pss_one (ps_asg (pe_op op_catA (pe_ix ix_list (pe_fc TC.cl (TC.no "marks" (by decide +kernel)) (pv 0)) (pv 2) (fun _ _ => rfl)) (pe_tup (pa_cons (pe_tup (pa_cons (pe_ix ix_list (pe_fc TC.cl (TC.no "row" (by decide +kernel)) (pv 0)) (pv 1) (fun _ _ => rfl)) (pa_cons (pe_ix ix_list (pe_fc TC.cl (TC.no "spots" (by decide +kernel)) (pv 0)) (pv 1) (fun _ _ => rfl)) pa_nil))) pa_nil))) (pg_sub (pe_fc TC.cl (TC.no "marks" (by decide +kernel)) (pv 0)) (pv 2) set_list)))), ?_⟩
    obtain ⟨ms, m1, m2⟩ := h.mr
    obtain ⟨ps, p1, p2⟩ := h.sp
    have lm : ms.length = s.marks.length := by rw [dpa_len m2, List.length_map]
    have hl := sd.ld _ (getD_mem (d := (0 : Int)) (show i < s.loads.length by rw [sd.ll]; exact hi))
    have gl : s.loads[i]? = some (s.loads.getD i 0) := by rw [getD_lt (show i < s.loads.length by rw [sd.ll]; exact hi), List.getElem?_eq_getElem (show i < s.loads.length by rw [sd.ll]; exact hi)]
    obtain ⟨k, hk⟩ : ∃ k : Nat, s.loads.getD i 0 = (k : Int) := ⟨(s.loads.getD i 0).toNat, by omega⟩
    have hkl : k < s.marks.length := by omega
    have gr : (s.row.map V.str)[i]? = some (.str (s.row.getD i "")) := by rw [List.getElem?_map, getD_lt hi, List.getElem?_eq_getElem hi]; rfl
    obtain ⟨b, gb, qb⟩ := p2.at (i := i) (by rw [sd.ls]; exact hi)
    obtain ⟨v, gv, dv⟩ := dpa_get m2 (i := k) (d := mkD s.marks[k]) (by rw [List.getElem?_map, List.getElem?_eq_getElem hkl]; rfl)
    obtain ⟨tm, us, rfl, htm, hus⟩ : ∃ tm us, v = .ref tm ∧ SqT K H tm us ∧ DpAll K H us (s.marks[k].map fun x => PyData.tuple [.str x.1, amD (am x.2)]) := by
      unfold mkD at dv
      cases dv with
      | tup hs ha => exact ⟨_, _, rfl, hs, ha⟩
    have lus : us.length = s.marks[k].length := by rw [dpa_len hus, List.length_map]
    have hm9 := hm _ (List.getElem_mem hkl)
    refine ⟨_, rfl, c, _, _, _, rfl, h.ins, fl_ld, _, rfl, A.ld, _, _, .int k, rfl, rfl, SqL.of h.ld, by rw [← hk]; exact at_map (i := i) rfl gl, ?_⟩
    refine ⟨_, rfl, c, _, _, _, rfl, h.ins, fl_mk, _, rfl, A.mr, ms, _, .ref tm, rfl, rfl, SqL.of m1, at_of (j := k) rfl gv, ?_⟩
    refine ⟨_, rfl, c, _, _, _, rfl, h.ins, fl_rw, _, rfl, A.rw, _, _, _, rfl, rfl, SqL.of h.rw, at_of (j := i) rfl gr, ?_⟩
    refine ⟨_, rfl, c, _, _, _, rfl, h.ins, fl_sp, _, rfl, A.sp, ps, _, .ref b, rfl, rfl, SqL.of p1, at_of (j := i) rfl gb, by show 2 ≤ sizeLine; decide, fun t1 n1 => ⟨by show 1 ≤ sizeLine; decide, fun t2 n2 => ?_⟩⟩
    have u1 := same_upd (T := T) (o := .tup [.str (s.row.getD i ""), .ref b]) n1
    have u2 := same_upd (T := T) (o := .tup [.ref t1]) n2
    have s2 := u1.trans u2
    have d1 : Dp K (upd (upd H t1 (.tup [.str (s.row.getD i ""), .ref b])) t2 (.tup [.ref t1])) (.ref t1) (.tuple [.str (s.row.getD i ""), amD (am (s.spots.getD i 0))]) := .tup (SqT.of (u2.k upd_same)) (.cons (.str _) (.cons (amD_dp (same_tup s2 qb)) .nil))
    have fin : ∀ (tn : Addr) (H3 : Hp), Sm T H H3 → Dp K H3 (.ref tn) (mkD (s.marks[k] ++ [(s.row.getD i "", s.spots.getD i 0)])) → Q .non (upd H3 A.mr (.lst (ms.set k (.ref tn)))) := fun tn H3 s3 d3 => by
      have h3 := h.sm s3
      have m4 : DpAll K H3 (ms.set k (.ref tn)) ((s.marks.set k (s.marks[k] ++ [(s.row.getD i "", s.spots.getD i 0)])).map mkD) := by
        rw [map_set_mk]
        exact dpa_set k (dpa_same s3 _ _ m2) d3
      have h4 := h3.set_mr m4
      have e4 : ({ s with marks := s.marks.set k (s.marks[k] ++ [(s.row.getD i "", s.spots.getD i 0)]) } : Ch) = markS s i := by
        unfold markS
        rw [hk, Int.toNat_natCast, getD_lt hkl]
      rw [e4] at h4
      exact q _ (s3.sx.step (sx_upd (s3.k m1) rfl (by simp [ownC]))) h4
    have ixk : ixN ms.length (k : Int) = some k := by
      unfold ixN
      rw [if_pos (by omega), if_pos (by omega), Int.toNat_natCast]
    refine ⟨tm, t2, us, [.ref t1], rfl, rfl, same_tup s2 htm, SqT.of upd_same, sz (by show _ + 1 ≤ _; omega), fun e => ?_, fun _ e => absurd e (by simp), fun _ _ p np => ?_⟩
    · have h3 := h.sm s2
      refine ⟨_, rfl, c, _, _, _, rfl, h3.ins, fl_mk, _, rfl, A.mr, ms, k, k, rfl, rfl, s2.k m1, ixk, fin t2 _ s2 ?_⟩
      have e0 : s.marks[k] = [] := by rw [e] at lus; exact List.length_eq_zero_iff.mp lus.symm
      rw [e0]
      exact .tup (SqT.of upd_same) (.cons d1 .nil)
    · have u3 := same_upd (T := T) (o := .tup (us ++ [.ref t1])) np
      have s3 := s2.trans u3
      have h3 := h.sm s3
      refine ⟨_, rfl, c, _, _, _, rfl, h3.ins, fl_mk, _, rfl, A.mr, ms, k, k, rfl, rfl, s3.k m1, ixk, fin p _ s3 ?_⟩
      unfold mkD
      rw [List.map_append]
      exact .tup (SqT.of upd_same) (dpa_app (dpa_same s3 _ _ hus) (.cons (dp_same u3 _ _ d1) .nil))

def markN (s : Ch) : Nat → Ch
  | 0 => s
  | i + 1 => markS (markN s i) i
theorem markN_side {s : Ch} (h : Side s) : ∀ i, Side (markN s i)
  | 0 => h
  | i + 1 => markS_side (markN_side h i) i
theorem markN_row (s : Ch) : ∀ i, (markN s i).row = s.row ∧ (markN s i).loads = s.loads ∧ (markN s i).spots = s.spots ∧ (markN s i).tempos = s.tempos ∧ (markN s i).leaving = s.leaving ∧ (markN s i).ledgers = s.ledgers ∧ (markN s i).poured = s.poured ∧ (markN s i).now = s.now ∧ (markN s i).fire = s.fire ∧ (markN s i).way = s.way ∧ (markN s i).marks.length = s.marks.length
  | 0 => ⟨rfl, rfl, rfl, rfl, rfl, rfl, rfl, rfl, rfl, rfl, rfl⟩
  | i + 1 => by
    have h := markN_row s i
    refine ⟨h.1, h.2.1, h.2.2.1, h.2.2.2.1, h.2.2.2.2.1, h.2.2.2.2.2.1, h.2.2.2.2.2.2.1, h.2.2.2.2.2.2.2.1, h.2.2.2.2.2.2.2.2.1, h.2.2.2.2.2.2.2.2.2.1, ?_⟩
    show ((markN s i).marks.set _ _).length = _
    rw [List.length_set]
    exact h.2.2.2.2.2.2.2.2.2.2
theorem markN_len {s : Ch} {b : Nat} (h : ∀ m ∈ s.marks, m.length ≤ b) : ∀ i, ∀ m ∈ (markN s i).marks, m.length ≤ b + i
  | 0 => h
  | i + 1 => fun m hm => by
    have ih := markN_len h i
    have hm' : m ∈ (markN s i).marks.set ((markN s i).loads.getD i 0).toNat ((markN s i).marks.getD ((markN s i).loads.getD i 0).toNat [] ++ [((markN s i).row.getD i "", (markN s i).spots.getD i 0)]) := hm
    rcases List.mem_or_eq_of_mem_set hm' with h1 | h1
    · have := ih m h1; omega
    · rw [h1, List.length_append]
      show _ + 1 ≤ _
      by_cases hk : ((markN s i).loads.getD i 0).toNat < (markN s i).marks.length
      · have := ih _ (getD_mem (d := []) hk)
        omega
      · rw [List.getD_eq_getElem?_getD, List.getElem?_eq_none (by omega)]
        show 0 + 1 ≤ _
        omega
def sp_p_Chain_mark_from (K : PySem.W.Frag) (T : Tb) (CC : Addr) : Sp := fun vs H Q _ => ∃ (c : Addr) (A : Ad) (s : Ch), vs = [.ref c, .int 0] ∧ ChAt K CC H c A s ∧ Side s ∧ (∀ m ∈ s.marks, m.length ≤ 4000) ∧ ∀ H', Sx T (ownC c A) H H' → ChAt K CC H' c A (markN s s.row.length) → Q .non H'
theorem ok_p_Chain_mark_from {f : Addr} {fd : FuncData} (F : Fun K "mark_from" "Chain.mark_from" s_p_Chain_mark_from f fd) (B : Bn mg) {CC : Addr} (TC : Kl K CC) (M_mark : Mt P w K mg base CC 1 "mark" ["self", "at"] (sp_p_Chain_mark K T CC)) : FnOk P w K mg base CX0 2 f fd ["self", "first"] (sp_p_Chain_mark_from K T CC) := by
  refine F.ok sc_p_Chain_mark_from (fun vs H Q E h => ?_) (fun cdv A outer s H vs Q E hr h => ?_)
  · obtain ⟨c, A, s, rfl, _⟩ := h
    rfl
  · obtain ⟨c, A, s, rfl, h, sd, hm, q⟩ := h
    refine ⟨_, (pss_one (ps_for PassesOwn.never rfl (pi_range2 (by rfl) B.range_ (pa_cons (pv 1) (pa_cons (pe_callB call_len_seq (by rfl) B.len_ (by decide +kernel) (pa_cons (pe_fc TC.cl (TC.no "row" (by decide +kernel)) (pv 0)) pa_nil)) pa_nil))) (pg_name (i := 2) sc_p_Chain_mark_from.nd rfl (.inl rfl))
      (pss_one (ps_expr (pe_mt M_mark TC.cl (hr.mono (by decide)) (pv 0) (pa_cons (pv 2) pa_nil)))))), ?_⟩
    have n8 := sd.n8
    refine ⟨_, rfl, _, rfl, c, _, _, _, rfl, h.ins, fl_rw, A.rw, _, rfl, .inl (SqL.of h.rw), 0, _, rfl, ?_, ?_⟩
    · rw [List.length_map]
      exact ⟨by omega, by omega, by omega, by omega⟩
    · rw [List.length_map, show ((s.row.length : Int) - 0).toNat = s.row.length by omega]
      refine for_range (lo := 0) (n := s.row.length) (fun i σ H' => Sx T (ownC c A) H H' ∧ ChAt K CC H' c A (markN s i) ∧ ∃ x1 x2, σ = [some (.ref c), x1, x2]) ⟨Sx.refl, h, _, _, rfl⟩ ?_ ?_
      · rintro i σ H' hi ⟨x', h', x1, x2, rfl⟩
        have e := markN_row s i
        have ez : (0 : Int) + (i : Int) = (i : Int) := by omega
        rw [ez]
        refine ⟨_, rfl, c, _, _, rfl, h'.ins, fl_no (by decide +kernel), _, rfl, c, A, markN s i, i, rfl, h', markN_side sd i, by rw [e.1]; exact hi, fun m hm' => by have := markN_len hm i m hm'; omega, fun H2 x2 h2 => ?_⟩
        exact ⟨x'.step x2, h2, _, _, rfl⟩
      · rintro σ H' ⟨x', h', x1, x2, rfl⟩
        exact q H' x' h'
def sp_p_Chain_next_leaver (K : PySem.W.Frag) (T : Tb) (CC : Addr) : Sp := fun vs H Q _ => ∃ (c : Addr) (A : Ad) (s : Ch), vs = [.ref c] ∧ ChAt K CC H c A s ∧ s.leaving = [] ∧ s.row.length ≤ 8 ∧ Q .non H
theorem ok_p_Chain_next_leaver {f : Addr} {fd : FuncData} (F : Fun K "next_leaver" "Chain.next_leaver" s_p_Chain_next_leaver f fd) (B : Bn mg) {CC : Addr} (TC : Kl K CC) : FnOk P w K mg base CX0 1 f fd ["self"] (sp_p_Chain_next_leaver K T CC) := by
  refine F.ok sc_p_Chain_next_leaver (fun vs H Q E h => ?_) (fun cdv A outer s H vs Q E hr h => ?_)
  · obtain ⟨c, A, s, rfl, _⟩ := h
    rfl
  · obtain ⟨c, A, s, rfl, h, hl, n8, q⟩ := h
    refine ⟨_, (pss_cons (ps_for PassesOwn.never rfl (pi_revR (by rfl) B.reversed_ (prg_1 (by rfl) B.range_ (pe_callB call_len_seq (by rfl) B.len_ (by decide +kernel) (pa_cons (pe_fc TC.cl (TC.no "row" (by decide +kernel)) (pv 0)) pa_nil)))) (pg_name (i := 1) sc_p_Chain_next_leaver.nd rfl (.inl rfl))
      (pss_one (ps_if (pt_cmpR op_in_seq (pe_ix ix_list (pe_fc TC.cl (TC.no "row" (by decide +kernel)) (pv 0)) (pv 1) (fun _ _ => rfl)) (pe_fc TC.cl (TC.no "leaving" (by decide +kernel)) (pv 0)) (by rfl)) (pss_one (ps_ret (pv 1))) pss_nil)))
      (pss_one (ps_ret pe_non))), ?_⟩
    have hlv := h.lv
    rw [hl] at hlv
    refine ⟨_, rfl, c, _, _, _, rfl, h.ins, fl_rw, A.rw, _, rfl, .inl (SqL.of h.rw), _, rfl, by decide, by decide, by rw [List.length_map]; omega, by rw [List.length_map]; omega, for_rangeC (fun i σ H3 => H3 = H ∧ ∃ x1, σ = [some (.ref c), x1]) ⟨rfl, _, rfl⟩ ?_ ?_⟩
    · rintro i σ H3 hi ⟨rfl, x1, rfl⟩
      rw [List.length_map] at hi
      have hin : i < s.row.length := by omega
      obtain ⟨j, hj⟩ : ∃ j, j = s.row.length - 1 - i := ⟨_, rfl⟩
      have ez : (0 + ((((s.row.map V.str).length : Int) - 0).toNat : Int) - 1 + (i : Int) * -1) = (j : Int) := by rw [List.length_map]; omega
      rw [ez]
      have gr : (s.row.map V.str)[j]? = some (.str (s.row.getD j "")) := by rw [List.getElem?_map, getD_lt (show j < s.row.length by omega), List.getElem?_eq_getElem (show j < s.row.length by omega)]; rfl
      refine ⟨_, rfl, c, _, _, _, rfl, h.ins, fl_rw, _, rfl, A.rw, _, _, _, rfl, rfl, SqL.of h.rw, at_of (j := j) rfl gr, _, rfl, c, _, _, _, rfl, h.ins, fl_lv, A.lv, _, rfl, .inl (SqL.of hlv), rfl, rfl, _, rfl, ?_⟩
      exact iteF ⟨rfl, _, rfl⟩
    · rintro σ H3 ⟨rfl, x1, rfl⟩
      exact q

/-- a row of a going: the hour, the pail, who emptied it -/
abbrev Rw := Rat × Int × Str
def rowD (r : Rw) : PyData := .tuple [amD (am r.1), .str "out", .int r.2.1, .str r.2.2]
theorem noL_rows (l : List Rw) : (l.map rowD).all (noL 3) = true := by
  rw [List.all_map]
  exact List.all_eq_true.mpr fun _ _ => rfl
def rowS (s : Ch) : Rw := (s.now, s.loads.getD (s.row.length - 1) 0, s.row.getD (s.row.length - 1) "")
/-- a turn where nobody is called away -/
def turnS (s : Ch) : Ch :=
  let m := takeS (markN { s with poured := s.poured ++ [s.loads.getD (s.row.length - 1) 0] } s.row.length)
  { m with loads := m.loads.dropLast, spots := m.spots.dropLast }
structure Fit (s : Ch) : Prop where
  sd : Side s
  lv : s.leaving = []
  ml : s.marks.length < 4000
  mm : ∀ m ∈ s.marks, m.length ≤ 3000
  pl : s.poured.length < 4000
theorem last_at {α : Type} {l : List α} {d : α} (h : 0 < l.length) : l[l.length - 1]? = some (l.getD (l.length - 1) d) := by rw [getD_lt (show l.length - 1 < l.length by omega), List.getElem?_eq_getElem]
theorem last_ints {l : List Int} (h : 0 < l.length) : atI (l.map V.int) (-1) = some (.int (l.getD (l.length - 1) 0)) := at_neg1 (by rw [List.length_map]; exact h) (by rw [List.length_map, List.getElem?_map, last_at h]; rfl)
theorem last_strs {l : List Str} (h : 0 < l.length) : atI (l.map V.str) (-1) = some (.str (l.getD (l.length - 1) "")) := at_neg1 (by rw [List.length_map]; exact h) (by rw [List.length_map, List.getElem?_map, last_at h]; rfl)
theorem dpa_dropLast {K : PySem.W.Frag} {H : Hp} {vs : List V} {ds : List PyData} (h : DpAll K H vs ds) : DpAll K H vs.dropLast ds.dropLast := by
  rw [List.dropLast_eq_take, List.dropLast_eq_take, dpa_len h]
  exact dpa_take _ h
theorem AmL.dropLast {K : PySem.W.Frag} {H : Hp} {us : List V} {xs : List Rat} (h : AmL K H us xs) : AmL K H us.dropLast xs.dropLast := by
  have := dpa_dropLast h
  unfold AmL
  rw [List.map_dropLast, List.map_dropLast]
  exact this

def sp_p_Chain_turn (K : PySem.W.Frag) (T : Tb) (CC : Addr) : Sp := fun vs H Q _ => ∃ (c : Addr) (A : Ad) (s : Ch), vs = [.ref c] ∧ ChAt K CC H c A s ∧ Fit s ∧ s.row ≠ [] ∧
  ∀ p H' t, Sx T (ownC c A) H H' → ChAt K CC H' c A (turnS s) → H p = none → H' p = some (.lst [.ref t]) → Dp K H' (.ref t) (rowD (rowS s)) → Q (.ref p) H'
theorem ok_p_Chain_turn {f : Addr} {fd : FuncData} (F : Fun K "turn" "Chain.turn" s_p_Chain_turn f fd) {CC : Addr} (TC : Kl K CC) (M_take_pail : Mt P w K mg base CC 1 "take_pail" ["self"] (sp_p_Chain_take_pail K T CC)) (M_mark_from : Mt P w K mg base CC 2 "mark_from" ["self", "first"] (sp_p_Chain_mark_from K T CC)) (M_next_leaver : Mt P w K mg base CC 1 "next_leaver" ["self"] (sp_p_Chain_next_leaver K T CC)) : FnOk P w K mg base CX0 3 f fd ["self"] (sp_p_Chain_turn K T CC) := by
  refine F.ok sc_p_Chain_turn (fun vs H Q E h => ?_) (fun cdv A outer s H vs Q E hr h => ?_)
  · obtain ⟨c, A, s, rfl, _⟩ := h
    rfl
  · obtain ⟨c, A, s, rfl, h, ft, hne, q⟩ := h
    refine ⟨_, (pss_cons (ps_set (i := 1) sc_p_Chain_turn.nd rfl (.inl rfl) (pe_lst (pa_cons (pe_tup (pa_cons (pe_fc TC.cl (TC.no "now" (by decide +kernel)) (pv 0)) (pa_cons pe_str (pa_cons (pe_ix ix_list (pe_fc TC.cl (TC.no "loads" (by decide +kernel)) (pv 0)) (pe_un un_neg pe_int) (fun _ _ => rfl)) (pa_cons (pe_ix ix_list (pe_fc TC.cl (TC.no "row" (by decide +kernel)) (pv 0)) (pe_un un_neg pe_int) (fun _ _ => rfl)) pa_nil))))) pa_nil)))
      (pss_cons (ps_expr (pe_bm PySem.F.plainAttrs_list PySem.F.slot_list_append PySem.F.type_list_append mt_append (pe_fc TC.cl (TC.no "poured" (by decide +kernel)) (pv 0)) (pa_cons (pe_ix ix_list (pe_fc TC.cl (TC.no "loads" (by decide +kernel)) (pv 0)) (pe_un un_neg pe_int) (fun _ _ => rfl)) pa_nil)))
      (pss_cons (ps_set (i := 2) sc_p_Chain_turn.nd rfl (.inl rfl) (pe_mt0 M_next_leaver TC.cl (hr.mono (by decide)) (pv 0) ))
      (pss_cons (ps_if (pt_cmpR op_isN (pv 2) pe_non (nomark _)) (pss_cons (ps_expr (pe_mt M_mark_from TC.cl (hr.mono (by decide)) (pv 0) (pa_cons pe_int pa_nil)))
      (pss_one (ps_expr (pe_mt0 M_take_pail TC.cl (hr.mono (by decide)) (pv 0) )))) pss_never)
      (pss_cons (ps_expr (pe_bm0 PySem.F.plainAttrs_list PySem.F.slot_list_pop PySem.F.type_list_pop mt_pop (pe_fc TC.cl (TC.no "loads" (by decide +kernel)) (pv 0))))
      (pss_cons (ps_expr (pe_bm0 PySem.F.plainAttrs_list PySem.F.slot_list_pop PySem.F.type_list_pop mt_pop (pe_fc TC.cl (TC.no "spots" (by decide +kernel)) (pv 0))))
      (pss_one (ps_ret (pv 1))))))))), ?_⟩
    have n8 := ft.sd.n8
    have hr0 : 0 < s.row.length := List.length_pos_iff.mpr hne
    have ll := ft.sd.ll
    have ls := ft.sd.ls
    have el : s.loads.getD (s.loads.length - 1) 0 = s.loads.getD (s.row.length - 1) 0 := by rw [ll]
    refine ⟨_, rfl, c, _, _, _, rfl, h.ins, fl_nw, ?_⟩
    refine ⟨_, rfl, c, _, _, _, rfl, h.ins, fl_ld, 1, rfl, A.ld, _, _, _, rfl, rfl, SqL.of h.ld, last_ints (by omega), ?_⟩
    refine ⟨_, rfl, c, _, _, _, rfl, h.ins, fl_rw, 1, rfl, A.rw, _, _, _, rfl, rfl, SqL.of h.rw, last_strs hr0, by show 4 ≤ sizeLine; decide, fun t nt => ⟨by show 1 ≤ sizeLine; decide, fun p np => ?_⟩⟩
    rw [el] at np ⊢
    have u1 := same_upd (T := T) (o := .tup [.ref A.nw, .str "out", .int (s.loads.getD (s.row.length - 1) 0), .str (s.row.getD (s.row.length - 1) "")]) nt
    have u2 := same_upd (T := T) (o := .lst [.ref t]) np
    have s2 := u1.trans u2
    have h2 := h.sm s2
    have hp0 : H p = none := u1.free _ np
    have npo := h.new hp0
    have d2 := Dp.tup (K := K) (SqT.of (u2.k (b := t) (o := .tup [.ref A.nw, .str "out", .int (s.loads.getD (s.row.length - 1) 0), .str (s.row.getD (s.row.length - 1) "")]) upd_same)) (.cons (amD_dp h2.nw) (.cons (.str _) (.cons (.int _) (.cons (.str _) .nil))))
    have ep : upd (upd H t (.tup [.ref A.nw, .str "out", .int (s.loads.getD (s.row.length - 1) 0), .str (s.row.getD (s.row.length - 1) "")])) p (.lst [.ref t]) p = some (.lst [.ref t]) := upd_same
    generalize upd (upd H t (.tup [.ref A.nw, .str "out", .int (s.loads.getD (s.row.length - 1) 0), .str (s.row.getD (s.row.length - 1) "")])) p (.lst [.ref t]) = H2 at *
    refine ⟨_, rfl, c, _, _, _, rfl, h2.ins, fl_pr, .inl ⟨rfl, _, SqL.of h2.pr⟩, _, rfl, c, _, _, _, rfl, h2.ins, fl_ld, 1, rfl, A.ld, _, _, _, rfl, rfl, SqL.of h2.ld, last_ints (by omega), A.pr, _, _, rfl, rfl, h2.pr, by rw [List.length_map]; exact szl (by have := ft.pl; omega), ?_⟩
    rw [el]
    have h3 := h2.set_pr (s.poured ++ [s.loads.getD (s.row.length - 1) 0])
    have e3 : s.poured.map V.int ++ [.int (s.loads.getD (s.row.length - 1) 0)] = (s.poured ++ [s.loads.getD (s.row.length - 1) 0]).map V.int := by rw [List.map_append]; rfl
    rw [e3]
    have x3 : Sx T (ownC c A) H2 _ := sx_upd (o := .lst ((s.poured ++ [s.loads.getD (s.row.length - 1) 0]).map V.int)) h2.pr rfl (by simp [ownC])
    refine ⟨_, rfl, c, _, _, rfl, h3.ins, fl_no (by decide +kernel), c, A, _, rfl, h3, ft.lv, n8, ?_⟩
    try dsimp only [gName]
    refine seq_if (fun σ' H4 => Sx T (ownC c A) H2 H4 ∧ ChAt K CC H4 c A (takeS (markN { s with poured := s.poured ++ [s.loads.getD (s.row.length - 1) 0] } s.row.length)) ∧ ∃ x2, σ' = [some (.ref c), some (.ref p), x2]) (fun σ' H4 pp => ?_) (fun k => ?_)
    · obtain ⟨x4, h4, x2, rfl⟩ := pp
      have em := markN_row { s with poured := s.poured ++ [s.loads.getD (s.row.length - 1) 0] } s.row.length
      generalize hm : takeS (markN { s with poured := s.poured ++ [s.loads.getD (s.row.length - 1) 0] } s.row.length) = m at *
      have lml : m.loads.length = s.row.length + 1 := by
        rw [← hm]
        show ((_ : Int) :: _).length = _
        rw [List.length_cons, em.2.1]
        exact congrArg (· + 1) ll
      have lms : m.spots.length = s.row.length + 1 := by
        rw [← hm]
        show ((0 : Rat) :: _).length = _
        rw [List.length_cons, em.2.2.1]
        exact congrArg (· + 1) ls
      have e5 : (m.loads.map V.int)[(m.loads.map V.int).length - 1]? = some (.int (m.loads.getD (m.loads.length - 1) 0)) := by rw [List.length_map, List.getElem?_map, last_at (by omega)]; rfl
      refine ⟨_, rfl, c, _, _, _, rfl, h4.ins, fl_ld, .inl ⟨rfl, _, SqL.of h4.ld⟩, A.ld, _, _, rfl, rfl, h4.ld, e5, ?_⟩
      have h5 := h4.set_ld m.loads.dropLast
      have e6 : (m.loads.map V.int).dropLast = m.loads.dropLast.map V.int := by rw [List.map_dropLast]
      rw [e6]
      have x5 := x4.step (sx_upd (o := .lst (m.loads.dropLast.map V.int)) h4.ld rfl (by simp [ownC]))
      obtain ⟨ps, p1, p2⟩ := h5.sp
      have lps := p2.len
      have lps' : ps.length = s.row.length + 1 := by rw [lps]; exact lms
      refine ⟨_, rfl, c, _, _, _, rfl, h5.ins, fl_sp, .inl ⟨rfl, _, SqL.of p1⟩, A.sp, ps, _, rfl, rfl, p1, last_at (d := V.non) (by omega), ?_⟩
      have h6 := h5.set_sp p2.dropLast
      have x6 := x5.step (sx_upd (o := .lst ps.dropLast) p1 rfl (by simp [ownC]))
      refine ⟨_, rfl, q p _ t (s2.sx.step x6) ?_ hp0 (x6.lst ep npo) (x6.dp 3 _ _ rfl d2)⟩
      have et : turnS s = { m with loads := m.loads.dropLast, spots := m.spots.dropLast } := by
        unfold turnS
        rw [hm]
      rw [et]
      exact h6
    · refine ⟨_, rfl, rfl, _, rfl, iteT ?_⟩
      have sd3 : Side { s with poured := s.poured ++ [s.loads.getD (s.row.length - 1) 0] } := ⟨ft.sd.ll, ft.sd.ls, ft.sd.n8, ft.sd.ld⟩
      refine ⟨_, rfl, c, _, _, rfl, h3.ins, fl_no (by decide +kernel), c, A, _, rfl, h3, sd3, fun m hm => by have := ft.mm m hm; omega, fun H4 x4 h4 => ?_⟩
      have em := markN_row { s with poured := s.poured ++ [s.loads.getD (s.row.length - 1) 0] } s.row.length
      have e1 := em.2.2.2.2.2.2.2.2.2.2
      refine ⟨_, rfl, c, _, _, rfl, h4.ins, fl_no (by decide +kernel), c, A, _, rfl, h4, ⟨?_, ?_, ?_⟩, fun H5 x5 h5 => k _ _ ⟨(x3.step x4).step x5, h5, _, rfl⟩⟩
      · have : s.marks.length < 4000 := ft.ml
        show (markN _ _).marks.length < _
        rw [e1]
        show s.marks.length < _
        omega
      · show (markN _ _).loads.length < _
        rw [em.2.1]
        show s.loads.length < _
        omega
      · show (markN _ _).spots.length < _
        rw [em.2.2.1]
        show s.spots.length < _
        omega

/-- turns, one behind another -/
inductive Tn (s : Ch) : Ch → List Rw → Prop
  | refl : Tn s s []
  | step {s' : Ch} {rows : List Rw} (h : Tn s s' rows) (hne : s'.row ≠ []) (hl : s'.spots.getD (s'.row.length - 1) 0 = (s'.fire : Rat)) : Tn s (turnS s') (rows ++ [rowS s'])
theorem turnS_row (s : Ch) : (turnS s).row = s.row ∧ (turnS s).tempos = s.tempos ∧ (turnS s).leaving = s.leaving ∧ (turnS s).ledgers = s.ledgers ∧ (turnS s).now = s.now ∧ (turnS s).fire = s.fire ∧ (turnS s).way = s.way := by
  have em := markN_row { s with poured := s.poured ++ [s.loads.getD (s.row.length - 1) 0] } s.row.length
  exact ⟨em.1, em.2.2.2.1, em.2.2.2.2.1, em.2.2.2.2.2.1, em.2.2.2.2.2.2.2.1, em.2.2.2.2.2.2.2.2.1, em.2.2.2.2.2.2.2.2.2.1⟩
theorem turnS_pour (s : Ch) : (turnS s).poured = s.poured ++ [s.loads.getD (s.row.length - 1) 0] ∧ (turnS s).marks.length = s.marks.length + 1 ∧ (turnS s).spots = ((0 : Rat) :: s.spots).dropLast ∧ (turnS s).loads = ((s.marks.length : Int) :: s.loads).dropLast := by
  have em := markN_row { s with poured := s.poured ++ [s.loads.getD (s.row.length - 1) 0] } s.row.length
  have e1 := em.2.2.2.2.2.2.2.2.2.2
  refine ⟨em.2.2.2.2.2.2.1, ?_, ?_, ?_⟩
  · show ((markN _ _).marks ++ [[]]).length = _
    rw [List.length_append, e1]
    rfl
  · show ((0 : Rat) :: (markN _ _).spots).dropLast = _
    rw [em.2.2.1]
  · show (((markN _ _).marks.length : Int) :: (markN _ _).loads).dropLast = _
    rw [e1, em.2.1]
theorem turnS_side {s : Ch} (h : Side s) : Side (turnS s) := by
  obtain ⟨e1, _⟩ := turnS_row s
  obtain ⟨_, f2, f3, f4⟩ := turnS_pour s
  refine ⟨?_, ?_, by rw [e1]; exact h.n8, fun l hl => ?_⟩
  · rw [f4, e1, List.length_dropLast, List.length_cons, h.ll]; rfl
  · rw [f3, e1, List.length_dropLast, List.length_cons, h.ls]; rfl
  · rw [f4] at hl
    rw [f2]
    rcases List.mem_cons.mp ((List.dropLast_sublist _).subset hl) with z | z
    · rw [z]; omega
    · have := h.ld l z; omega
theorem turnS_mm {s : Ch} {b : Nat} (h : ∀ m ∈ s.marks, m.length ≤ b) (n8 : s.row.length ≤ 8) : ∀ m ∈ (turnS s).marks, m.length ≤ b + 8 := fun m hm => by
  have hm' : m ∈ (markN { s with poured := s.poured ++ [s.loads.getD (s.row.length - 1) 0] } s.row.length).marks ++ [[]] := hm
  rcases List.mem_append.mp hm' with z | z
  · have := markN_len (s := { s with poured := s.poured ++ [s.loads.getD (s.row.length - 1) 0] }) (b := b) h s.row.length m z
    omega
  · rw [List.mem_singleton.mp z]
    exact Nat.zero_le _
def cntF (s : Ch) : Nat := s.spots.countP fun x => decide (x = (s.fire : Rat))
theorem cnt_turn {s : Ch} (h : Side s) (hne : s.row ≠ []) (hl : s.spots.getD (s.row.length - 1) 0 = (s.fire : Rat)) (hf : 1 ≤ s.fire) : cntF (turnS s) + 1 = cntF s := by
  obtain ⟨_, _, _, _, _, e6, _⟩ := turnS_row s
  obtain ⟨_, _, f3, _⟩ := turnS_pour s
  have hr : 0 < s.row.length := List.length_pos_iff.mpr hne
  have hls := h.ls
  have hsn : s.spots ≠ [] := fun z => by rw [z] at hls; simp at hls; omega
  have e0 : s.spots = s.spots.dropLast ++ [s.spots.getD (s.row.length - 1) 0] := by
    have := (List.dropLast_concat_getLast hsn).symm
    rw [List.getLast_eq_getElem] at this
    rw [getD_lt (show s.row.length - 1 < s.spots.length by omega)]
    simp only [hls] at this
    exact this
  unfold cntF
  rw [f3, e6]
  have e1 : ((0 : Rat) :: s.spots).dropLast = 0 :: s.spots.dropLast := by
    cases hs : s.spots with
    | nil => exact absurd hs hsn
    | cons a l => rfl
  rw [e1, List.countP_cons]
  have z0 : decide ((0 : Rat) = (s.fire : Rat)) = false := decide_eq_false fun z => by
    have : (0 : Rat) < (s.fire : Rat) := cp (by omega)
    rw [← z] at this
    exact absurd this (by decide)
  rw [z0]
  conv => rhs; rw [e0]
  rw [List.countP_append, hl, List.countP_cons, List.countP_nil, decide_eq_true rfl]
  rfl
/-- fit for turns -/
structure Fit2 (s : Ch) : Prop where
  sd : Side s
  lv : s.leaving = []
  f1 : 1 ≤ s.fire
  ml : s.marks.length < 3900
  mm : ∀ m ∈ s.marks, m.length ≤ 2800
  pl : s.poured.length < 3900
def sp_p_Chain_turns (K : PySem.W.Frag) (T : Tb) (CC : Addr) : Sp := fun vs H Q _ => ∃ (c : Addr) (A : Ad) (s : Ch), vs = [.ref c] ∧ ChAt K CC H c A s ∧ Fit2 s ∧
  ∀ p H' us s' rows, Sx T (ownC c A) H H' → ChAt K CC H' c A s' → Tn s s' rows → rows.length ≤ 8 → (s'.row ≠ [] → s'.spots.getD (s'.row.length - 1) 0 ≠ (s'.fire : Rat)) → H p = none → H' p = some (.lst us) → DpAll K H' us (rows.map rowD) → Q (.ref p) H'
theorem tn_facts {s s' : Ch} {rows : List Rw} (h : Fit2 s) (t : Tn s s' rows) : Side s' ∧ s'.leaving = [] ∧ s'.fire = s.fire ∧ s'.row = s.row ∧ s'.marks.length = s.marks.length + rows.length ∧ (∀ m ∈ s'.marks, m.length ≤ 2800 + 8 * rows.length) ∧ s'.poured.length = s.poured.length + rows.length ∧ cntF s' + rows.length = cntF s := by
  induction t with
  | refl => exact ⟨h.sd, h.lv, rfl, rfl, rfl, h.mm, rfl, rfl⟩
  | step t hne hl ih =>
    rename_i s1 rows1
    obtain ⟨i1, i2, i3, i4, i5, i6, i7, i8⟩ := ih
    obtain ⟨e1, e2, e3, e4, e5, e6, e7⟩ := turnS_row s1
    obtain ⟨f1, f2, f3, f4⟩ := turnS_pour s1
    have lr : (rows1 ++ [rowS s1]).length = rows1.length + 1 := by rw [List.length_append]; rfl
    have c := cnt_turn i1 hne hl (by rw [i3]; exact h.f1)
    refine ⟨turnS_side i1, by rw [e3]; exact i2, by rw [e6]; exact i3, by rw [e1]; exact i4, by rw [f2, i5, lr]; omega, fun m hm => ?_, by rw [f1, List.length_append, i7, lr]; rfl, by rw [lr]; omega⟩
    have := turnS_mm i6 i1.n8 m hm
    rw [lr]
    omega
theorem ok_p_Chain_turns {f : Addr} {fd : FuncData} (F : Fun K "turns" "Chain.turns" s_p_Chain_turns f fd) {CC : Addr} (TC : Kl K CC) (M_turn : Mt P w K mg base CC 3 "turn" ["self"] (sp_p_Chain_turn K T CC)) : FnOk P w K mg base CX0 4 f fd ["self"] (sp_p_Chain_turns K T CC) := by
  refine F.ok sc_p_Chain_turns (fun vs H Q E h => ?_) (fun cdv A outer s H vs Q E hr h => ?_)
  · obtain ⟨c, A, s, rfl, _⟩ := h
    rfl
  · obtain ⟨c, A, s, rfl, h, ft, q⟩ := h
    refine ⟨_, (pss_cons (ps_set (i := 1) sc_p_Chain_turns.nd rfl (.inl rfl) (pe_lst pa_nil))
      (pss_cons (ps_while PassesOwn.never (PW.pt (pw_and (pt_truth (pe_fc TC.cl (TC.no "row" (by decide +kernel)) (pv 0)) (by intro _; rfl)) (pw_and1 (pt_cmpR (op_eqD hr.units) (pe_ix ix_list (pe_fc TC.cl (TC.no "spots" (by decide +kernel)) (pv 0)) (pe_un un_neg pe_int) (fun _ _ => rfl)) (pe_tup (pa_cons (pe_fc TC.cl (TC.no "fire" (by decide +kernel)) (pv 0)) (pa_cons pe_int pa_nil))) (nomark _))))) (pss_one (ps_expr (pe_bm PySem.F.plainAttrs_list PySem.F.slot_list_extend PySem.F.type_list_extend mt_extend (pv 1) (pa_cons (pe_mt0 M_turn TC.cl (hr.mono (by decide)) (pv 0) ) pa_nil)))))
      (pss_one (ps_ret (pv 1))))), ?_⟩
    have c8 : cntF s ≤ 8 := Nat.le_trans List.countP_le_length (by rw [ft.sd.ls]; exact ft.sd.n8)
    refine ⟨Nat.zero_le _, fun o no => ?_⟩
    have u0 := same_upd (T := T) (o := .lst []) no
    have noo := h.new no
    refine ⟨fun m σ H3 => ∃ s' rows us, m = cntF s' ∧ Tn s s' rows ∧ Sx T (ownC c A) H H3 ∧ ChAt K CC H3 c A s' ∧ σ = [some (.ref c), some (.ref o)] ∧ H3 o = some (.lst us) ∧ DpAll K H3 us (rows.map rowD), ⟨_, s, [], [], rfl, .refl, u0.sx, h.sm u0, rfl, upd_same, .nil⟩, ?_⟩
    rintro m σ H3 ⟨s', rows, us, rfl, t, x3, h3, rfl, eo, du⟩
    obtain ⟨i1, i2, i3, i4, i5, i6, i7, i8⟩ := tn_facts ft t
    have fin : ∀ H4, Sm T H3 H4 → (s'.row ≠ [] → s'.spots.getD (s'.row.length - 1) 0 ≠ (s'.fire : Rat)) → Q (.ref o) H4 := fun H4 s4 hn => q o H4 us s' rows (x3.sm' s4) (h3.sm s4) t (by omega) hn no (s4.k eo) (dpa_same s4 _ _ du)
    refine ⟨_, rfl, c, _, _, _, rfl, h3.ins, fl_rw, _, .inl ⟨_, SqL.of h3.rw, rfl⟩, ?_⟩
    by_cases hne : s'.row = []
    · rw [hne]
      exact iteF (iteF ⟨_, rfl, fin H3 Sm.refl fun z => absurd hne z⟩)
    · have hb : ((s'.row.map V.str).isEmpty) = false := by
        cases hs : s'.row with
        | nil => exact absurd hs hne
        | cons a l => rfl
      rw [hb]
      refine iteT ?_
      obtain ⟨ps, p1, p2⟩ := h3.sp
      have hr : 0 < s'.row.length := List.length_pos_iff.mpr hne
      have hls := i1.ls
      have lps := p2.len
      obtain ⟨bl, gl, ql⟩ := p2.at (i := s'.row.length - 1) (by omega)
      refine ⟨_, rfl, c, _, _, _, rfl, h3.ins, fl_sp, 1, rfl, A.sp, ps, _, .ref bl, rfl, rfl, SqL.of p1, at_neg1 (by omega) (by rw [lps, hls]; exact gl), ?_⟩
      refine ⟨_, rfl, c, _, _, _, rfl, h3.ins, fl_fire, by show 2 ≤ sizeLine; decide, fun tt ntt => ?_⟩
      have ut := same_upd (T := T) (o := .tup [.int s'.fire, .int 1]) ntt
      refine ⟨amD (am (s'.spots.getD (s'.row.length - 1) 0)), amD (s'.fire, 1), amD_dp (same_tup ut ql), amD_dp (x := (s'.fire, 1)) (SqT.of upd_same), shaped_am _, shaped_am (s'.fire, 1), _, rfl, ?_⟩
      rw [eqv_am]
      by_cases hl : s'.spots.getD (s'.row.length - 1) 0 = (s'.fire : Rat)
      · rw [decide_eq_true (by rw [hl, am_int])]
        refine iteT ⟨fun σ' H' => ∃ m', m' < cntF s' ∧ ∃ s2 rows us, m' = cntF s2 ∧ Tn s s2 rows ∧ Sx T (ownC c A) H H' ∧ ChAt K CC H' c A s2 ∧ σ' = [some (.ref c), some (.ref o)] ∧ H' o = some (.lst us) ∧ DpAll K H' us (rows.map rowD), fun _ _ z => z, ?_⟩
        have h4 := h3.sm ut
        have eo4 := ut.k eo
        have c' := cnt_turn i1 hne hl (by rw [i3]; exact ft.f1)
        refine ⟨_, rfl, .inl ⟨rfl, _, SqL.of eo4⟩, _, rfl, c, _, _, rfl, h4.ins, fl_no (by decide +kernel), c, A, s', rfl, h4, ⟨i1, i2, by have := ft.ml; omega, fun m hm => by have := i6 m hm; omega, by have := ft.pl; omega⟩, hne, fun p H5 t5 x5 h5 np ep dp => ?_⟩
        have eo5 := x5.lst eo4 noo
        have lus : us.length = rows.length := by rw [dpa_len du, List.length_map]
        refine ⟨o, p, us, [.ref t5], rfl, rfl, eo5, ep, sz (by show _ + 1 ≤ _; omega), ?_⟩
        have xo : Sx T [o] H5 (upd H5 o (.lst (us ++ [.ref t5]))) := sx_upd eo5 rfl List.mem_cons_self
        have h6 := h5.sx xo fun y hy z => noo (by rw [← List.mem_singleton.mp z]; exact hy)
        refine ⟨_, by omega, turnS s', rows ++ [rowS s'], us ++ [.ref t5], rfl, .step t hne hl, ?_, h6, rfl, upd_same, ?_⟩
        · refine ((x3.sm' ut).step x5).trans xo fun y hy => .inr ?_
          rw [List.mem_singleton.mp hy]
          exact no
        · rw [List.map_append]
          exact xo.dps 3 _ _ (by rw [List.all_append, noL_rows, Bool.true_and]; rfl) (dpa_app (x5.dps 3 _ _ (noL_rows _) (dpa_same ut _ _ du)) (.cons dp .nil))
      · rw [decide_eq_false (fun z => hl (am_inj (z.trans (am_int _).symm)))]
        exact iteF ⟨_, rfl, fin _ ut fun _ => hl⟩

def wOk (q : Am) : Bool := (decide (1 ≤ q.1) && decide (q.1 ≤ 9)) && (decide (1 ≤ q.2) && decide (q.2 ≤ 9))
def wayB (qs : List Am) : Bool := (decide (1 ≤ qs.length) && decide (qs.length ≤ 6)) && qs.all wOk
def labourM (qs : List Am) : Int := (qs.map fun (q : Int × Int) => q.1 * q.2).sum
def stepsM (qs : List Am) : Int := (qs.map fun (q : Int × Int) => q.1).sum
theorem wOk_b {q : Am} (h : wOk q = true) : 1 ≤ q.1 ∧ q.1 ≤ 9 ∧ 1 ≤ q.2 ∧ q.2 ≤ 9 := by
  unfold wOk at h
  simp only [Bool.and_eq_true, decide_eq_true_eq] at h
  exact ⟨h.1.1, h.1.2, h.2.1, h.2.2⟩
theorem wayB_b {qs : List Am} (h : wayB qs = true) : 1 ≤ qs.length ∧ qs.length ≤ 6 ∧ ∀ q ∈ qs, 1 ≤ q.1 ∧ q.1 ≤ 9 ∧ 1 ≤ q.2 ∧ q.2 ≤ 9 := by
  unfold wayB at h
  simp only [Bool.and_eq_true, decide_eq_true_eq, List.all_eq_true] at h
  exact ⟨h.1.1, h.1.2, fun q hq => wOk_b (h.2 q hq)⟩
theorem sum_bd {c : Int} (hc : 0 ≤ c) : ∀ (l : List Int), (∀ z ∈ l, 0 ≤ z ∧ z ≤ c) → 0 ≤ l.sum ∧ l.sum ≤ c * (l.length : Int)
  | [], _ => by simp
  | z :: l, h => by
    have i := sum_bd hc l fun y hy => h y (List.mem_cons_of_mem _ hy)
    have j := h z List.mem_cons_self
    rw [List.sum_cons, List.length_cons]
    have e : c * ((l.length + 1 : Nat) : Int) = c * (l.length : Int) + c := by rw [Int.natCast_add, Int.mul_add]; simp
    rw [e]
    omega
theorem long_of {l : List Int} (h : ∀ z ∈ l, 0 ≤ z ∧ z ≤ 81) (hl : l.length ≤ 6) : ∀ j, j < l.length → InLong (l.getD j 0) ∧ InLong ((l.take (j + 1)).sum) := fun j hj => by
  constructor
  · rw [List.getD_eq_getElem?_getD, List.getElem?_eq_getElem hj]
    have := h _ (List.getElem_mem hj)
    show -(2 ^ 63) ≤ l[j] ∧ l[j] < 2 ^ 63
    omega
  · have s := sum_bd (c := 81) (by decide) (l.take (j + 1)) fun z hz => h z (List.mem_of_mem_take hz)
    have : ((l.take (j + 1)).length : Int) ≤ 6 := by rw [List.length_take]; omega
    show -(2 ^ 63) ≤ (l.take (j + 1)).sum ∧ (l.take (j + 1)).sum < 2 ^ 63
    omega
theorem pairs_of {K : PySem.W.Frag} {H : Hp} {a : Addr} {vs : List V} {qs : List Am} (hS : SqL K H a vs) (hd : DpAll K H vs (qs.map amD)) : Pairs K H a qs := by
  refine ⟨vs, hS, ?_, fun i p e => ?_⟩
  · rw [dpa_len hd, List.length_map]
  · obtain ⟨v, e1, e2⟩ := dpa_get hd (i := i) (d := amD p) (by rw [List.getElem?_map, e]; rfl)
    obtain ⟨b, rfl, hb⟩ := pd_at e2
    exact ⟨b, e1, hb⟩
def sp_p_is_stretch (K : PySem.W.Frag) (T : Tb) : Sp := fun vs H Q _ => ∃ b q, vs = [.ref b] ∧ SqT K H b (tv q) ∧ Ok T H ∧ ∀ H', Sm T H H' → Q (.bl (wOk q)) H'
theorem ok_p_is_stretch {f : Addr} {fd : FuncData} {u_MOST_STEPS_OR_TOIL : Value} {c PT : Addr} (F : FunC K "is_stretch" "is_stretch" s_p_is_stretch f fd c) (hnT : (T.map (·.1)).Nodup) (hPT : (PT, (none : Option Str)) ∈ T) (TB : GxR.TabB base mg c PT) (B : Bn mg) (C_MOST_STEPS_OR_TOIL : RelV (.int 9) u_MOST_STEPS_OR_TOIL ∧ mg "MOST_STEPS_OR_TOIL" = some u_MOST_STEPS_OR_TOIL) {fW fN : Addr} (Wt : WithAt K fW) (kW : PySem.W.keepIn K (.ref fW) = true) (gW : mg "is_within" = some (.ref fW)) (N : NumAt K fN) (kN : PySem.W.keepIn K (.ref fN) = true) (gN : mg "is_number" = some (.ref fN)) : FnOk P w K mg base CX0 1 f fd ["thing"] (sp_p_is_stretch K T) := by
  obtain ⟨⟨tM, rfl⟩, gM⟩ := C_MOST_STEPS_OR_TOIL
  refine F.ok sc_p_is_stretch (fun vs H Q E h => ?_) (fun A outer s H vs Q E hr h => ?_)
  · obtain ⟨b, q, rfl, _⟩ := h
    rfl
  · obtain ⟨b, q, rfl, hS, hok, k⟩ := h
    refine ⟨_, (pss_cons (ps_if (PW.pt (pw_or (pt_not (pt_val (pe_callB call_isi (by rfl) B.isinstance_ (by decide +kernel) (pa_cons (pv 0) (pa_cons (pe_bltn (v := .ty "tuple") (by rfl) B.tuple_ (by decide +kernel) rfl) pa_nil))))) (pw_or1 (pt_cmpR op_ne (pe_callB call_len_seq (by rfl) B.len_ (by decide +kernel) (pa_cons (pv 0) pa_nil)) pe_int (nomark _))))) (pss_one (ps_ret pe_bl)) pss_nil)
      (pss_one (ps_ret (pe_allI hnT hPT hr (by rfl) B.all_ (by decide +kernel) TB rfl (gens_by (by decide +kernel)) (pv 0) (elt_num hr Wt kW gW N kN gN gM rfl B.isinstance_ B.int_ B.bool_ rfl rfl rfl rfl) (fun _ => rfl))))), ?_⟩
    refine ⟨_, rfl, _, _, _, _, true, rfl, .ty "tuple", tyx_of (amD_dp hS), kit_ty kb_tuple_tuple, _, rfl, iteF ?_⟩
    refine ⟨_, rfl, b, _, rfl, .inr hS, rfl, _, rfl, iteF ?_⟩
    refine ⟨_, rfl, b, [q.1, q.2], rfl, hS, hok _ hPT, hok, fun H2 s2 => ?_⟩
    have e : ([q.1, q.2].all fun i => decide (1 ≤ i) && decide (i ≤ 9)) = wOk q := by
      unfold wOk
      rw [List.all_cons, List.all_cons, List.all_nil, Bool.and_true]
    rw [e]
    exact k H2 s2
def sp_p_check_way (K : PySem.W.Frag) (T : Tb) (CP : Addr) : Sp := fun vs H Q E => ∃ a us qs, vs = [.ref a] ∧ SqL K H a us ∧ DpAll K H us (qs.map amD) ∧ qs.length ≤ 1000 ∧ Ok T H ∧ (wayB qs = true → ∀ H', Sm T H H' → Q .non H') ∧
  (wayB qs = false → ∀ cls d H', Sm T H H' → Rf K CP "bad way" cls d H' → E cls d H')
theorem ok_p_check_way {f : Addr} {fd : FuncData} {u_MOST_STRETCHES : Value} (F : Fun K "check_way" "check_way" s_p_check_way f fd) (B : Bn mg) (C_MOST_STRETCHES : RelV (.int 6) u_MOST_STRETCHES ∧ mg "MOST_STRETCHES" = some u_MOST_STRETCHES) {CP : Addr} (R_BadWay : Err P w K mg base CP "BadWay" "bad way") (F_p_is_stretch : Fn P w K mg base 1 "is_stretch" ["thing"] (sp_p_is_stretch K T)) : FnOk P w K mg base (L2.CX P w) 4 f fd ["way"] (sp_p_check_way K T CP) := by
  refine F.okX sc_p_check_way (fun vs H Q E h => ?_) (fun cdv A outer s H vs Q E hr h => ?_)
  · obtain ⟨a, us, qs, rfl, _⟩ := h
    rfl
  · obtain ⟨a, us, qs, rfl, hS, hd, hl, hok, k1, k2⟩ := h
    obtain ⟨⟨tM, rfl⟩, gM⟩ := id C_MOST_STRETCHES
    refine ⟨_, (pss_cons (ps_if (pt_not (pt_chain op_le op_le pe_int (pe_callB call_len_seq (by rfl) B.len_ (by decide +kernel) (pa_cons (pv 0) pa_nil)) (pe_glob (by rfl) C_MOST_STRETCHES.2 C_MOST_STRETCHES.1))) (pss_one (ps_raise rfl (takes_of rfl rfl rfl rfl) (pmk_err R_BadWay (hr.mono (by decide)) (by rfl)))) pss_nil)
      (pss_one (ps_for (passes_of rfl) rfl (pi_list (pv 0)) (pg_name (i := 1) sc_p_check_way.nd rfl (.inl rfl))
      (pss_one (ps_if (pt_not (pt_val (pe_fn F_p_is_stretch (hr.mono (by decide)) (pa_cons (pv 1) pa_nil)))) (pss_one (ps_raise rfl (takes_of rfl rfl rfl rfl) (pmk_err R_BadWay (hr.mono (by decide)) (by rfl)))) pss_nil))))), ?_⟩
    have el : us.length = qs.length := by rw [dpa_len hd, List.length_map]
    have bad : wayB qs = false → ∀ (H1 : Hp), Sm T H H1 → tErr K CP "bad way" [] H1 (fun cls d H' => E cls d H') := fun hb H1 s1 cls dd hn rf => k2 hb cls (some dd) _ (s1.trans (same_upd hn)) rf
    refine ⟨_, rfl, a, us, rfl, .inl hS, _, _, rfl, rfl, _, rfl, ?_⟩
    by_cases h1 : (1 : Int) ≤ (us.length : Int)
    · rw [decide_eq_true h1]
      refine iteT ?_
      refine ⟨_, _, rfl, rfl, _, rfl, ?_⟩
      by_cases h2 : (us.length : Int) ≤ 6
      · rw [decide_eq_true h2]
        refine iteF ?_
        refine ⟨_, rfl, a, rfl, ⟨_, hS⟩, for_list (K := K) (a := a) (xs := us) (fun i σ H3 => Sm T H H3 ∧ (qs.take i).all wOk = true ∧ ∃ x, σ = [some (.ref a), x]) ⟨Sm.refl, by rw [List.take_zero]; rfl, _, rfl⟩ (fun i σ H3 _ ⟨s3, _⟩ => s3.seq hS) ?_ ?_⟩
        · rintro i v σ H3 hi ⟨s3, ha, x, rfl⟩
          have hil : i < qs.length := by rw [← el]; exact (List.getElem?_eq_some_iff.mp hi).1
          obtain ⟨v', e1, e2⟩ := dpa_get hd (i := i) (d := amD qs[i]) (by rw [List.getElem?_map, List.getElem?_eq_getElem hil]; rfl)
          rw [hi] at e1
          cases e1
          obtain ⟨b, rfl, hb⟩ := pd_at e2
          refine ⟨_, rfl, b, qs[i], rfl, same_tup s3 hb, s3.ok hok, fun H4 s4 => ⟨_, rfl, ?_⟩⟩
          cases hw : wOk qs[i] with
          | true =>
            refine iteF ?_
            refine ⟨s3.trans s4, ?_, _, rfl⟩
            rw [List.take_add_one, List.all_append, ha, List.getElem?_eq_getElem hil]
            show (true && ([qs[i]].all wOk)) = true
            rw [List.all_cons, hw]
            rfl
          | false =>
            refine iteT ?_
            refine bad ?_ H4 (s3.trans s4)
            unfold wayB
            rw [Bool.and_eq_false_iff]
            refine .inr ?_
            rw [List.all_eq_false]
            exact ⟨_, List.getElem_mem hil, by rw [hw]; decide⟩
        · rintro σ H3 ⟨s3, ha, x, rfl⟩
          refine k1 ?_ H3 s3
          rw [el, List.take_length] at ha
          unfold wayB
          rw [ha, Bool.and_true, Bool.and_eq_true]
          exact ⟨decide_eq_true (by omega), decide_eq_true (by omega)⟩
      · rw [decide_eq_false h2]
        refine iteT ?_
        refine bad ?_ H Sm.refl
        unfold wayB
        rw [Bool.and_eq_false_iff, Bool.and_eq_false_iff]
        exact .inl (.inr (decide_eq_false (by omega)))
    · rw [decide_eq_false h1]
      refine iteF ?_
      refine ⟨_, rfl, iteT ?_⟩
      refine bad ?_ H Sm.refl
      unfold wayB
      rw [Bool.and_eq_false_iff, Bool.and_eq_false_iff]
      exact .inl (.inl (decide_eq_false (by omega)))
def sp_p_labour (K : PySem.W.Frag) (T : Tb) (CP : Addr) : Sp := fun vs H Q E => ∃ a us qs, vs = [.ref a] ∧ SqL K H a us ∧ DpAll K H us (qs.map amD) ∧ qs.length ≤ 1000 ∧ Ok T H ∧ (wayB qs = true → ∀ H', Sm T H H' → Q (.int (labourM qs)) H') ∧
  (wayB qs = false → ∀ cls d H', Sm T H H' → Rf K CP "bad way" cls d H' → E cls d H')
theorem ok_p_labour {f : Addr} {fd : FuncData} {c PT : Addr} (F : FunC K "labour" "labour" s_p_labour f fd c) (hnT : (T.map (·.1)).Nodup) (hPT : (PT, (none : Option Str)) ∈ T) (TB : GxR.TabB base mg c PT) (B : Bn mg) {CP : Addr} (F_p_check_way : Fx P w K mg base 4 "check_way" ["way"] (sp_p_check_way K T CP)) : FnOk P w K mg base (L2.CX P w) 5 f fd ["way"] (sp_p_labour K T CP) := by
  refine F.okX sc_p_labour (fun vs H Q E h => ?_) (fun A outer s H vs Q E hr h => ?_)
  · obtain ⟨a, us, qs, rfl, _⟩ := h
    rfl
  · obtain ⟨a, us, qs, rfl, hS, hd, hl, hok, k1, k2⟩ := h
    refine ⟨_, (pss_cons (ps_expr (pe_fx F_p_check_way (hr.mono (by decide)) (takes_of rfl rfl rfl rfl) (pa_cons (pv 0) pa_nil)))
      (pss_one (ps_ret (pe_sumP hnT hPT hr (by rfl) B.sum_ (by decide +kernel) TB rfl (gens_by (by decide +kernel)) rfl (by decide) (pv 0) (elt_mul rfl rfl rfl) (fun _ => rfl))))), ?_⟩
    refine ⟨_, rfl, a, us, qs, rfl, hS, hd, hl, hok, fun hw H1 s1 => ?_, k2⟩
    have hb := wayB_b hw
    refine ⟨_, rfl, a, qs, rfl, (pairs_of hS hd).keep s1, fun q hq => by have := hb.2.2 q hq; omega, s1.ok hok _ hPT, ⟨s1.ok hok, ?_⟩, fun H2 s2 => k1 hw H2 (s1.trans s2)⟩
    have := long_of (l := qs.map fun (q : Int × Int) => q.1 * q.2) (fun z hz => ?_) (by rw [List.length_map]; exact hb.2.1)
    · rw [List.length_map] at this
      exact this
    · obtain ⟨q, hq, rfl⟩ := List.mem_map.mp hz
      have c := hb.2.2 q hq
      exact ⟨Int.mul_nonneg (by omega) (by omega), (Int.mul_le_mul c.2.1 c.2.2.2 (by omega) (by omega) : q.1 * q.2 ≤ 9 * 9)⟩

theorem pairs_ofT {K : PySem.W.Frag} {H : Hp} {a : Addr} {vs : List V} {qs : List Am} (hS : SqT K H a vs) (hd : DpAll K H vs (qs.map amD)) : PairsT K H a qs := by
  refine ⟨vs, hS, by rw [dpa_len hd, List.length_map], fun i p e => ?_⟩
  obtain ⟨v, e1, e2⟩ := dpa_get hd (i := i) (d := amD p) (by rw [List.getElem?_map, e]; rfl)
  obtain ⟨b, rfl, hb⟩ := pd_at e2
  exact ⟨b, e1, hb⟩
def sp_p_check_way_t (K : PySem.W.Frag) (T : Tb) (CP : Addr) : Sp := fun vs H Q E => ∃ a us qs, vs = [.ref a] ∧ SqT K H a us ∧ DpAll K H us (qs.map amD) ∧ qs.length ≤ 1000 ∧ Ok T H ∧ (wayB qs = true → ∀ H', Sm T H H' → Q .non H') ∧
  (wayB qs = false → ∀ cls d H', Sm T H H' → Rf K CP "bad way" cls d H' → E cls d H')
theorem ok_p_check_way_t {f : Addr} {fd : FuncData} {u_MOST_STRETCHES : Value} (F : Fun K "check_way" "check_way" s_p_check_way_t f fd) (B : Bn mg) (C_MOST_STRETCHES : RelV (.int 6) u_MOST_STRETCHES ∧ mg "MOST_STRETCHES" = some u_MOST_STRETCHES) {CP : Addr} (R_BadWay : Err P w K mg base CP "BadWay" "bad way") (F_p_is_stretch : Fn P w K mg base 1 "is_stretch" ["thing"] (sp_p_is_stretch K T)) : FnOk P w K mg base (L2.CX P w) 4 f fd ["way"] (sp_p_check_way_t K T CP) := by
  refine F.okX sc_p_check_way_t (fun vs H Q E h => ?_) (fun cdv A outer s H vs Q E hr h => ?_)
  · obtain ⟨a, us, qs, rfl, _⟩ := h
    rfl
  · obtain ⟨a, us, qs, rfl, hS, hd, hl, hok, k1, k2⟩ := h
    obtain ⟨⟨tM, rfl⟩, gM⟩ := id C_MOST_STRETCHES
    refine ⟨_, (pss_cons (ps_if (pt_not (pt_chain op_le op_le pe_int (pe_callB call_len_seq (by rfl) B.len_ (by decide +kernel) (pa_cons (pv 0) pa_nil)) (pe_glob (by rfl) C_MOST_STRETCHES.2 C_MOST_STRETCHES.1))) (pss_one (ps_raise rfl (takes_of rfl rfl rfl rfl) (pmk_err R_BadWay (hr.mono (by decide)) (by rfl)))) pss_nil)
      (pss_one (ps_for (passes_of rfl) rfl (pi_tup (pv 0)) (pg_name (i := 1) sc_p_check_way_t.nd rfl (.inl rfl))
      (pss_one (ps_if (pt_not (pt_val (pe_fn F_p_is_stretch (hr.mono (by decide)) (pa_cons (pv 1) pa_nil)))) (pss_one (ps_raise rfl (takes_of rfl rfl rfl rfl) (pmk_err R_BadWay (hr.mono (by decide)) (by rfl)))) pss_nil))))), ?_⟩
    have el : us.length = qs.length := by rw [dpa_len hd, List.length_map]
    have bad : wayB qs = false → ∀ (H1 : Hp), Sm T H H1 → tErr K CP "bad way" [] H1 (fun cls d H' => E cls d H') := fun hb H1 s1 cls dd hn rf => k2 hb cls (some dd) _ (s1.trans (same_upd hn)) rf
    refine ⟨_, rfl, a, us, rfl, .inr hS, _, _, rfl, rfl, _, rfl, ?_⟩
    by_cases h1 : (1 : Int) ≤ (us.length : Int)
    · rw [decide_eq_true h1]
      refine iteT ?_
      refine ⟨_, _, rfl, rfl, _, rfl, ?_⟩
      by_cases h2 : (us.length : Int) ≤ 6
      · rw [decide_eq_true h2]
        refine iteF ?_
        refine ⟨_, rfl, a, rfl, ⟨_, hS⟩, for_it (walk_tup (K := K) (a := a) (xs := us)) (fun i σ H3 => Sm T H H3 ∧ (qs.take i).all wOk = true ∧ ∃ x, σ = [some (.ref a), x]) ⟨Sm.refl, by rw [List.take_zero]; rfl, _, rfl⟩ (fun i σ H3 _ ⟨s3, _⟩ => same_tup s3 hS) ?_ ?_⟩
        · rintro i v σ H2' H3 hi' ⟨s3, ha, x, rfl⟩ ⟨eH, hi⟩
          subst eH
          have hil : i < qs.length := by rw [← el]; exact (List.getElem?_eq_some_iff.mp hi).1
          obtain ⟨v', e1, e2⟩ := dpa_get hd (i := i) (d := amD qs[i]) (by rw [List.getElem?_map, List.getElem?_eq_getElem hil]; rfl)
          rw [hi] at e1
          cases e1
          obtain ⟨b, rfl, hb⟩ := pd_at e2
          refine ⟨_, rfl, b, qs[i], rfl, same_tup s3 hb, s3.ok hok, fun H4 s4 => ⟨_, rfl, ?_⟩⟩
          cases hw : wOk qs[i] with
          | true =>
            refine iteF ?_
            refine ⟨s3.trans s4, ?_, _, rfl⟩
            rw [List.take_add_one, List.all_append, ha, List.getElem?_eq_getElem hil]
            show (true && ([qs[i]].all wOk)) = true
            rw [List.all_cons, hw]
            rfl
          | false =>
            refine iteT ?_
            refine bad ?_ H4 (s3.trans s4)
            unfold wayB
            rw [Bool.and_eq_false_iff]
            refine .inr ?_
            rw [List.all_eq_false]
            exact ⟨_, List.getElem_mem hil, by rw [hw]; decide⟩
        · rintro σ H3 ⟨s3, ha, x, rfl⟩
          refine k1 ?_ H3 s3
          rw [el, List.take_length] at ha
          unfold wayB
          rw [ha, Bool.and_true, Bool.and_eq_true]
          exact ⟨decide_eq_true (by omega), decide_eq_true (by omega)⟩
      · rw [decide_eq_false h2]
        refine iteT ?_
        refine bad ?_ H Sm.refl
        unfold wayB
        rw [Bool.and_eq_false_iff, Bool.and_eq_false_iff]
        exact .inl (.inr (decide_eq_false (by omega)))
    · rw [decide_eq_false h1]
      refine iteF ?_
      refine ⟨_, rfl, iteT ?_⟩
      refine bad ?_ H Sm.refl
      unfold wayB
      rw [Bool.and_eq_false_iff, Bool.and_eq_false_iff]
      exact .inl (.inl (decide_eq_false (by omega)))
def sp_p_labour_t (K : PySem.W.Frag) (T : Tb) (CP : Addr) : Sp := fun vs H Q E => ∃ a us qs, vs = [.ref a] ∧ SqT K H a us ∧ DpAll K H us (qs.map amD) ∧ qs.length ≤ 1000 ∧ Ok T H ∧ (wayB qs = true → ∀ H', Sm T H H' → Q (.int (labourM qs)) H') ∧
  (wayB qs = false → ∀ cls d H', Sm T H H' → Rf K CP "bad way" cls d H' → E cls d H')
theorem ok_p_labour_t {f : Addr} {fd : FuncData} {c PT : Addr} (F : FunC K "labour" "labour" s_p_labour_t f fd c) (hnT : (T.map (·.1)).Nodup) (hPT : (PT, (none : Option Str)) ∈ T) (TB : GxR.TabB base mg c PT) (B : Bn mg) {CP : Addr} (F_p_check_way_t : Fx P w K mg base 4 "check_way" ["way"] (sp_p_check_way_t K T CP)) : FnOk P w K mg base (L2.CX P w) 5 f fd ["way"] (sp_p_labour_t K T CP) := by
  refine F.okX sc_p_labour_t (fun vs H Q E h => ?_) (fun A outer s H vs Q E hr h => ?_)
  · obtain ⟨a, us, qs, rfl, _⟩ := h
    rfl
  · obtain ⟨a, us, qs, rfl, hS, hd, hl, hok, k1, k2⟩ := h
    refine ⟨_, (pss_cons (ps_expr (pe_fx F_p_check_way_t (hr.mono (by decide)) (takes_of rfl rfl rfl rfl) (pa_cons (pv 0) pa_nil)))
      (pss_one (ps_ret (pe_sumPT hnT hPT hr (by rfl) B.sum_ (by decide +kernel) TB rfl (gens_by (by decide +kernel)) rfl (by decide) (pv 0) (elt_mul rfl rfl rfl) (fun _ => rfl))))), ?_⟩
    refine ⟨_, rfl, a, us, qs, rfl, hS, hd, hl, hok, fun hw H1 s1 => ?_, k2⟩
    have hb := wayB_b hw
    refine ⟨_, rfl, a, qs, rfl, (pairs_ofT hS hd).keep s1, fun q hq => by have := hb.2.2 q hq; omega, s1.ok hok _ hPT, ⟨s1.ok hok, ?_⟩, fun H2 s2 => k1 hw H2 (s1.trans s2)⟩
    have := long_of (l := qs.map fun (q : Int × Int) => q.1 * q.2) (fun z hz => ?_) (by rw [List.length_map]; exact hb.2.1)
    · rw [List.length_map] at this
      exact this
    · obtain ⟨q, hq, rfl⟩ := List.mem_map.mp hz
      have c := hb.2.2 q hq
      exact ⟨Int.mul_nonneg (by omega) (by omega), (Int.mul_le_mul c.2.1 c.2.2.2 (by omega) (by omega) : q.1 * q.2 ≤ 9 * 9)⟩

def newS (L : Int) (qs : List Am) : Ch := { fire := L, way := qs, now := 0, row := [], loads := [], spots := [], tempos := [], leaving := [], ledgers := [], marks := [], poured := [] }

def sp_init (sq : PySem.W.Frag → Hp → Addr → List V → Prop) (K : PySem.W.Frag) (T : Tb) (CP CC : Addr) : Sp := fun vs H Q E => ∃ (H0 : Hp) (c dx a : Addr) (us : List V) (qs : List Am), vs = [.ref c, .ref a] ∧ H = upd (upd H0 dx (.own c)) c (.ins CC dx []) ∧ H0 c = none ∧ H0 dx = none ∧ dx ≠ c ∧ sq K H0 a us ∧ DpAll K H0 us (qs.map amD) ∧ qs.length ≤ 1000 ∧ Ok T H0 ∧
  (wayB qs = true → ∀ H' A, Sm T H0 H' → ChAt K CC H' c A (newS (labourM qs) qs) → (∀ x ∈ ownC c A, H0 x = none) → Q .non H') ∧ (wayB qs = false → ∀ cls d H', Sm T H0 H' → Rf K CP "bad way" cls d H' → E cls d H')
abbrev sp_p_Chain___init__ : PySem.W.Frag → Tb → Addr → Addr → Sp := sp_init SqL
abbrev sp_p_Chain___init___t : PySem.W.Frag → Tb → Addr → Addr → Sp := sp_init SqT
/-- an instance that is being made -/
structure Mkg (T : Tb) (CC : Addr) (H0 H : Hp) (c dx : Addr) (fs : List (Str × V)) (L : List (Addr × HO)) : Prop where
  sm : Sm T H0 H
  ins : H c = some (.ins CC dx fs)
  own : H dx = some (.own c)
  at_ : ∀ x ∈ L, H x.1 = some x.2 ∧ H0 x.1 = none
  nd : (c :: L.map (·.1)).Nodup
theorem Mkg.val {T : Tb} {CC : Addr} {H0 H : Hp} {c dx : Addr} {fs : List (Str × V)} {L : List (Addr × HO)} (m : Mkg T CC H0 H c dx fs L) (nc : H0 c = none) (hd : dx ≠ c) (f : Str) (y : V) : Mkg T CC H0 (upd H c (.ins CC dx (putF f y fs))) c dx (putF f y fs) L := by
  refine ⟨⟨fun b o e n => ?_, fun hk q hq' => okP_mut2 (m.sm.ok hk q hq') m.ins rfl, fun l hl => ?_⟩, upd_same, by rw [upd_ne hd]; exact m.own, fun x hx => ?_, m.nd⟩
  · rw [upd_ne (fun z => by rw [z, nc] at e; cases e)]
    exact m.sm.keep b o e n
  · by_cases z : l = c
    · rw [z]; exact nc
    · rw [upd_ne z] at hl; exact m.sm.free l hl
  · have h := m.at_ x hx
    have hn : x.1 ≠ c := fun z => (List.nodup_cons.mp m.nd).1 (by rw [← z]; exact List.mem_map.mpr ⟨x, hx, rfl⟩)
    rw [upd_ne hn]
    exact h
theorem Mkg.sm' {T : Tb} {CC : Addr} {H0 H H' : Hp} {c dx : Addr} {fs : List (Str × V)} {L : List (Addr × HO)} (m : Mkg T CC H0 H c dx fs L) (s : Sm T H H') (hL : ∀ x ∈ L, nTbl x.2) : Mkg T CC H0 H' c dx fs L :=
  ⟨m.sm.trans s, s.k m.ins, s.k m.own, fun x hx => ⟨s.keep _ _ (m.at_ x hx).1 (hL x hx), (m.at_ x hx).2⟩, m.nd⟩
theorem Mkg.new {T : Tb} {CC : Addr} {H0 H : Hp} {c dx : Addr} {fs : List (Str × V)} {L : List (Addr × HO)} (m : Mkg T CC H0 H c dx fs L) (nc : H0 c = none) (hd : dx ≠ c) (f : Str) {p : Addr} {o : HO} (np : H p = none) (hL : ∀ x ∈ L, nTbl x.2) :
    Mkg T CC H0 (upd (upd H p o) c (.ins CC dx (putF f (.ref p) fs))) c dx (putF f (.ref p) fs) ((p, o) :: L) := by
  have u := same_upd (T := T) (o := o) np
  have m1 := m.sm' u hL
  have m2 : Mkg T CC H0 (upd H p o) c dx fs ((p, o) :: L) := by
    refine ⟨m1.sm, m1.ins, m1.own, fun x hx => ?_, ?_⟩
    · rcases List.mem_cons.mp hx with z | z
      · rw [z]; exact ⟨upd_same, m.sm.free _ np⟩
      · exact m1.at_ x z
    · rw [List.map_cons]
      have hpc : p ≠ c := fun z => by rw [z, m.ins] at np; cases np
      have hpL : p ∉ L.map (·.1) := fun z => by
        obtain ⟨x, hx, e⟩ := List.mem_map.mp z
        have := (m.at_ x hx).1
        rw [e, np] at this
        cases this
      have nd := List.nodup_cons.mp m.nd
      exact List.nodup_cons.mpr ⟨fun z => (List.mem_cons.mp z).elim (fun e => hpc e.symm) nd.1, List.nodup_cons.mpr ⟨hpL, nd.2⟩⟩
  exact m2.val nc hd f (.ref p)
theorem nt1 {L : List (Addr × HO)} (h : L.all (fun x => mutO x.2) = true) : ∀ x ∈ L, nTbl x.2 := fun x hx => by
  have := List.all_eq_true.mp h x hx
  cases e : x.2 <;> rw [e] at this <;> first | trivial | cases this
theorem nd_perm {l l' : List Addr} (h : l.Nodup) (p : l.Perm l') : l'.Nodup := p.nodup_iff.mp h
theorem ok_p_Chain___init__ {f : Addr} {fd : FuncData} {a_NOUGHT : Addr} (F : Fun K "__init__" "Chain.__init__" s_p_Chain___init__ f fd) (B : Bn mg) (g_NOUGHT : mg "NOUGHT" = some (.ref a_NOUGHT)) (s_NOUGHT : ∀ H, SqT K H a_NOUGHT [.int 0, .int 1]) {CP : Addr} {CC : Addr} (TC : Kl K CC) (F_p_labour : Fx P w K mg base 5 "labour" ["way"] (sp_p_labour K T CP)) : FnOk P w K mg base (L2.CX P w) 6 f fd ["self", "way"] (sp_p_Chain___init__ K T CP CC) := by
  refine F.okX sc_p_Chain___init__ (fun vs H Q E h => ?_) (fun cdv A outer s H vs Q E hr h => ?_)
  · obtain ⟨H0, c, dx, a, us, qs, rfl, _⟩ := h
    rfl
  · obtain ⟨H0, c, dx, a, us, qs, rfl, rfl, nc, nd, ncd, ha, hd, hq, hok, k1, k2⟩ := h
    refine ⟨_, (pss_cons (ps_fc TC.cl (TC.no "fire" (by decide +kernel)) (pv 0) (pe_fx F_p_labour (hr.mono (by decide)) (takes_of rfl rfl rfl rfl) (pa_cons (pv 1) pa_nil)))
      (pss_cons (ps_fc TC.cl (TC.no "stretches" (by decide +kernel)) (pv 0) (pe_callTy call_tuple_of (by rfl) B.tuple_ (by decide +kernel) (pa_cons (pv 1) pa_nil)))
      (pss_cons (ps_fc TC.cl (TC.no "now" (by decide +kernel)) (pv 0) (pe_glob (v := .ref a_NOUGHT) (by rfl) g_NOUGHT rfl))
      (pss_cons (ps_fc TC.cl (TC.no "row" (by decide +kernel)) (pv 0) (pe_lst pa_nil))
      (pss_cons (ps_fc TC.cl (TC.no "loads" (by decide +kernel)) (pv 0) (pe_lst pa_nil))
      (pss_cons (ps_fc TC.cl (TC.no "spots" (by decide +kernel)) (pv 0) (pe_lst pa_nil))
      (pss_cons (ps_fc TC.cl (TC.no "tempos" (by decide +kernel)) (pv 0) pe_dnewK)
      (pss_cons (ps_fc TC.cl (TC.no "leaving" (by decide +kernel)) (pv 0) (pe_lst pa_nil))
      (pss_cons (ps_fc TC.cl (TC.no "ledgers" (by decide +kernel)) (pv 0) pe_dnewK)
      (pss_cons (ps_fc TC.cl (TC.no "marks" (by decide +kernel)) (pv 0) (pe_lst pa_nil))
      (pss_one (ps_fc TC.cl (TC.no "poured" (by decide +kernel)) (pv 0) (pe_lst pa_nil))))))))))))), ?_⟩
    have v1 := same_upd (T := T) (o := .own c) nd
    have nc1 : upd H0 dx (.own c) c = none := by rw [upd_ne (Ne.symm ncd)]; exact nc
    have v2 := same_upd (T := T) (o := .ins CC dx []) nc1
    have s00 := v1.trans v2
    refine ⟨_, rfl, a, us, qs, rfl, Sm.seq s00 ha, dpa_same s00 _ _ hd, hq, s00.ok hok, fun hw H1 s1 => ?_, fun hw cls d H' s' rf => k2 hw cls d H' (s00.trans s') rf⟩
    have m0 : Mkg T CC H0 H1 c dx [] [] := ⟨s00.trans s1, s1.k (b := c) (o := .ins CC dx []) upd_same, (v2.trans s1).k (b := dx) (o := .own c) upd_same, (fun _ h => nomatch h), by simp⟩
    refine ⟨_, rfl, c, _, _, rfl, m0.ins, by show 0 < 1000; decide, ?_⟩
    have m1 := m0.val nc ncd "fire" (.int (labourM qs))
    generalize upd H1 c (.ins CC dx (putF "fire" (.int (labourM qs)) [])) = H2 at *
    refine ⟨_, rfl, a, us, rfl, .inl ⟨m1.sm.seq ha, fun pst nst => ?_⟩⟩
    have u2 := same_upd (T := T) (o := .tup us) nst
    have m2 := m1.sm' u2 (fun _ h => nomatch h)
    refine ⟨_, rfl, c, _, _, rfl, m2.ins, by show 1 < 1000; decide, ?_⟩
    have hst : SqT K (upd H2 pst (.tup us)) pst us := SqT.of upd_same
    have m3 := m2.val nc ncd "stretches" (.ref pst)
    have x3 : Sx [] [c] (upd H2 pst (.tup us)) _ := sx_upd (o := .ins CC dx (putF "stretches" (.ref pst) (putF "fire" (.int (labourM qs)) []))) m2.ins rfl List.mem_cons_self
    have hst3 := x3.tup hst
    generalize upd (upd H2 pst (.tup us)) c (.ins CC dx (putF "stretches" (.ref pst) (putF "fire" (.int (labourM qs)) []))) = H3 at *
    refine ⟨_, rfl, c, _, _, rfl, m3.ins, by show 2 < 1000; decide, ?_⟩
    have m4 := m3.val nc ncd "now" (.ref a_NOUGHT)
    have x4 : Sx [] [c] H3 _ := sx_upd (o := .ins CC dx (putF "now" (.ref a_NOUGHT) (putF "stretches" (.ref pst) (putF "fire" (.int (labourM qs)) [])))) m3.ins rfl List.mem_cons_self
    have hst4 := x4.tup hst3
    generalize upd H3 c (.ins CC dx (putF "now" (.ref a_NOUGHT) (putF "stretches" (.ref pst) (putF "fire" (.int (labourM qs)) [])))) = H4 at *
    refine ⟨Nat.zero_le _, fun prw nprw => ?_⟩
    have u4 := same_upd (T := T) (o := .lst []) nprw
    have w4 := m4.sm' u4 (nt1 rfl)
    refine ⟨_, rfl, c, _, _, rfl, w4.ins, by show 3 < 1000; decide, ?_⟩
    have m5 := m4.new nc ncd "row" (o := .lst []) nprw (nt1 rfl)
    have hst5 := (sx_upd (T := []) (S := [c]) (o := .ins CC dx (putF "row" (.ref prw) (putF "now" (.ref a_NOUGHT) (putF "stretches" (.ref pst) (putF "fire" (.int (labourM qs)) []))))) w4.ins rfl List.mem_cons_self).tup (same_tup u4 hst4)
    generalize upd (upd H4 prw (.lst [])) c (.ins CC dx (putF "row" (.ref prw) (putF "now" (.ref a_NOUGHT) (putF "stretches" (.ref pst) (putF "fire" (.int (labourM qs)) []))))) = H5 at *
    clear u4 w4
    refine ⟨Nat.zero_le _, fun pld npld => ?_⟩
    have u5 := same_upd (T := T) (o := .lst []) npld
    have w5 := m5.sm' u5 (nt1 rfl)
    refine ⟨_, rfl, c, _, _, rfl, w5.ins, by show 4 < 1000; decide, ?_⟩
    have m6 := m5.new nc ncd "loads" (o := .lst []) npld (nt1 rfl)
    have hst6 := (sx_upd (T := []) (S := [c]) (o := .ins CC dx (putF "loads" (.ref pld) (putF "row" (.ref prw) (putF "now" (.ref a_NOUGHT) (putF "stretches" (.ref pst) (putF "fire" (.int (labourM qs)) [])))))) w5.ins rfl List.mem_cons_self).tup (same_tup u5 hst5)
    generalize upd (upd H5 pld (.lst [])) c (.ins CC dx (putF "loads" (.ref pld) (putF "row" (.ref prw) (putF "now" (.ref a_NOUGHT) (putF "stretches" (.ref pst) (putF "fire" (.int (labourM qs)) [])))))) = H6 at *
    clear u5 w5
    refine ⟨Nat.zero_le _, fun psp npsp => ?_⟩
    have u6 := same_upd (T := T) (o := .lst []) npsp
    have w6 := m6.sm' u6 (nt1 rfl)
    refine ⟨_, rfl, c, _, _, rfl, w6.ins, by show 5 < 1000; decide, ?_⟩
    have m7 := m6.new nc ncd "spots" (o := .lst []) npsp (nt1 rfl)
    have hst7 := (sx_upd (T := []) (S := [c]) (o := .ins CC dx (putF "spots" (.ref psp) (putF "loads" (.ref pld) (putF "row" (.ref prw) (putF "now" (.ref a_NOUGHT) (putF "stretches" (.ref pst) (putF "fire" (.int (labourM qs)) []))))))) w6.ins rfl List.mem_cons_self).tup (same_tup u6 hst6)
    generalize upd (upd H6 psp (.lst [])) c (.ins CC dx (putF "spots" (.ref psp) (putF "loads" (.ref pld) (putF "row" (.ref prw) (putF "now" (.ref a_NOUGHT) (putF "stretches" (.ref pst) (putF "fire" (.int (labourM qs)) []))))))) = H7 at *
    clear u6 w6
    intro ptm nptm
    have u7 := same_upd (T := T) (o := .dK []) nptm
    have w7 := m7.sm' u7 (nt1 rfl)
    refine ⟨_, rfl, c, _, _, rfl, w7.ins, by show 6 < 1000; decide, ?_⟩
    have m8 := m7.new nc ncd "tempos" (o := .dK []) nptm (nt1 rfl)
    have hst8 := (sx_upd (T := []) (S := [c]) (o := .ins CC dx (putF "tempos" (.ref ptm) (putF "spots" (.ref psp) (putF "loads" (.ref pld) (putF "row" (.ref prw) (putF "now" (.ref a_NOUGHT) (putF "stretches" (.ref pst) (putF "fire" (.int (labourM qs)) [])))))))) w7.ins rfl List.mem_cons_self).tup (same_tup u7 hst7)
    generalize upd (upd H7 ptm (.dK [])) c (.ins CC dx (putF "tempos" (.ref ptm) (putF "spots" (.ref psp) (putF "loads" (.ref pld) (putF "row" (.ref prw) (putF "now" (.ref a_NOUGHT) (putF "stretches" (.ref pst) (putF "fire" (.int (labourM qs)) [])))))))) = H8 at *
    clear u7 w7
    refine ⟨Nat.zero_le _, fun plv nplv => ?_⟩
    have u8 := same_upd (T := T) (o := .lst []) nplv
    have w8 := m8.sm' u8 (nt1 rfl)
    refine ⟨_, rfl, c, _, _, rfl, w8.ins, by show 7 < 1000; decide, ?_⟩
    have m9 := m8.new nc ncd "leaving" (o := .lst []) nplv (nt1 rfl)
    have hst9 := (sx_upd (T := []) (S := [c]) (o := .ins CC dx (putF "leaving" (.ref plv) (putF "tempos" (.ref ptm) (putF "spots" (.ref psp) (putF "loads" (.ref pld) (putF "row" (.ref prw) (putF "now" (.ref a_NOUGHT) (putF "stretches" (.ref pst) (putF "fire" (.int (labourM qs)) []))))))))) w8.ins rfl List.mem_cons_self).tup (same_tup u8 hst8)
    generalize upd (upd H8 plv (.lst [])) c (.ins CC dx (putF "leaving" (.ref plv) (putF "tempos" (.ref ptm) (putF "spots" (.ref psp) (putF "loads" (.ref pld) (putF "row" (.ref prw) (putF "now" (.ref a_NOUGHT) (putF "stretches" (.ref pst) (putF "fire" (.int (labourM qs)) []))))))))) = H9 at *
    clear u8 w8
    intro plg nplg
    have u9 := same_upd (T := T) (o := .dK []) nplg
    have w9 := m9.sm' u9 (nt1 rfl)
    refine ⟨_, rfl, c, _, _, rfl, w9.ins, by show 8 < 1000; decide, ?_⟩
    have m10 := m9.new nc ncd "ledgers" (o := .dK []) nplg (nt1 rfl)
    have hst10 := (sx_upd (T := []) (S := [c]) (o := .ins CC dx (putF "ledgers" (.ref plg) (putF "leaving" (.ref plv) (putF "tempos" (.ref ptm) (putF "spots" (.ref psp) (putF "loads" (.ref pld) (putF "row" (.ref prw) (putF "now" (.ref a_NOUGHT) (putF "stretches" (.ref pst) (putF "fire" (.int (labourM qs)) [])))))))))) w9.ins rfl List.mem_cons_self).tup (same_tup u9 hst9)
    generalize upd (upd H9 plg (.dK [])) c (.ins CC dx (putF "ledgers" (.ref plg) (putF "leaving" (.ref plv) (putF "tempos" (.ref ptm) (putF "spots" (.ref psp) (putF "loads" (.ref pld) (putF "row" (.ref prw) (putF "now" (.ref a_NOUGHT) (putF "stretches" (.ref pst) (putF "fire" (.int (labourM qs)) [])))))))))) = H10 at *
    clear u9 w9
    refine ⟨Nat.zero_le _, fun pmr npmr => ?_⟩
    have u10 := same_upd (T := T) (o := .lst []) npmr
    have w10 := m10.sm' u10 (nt1 rfl)
    refine ⟨_, rfl, c, _, _, rfl, w10.ins, by show 9 < 1000; decide, ?_⟩
    have m11 := m10.new nc ncd "marks" (o := .lst []) npmr (nt1 rfl)
    have hst11 := (sx_upd (T := []) (S := [c]) (o := .ins CC dx (putF "marks" (.ref pmr) (putF "ledgers" (.ref plg) (putF "leaving" (.ref plv) (putF "tempos" (.ref ptm) (putF "spots" (.ref psp) (putF "loads" (.ref pld) (putF "row" (.ref prw) (putF "now" (.ref a_NOUGHT) (putF "stretches" (.ref pst) (putF "fire" (.int (labourM qs)) []))))))))))) w10.ins rfl List.mem_cons_self).tup (same_tup u10 hst10)
    generalize upd (upd H10 pmr (.lst [])) c (.ins CC dx (putF "marks" (.ref pmr) (putF "ledgers" (.ref plg) (putF "leaving" (.ref plv) (putF "tempos" (.ref ptm) (putF "spots" (.ref psp) (putF "loads" (.ref pld) (putF "row" (.ref prw) (putF "now" (.ref a_NOUGHT) (putF "stretches" (.ref pst) (putF "fire" (.int (labourM qs)) []))))))))))) = H11 at *
    clear u10 w10
    refine ⟨Nat.zero_le _, fun ppr nppr => ?_⟩
    have u11 := same_upd (T := T) (o := .lst []) nppr
    have w11 := m11.sm' u11 (nt1 rfl)
    refine ⟨_, rfl, c, _, _, rfl, w11.ins, by show 10 < 1000; decide, ?_⟩
    have m12 := m11.new nc ncd "poured" (o := .lst []) nppr (nt1 rfl)
    have hst12 := (sx_upd (T := []) (S := [c]) (o := .ins CC dx (putF "poured" (.ref ppr) (putF "marks" (.ref pmr) (putF "ledgers" (.ref plg) (putF "leaving" (.ref plv) (putF "tempos" (.ref ptm) (putF "spots" (.ref psp) (putF "loads" (.ref pld) (putF "row" (.ref prw) (putF "now" (.ref a_NOUGHT) (putF "stretches" (.ref pst) (putF "fire" (.int (labourM qs)) [])))))))))))) w11.ins rfl List.mem_cons_self).tup (same_tup u11 hst11)
    generalize upd (upd H11 ppr (.lst [])) c (.ins CC dx (putF "poured" (.ref ppr) (putF "marks" (.ref pmr) (putF "ledgers" (.ref plg) (putF "leaving" (.ref plv) (putF "tempos" (.ref ptm) (putF "spots" (.ref psp) (putF "loads" (.ref pld) (putF "row" (.ref prw) (putF "now" (.ref a_NOUGHT) (putF "stretches" (.ref pst) (putF "fire" (.int (labourM qs)) [])))))))))))) = H12 at *
    clear u11 w11
    have at_ := m12.at_
    refine k1 hw H12 { dx := dx, st := pst, nw := a_NOUGHT, rw := prw, ld := pld, sp := psp, tm := ptm, lv := plv, lg := plg, mr := pmr, pr := ppr } m12.sm ⟨m12.ins, m12.own, ⟨us, hst12, dpa_same m12.sm _ _ hd⟩, by show SqT K _ _ (tv (am 0)); rw [am_zero]; exact s_NOUGHT _, (at_ (prw, .lst []) (by simp)).1, (at_ (pld, .lst []) (by simp)).1, ⟨[], (at_ (psp, .lst []) (by simp)).1, .nil⟩, (at_ (ptm, .dK []) (by simp)).1, (at_ (plv, .lst []) (by simp)).1, ⟨[], (at_ (plg, .dK []) (by simp)).1, rfl, .nil⟩, ⟨[], (at_ (pmr, .lst []) (by simp)).1, .nil⟩, (at_ (ppr, .lst []) (by simp)).1, ?_⟩ (fun x hx => ?_)
    · have nd9 := m12.nd
      have e : ([c, ppr, pmr, plg, plv, ptm, psp, pld, prw] : List Addr).Perm [c, prw, pld, psp, ptm, plv, plg, pmr, ppr] := .cons c (List.reverse_perm _).symm
      exact nd_perm nd9 e
    · simp only [ownC, List.mem_cons, List.not_mem_nil, or_false] at hx
      rcases hx with rfl | rfl | rfl | rfl | rfl | rfl | rfl | rfl | rfl
      · exact nc
      · exact (at_ (x, .lst []) (by simp)).2
      · exact (at_ (x, .lst []) (by simp)).2
      · exact (at_ (x, .lst []) (by simp)).2
      · exact (at_ (x, .dK []) (by simp)).2
      · exact (at_ (x, .lst []) (by simp)).2
      · exact (at_ (x, .dK []) (by simp)).2
      · exact (at_ (x, .lst []) (by simp)).2
      · exact (at_ (x, .lst []) (by simp)).2
theorem ok_p_Chain___init___t {f : Addr} {fd : FuncData} {a_NOUGHT : Addr} (F : Fun K "__init__" "Chain.__init__" s_p_Chain___init___t f fd) (B : Bn mg) (g_NOUGHT : mg "NOUGHT" = some (.ref a_NOUGHT)) (s_NOUGHT : ∀ H, SqT K H a_NOUGHT [.int 0, .int 1]) {CP : Addr} {CC : Addr} (TC : Kl K CC) (F_p_labour_t : Fx P w K mg base 5 "labour" ["way"] (sp_p_labour_t K T CP)) : FnOk P w K mg base (L2.CX P w) 6 f fd ["self", "way"] (sp_p_Chain___init___t K T CP CC) := by
  refine F.okX sc_p_Chain___init___t (fun vs H Q E h => ?_) (fun cdv A outer s H vs Q E hr h => ?_)
  · obtain ⟨H0, c, dx, a, us, qs, rfl, _⟩ := h
    rfl
  · obtain ⟨H0, c, dx, a, us, qs, rfl, rfl, nc, nd, ncd, ha, hd, hq, hok, k1, k2⟩ := h
    refine ⟨_, (pss_cons (ps_fc TC.cl (TC.no "fire" (by decide +kernel)) (pv 0) (pe_fx F_p_labour_t (hr.mono (by decide)) (takes_of rfl rfl rfl rfl) (pa_cons (pv 1) pa_nil)))
      (pss_cons (ps_fc TC.cl (TC.no "stretches" (by decide +kernel)) (pv 0) (pe_callTy call_tuple_of (by rfl) B.tuple_ (by decide +kernel) (pa_cons (pv 1) pa_nil)))
      (pss_cons (ps_fc TC.cl (TC.no "now" (by decide +kernel)) (pv 0) (pe_glob (v := .ref a_NOUGHT) (by rfl) g_NOUGHT rfl))
      (pss_cons (ps_fc TC.cl (TC.no "row" (by decide +kernel)) (pv 0) (pe_lst pa_nil))
      (pss_cons (ps_fc TC.cl (TC.no "loads" (by decide +kernel)) (pv 0) (pe_lst pa_nil))
      (pss_cons (ps_fc TC.cl (TC.no "spots" (by decide +kernel)) (pv 0) (pe_lst pa_nil))
      (pss_cons (ps_fc TC.cl (TC.no "tempos" (by decide +kernel)) (pv 0) pe_dnewK)
      (pss_cons (ps_fc TC.cl (TC.no "leaving" (by decide +kernel)) (pv 0) (pe_lst pa_nil))
      (pss_cons (ps_fc TC.cl (TC.no "ledgers" (by decide +kernel)) (pv 0) pe_dnewK)
      (pss_cons (ps_fc TC.cl (TC.no "marks" (by decide +kernel)) (pv 0) (pe_lst pa_nil))
      (pss_one (ps_fc TC.cl (TC.no "poured" (by decide +kernel)) (pv 0) (pe_lst pa_nil))))))))))))), ?_⟩
    have v1 := same_upd (T := T) (o := .own c) nd
    have nc1 : upd H0 dx (.own c) c = none := by rw [upd_ne (Ne.symm ncd)]; exact nc
    have v2 := same_upd (T := T) (o := .ins CC dx []) nc1
    have s00 := v1.trans v2
    refine ⟨_, rfl, a, us, qs, rfl, same_tup s00 ha, dpa_same s00 _ _ hd, hq, s00.ok hok, fun hw H1 s1 => ?_, fun hw cls d H' s' rf => k2 hw cls d H' (s00.trans s') rf⟩
    have m0 : Mkg T CC H0 H1 c dx [] [] := ⟨s00.trans s1, s1.k (b := c) (o := .ins CC dx []) upd_same, (v2.trans s1).k (b := dx) (o := .own c) upd_same, (fun _ h => nomatch h), by simp⟩
    refine ⟨_, rfl, c, _, _, rfl, m0.ins, by show 0 < 1000; decide, ?_⟩
    have m1 := m0.val nc ncd "fire" (.int (labourM qs))
    generalize upd H1 c (.ins CC dx (putF "fire" (.int (labourM qs)) [])) = H2 at *
    have hst := same_tup m1.sm ha
    refine ⟨_, rfl, a, us, rfl, .inr ⟨hst, ?_⟩⟩
    obtain ⟨pst, rfl⟩ : ∃ pst, pst = a := ⟨a, rfl⟩
    refine ⟨_, rfl, c, _, _, rfl, m1.ins, by show 1 < 1000; decide, ?_⟩
    have m3 := m1.val nc ncd "stretches" (.ref pst)
    have x3 : Sx [] [c] H2 _ := sx_upd (o := .ins CC dx (putF "stretches" (.ref pst) (putF "fire" (.int (labourM qs)) []))) m1.ins rfl List.mem_cons_self
    have hst3 := x3.tup hst
    generalize upd H2 c (.ins CC dx (putF "stretches" (.ref pst) (putF "fire" (.int (labourM qs)) []))) = H3 at *
    refine ⟨_, rfl, c, _, _, rfl, m3.ins, by show 2 < 1000; decide, ?_⟩
    have m4 := m3.val nc ncd "now" (.ref a_NOUGHT)
    have x4 : Sx [] [c] H3 _ := sx_upd (o := .ins CC dx (putF "now" (.ref a_NOUGHT) (putF "stretches" (.ref pst) (putF "fire" (.int (labourM qs)) [])))) m3.ins rfl List.mem_cons_self
    have hst4 := x4.tup hst3
    generalize upd H3 c (.ins CC dx (putF "now" (.ref a_NOUGHT) (putF "stretches" (.ref pst) (putF "fire" (.int (labourM qs)) [])))) = H4 at *
    refine ⟨Nat.zero_le _, fun prw nprw => ?_⟩
    have u4 := same_upd (T := T) (o := .lst []) nprw
    have w4 := m4.sm' u4 (nt1 rfl)
    refine ⟨_, rfl, c, _, _, rfl, w4.ins, by show 3 < 1000; decide, ?_⟩
    have m5 := m4.new nc ncd "row" (o := .lst []) nprw (nt1 rfl)
    have hst5 := (sx_upd (T := []) (S := [c]) (o := .ins CC dx (putF "row" (.ref prw) (putF "now" (.ref a_NOUGHT) (putF "stretches" (.ref pst) (putF "fire" (.int (labourM qs)) []))))) w4.ins rfl List.mem_cons_self).tup (same_tup u4 hst4)
    generalize upd (upd H4 prw (.lst [])) c (.ins CC dx (putF "row" (.ref prw) (putF "now" (.ref a_NOUGHT) (putF "stretches" (.ref pst) (putF "fire" (.int (labourM qs)) []))))) = H5 at *
    clear u4 w4
    refine ⟨Nat.zero_le _, fun pld npld => ?_⟩
    have u5 := same_upd (T := T) (o := .lst []) npld
    have w5 := m5.sm' u5 (nt1 rfl)
    refine ⟨_, rfl, c, _, _, rfl, w5.ins, by show 4 < 1000; decide, ?_⟩
    have m6 := m5.new nc ncd "loads" (o := .lst []) npld (nt1 rfl)
    have hst6 := (sx_upd (T := []) (S := [c]) (o := .ins CC dx (putF "loads" (.ref pld) (putF "row" (.ref prw) (putF "now" (.ref a_NOUGHT) (putF "stretches" (.ref pst) (putF "fire" (.int (labourM qs)) [])))))) w5.ins rfl List.mem_cons_self).tup (same_tup u5 hst5)
    generalize upd (upd H5 pld (.lst [])) c (.ins CC dx (putF "loads" (.ref pld) (putF "row" (.ref prw) (putF "now" (.ref a_NOUGHT) (putF "stretches" (.ref pst) (putF "fire" (.int (labourM qs)) [])))))) = H6 at *
    clear u5 w5
    refine ⟨Nat.zero_le _, fun psp npsp => ?_⟩
    have u6 := same_upd (T := T) (o := .lst []) npsp
    have w6 := m6.sm' u6 (nt1 rfl)
    refine ⟨_, rfl, c, _, _, rfl, w6.ins, by show 5 < 1000; decide, ?_⟩
    have m7 := m6.new nc ncd "spots" (o := .lst []) npsp (nt1 rfl)
    have hst7 := (sx_upd (T := []) (S := [c]) (o := .ins CC dx (putF "spots" (.ref psp) (putF "loads" (.ref pld) (putF "row" (.ref prw) (putF "now" (.ref a_NOUGHT) (putF "stretches" (.ref pst) (putF "fire" (.int (labourM qs)) []))))))) w6.ins rfl List.mem_cons_self).tup (same_tup u6 hst6)
    generalize upd (upd H6 psp (.lst [])) c (.ins CC dx (putF "spots" (.ref psp) (putF "loads" (.ref pld) (putF "row" (.ref prw) (putF "now" (.ref a_NOUGHT) (putF "stretches" (.ref pst) (putF "fire" (.int (labourM qs)) []))))))) = H7 at *
    clear u6 w6
    intro ptm nptm
    have u7 := same_upd (T := T) (o := .dK []) nptm
    have w7 := m7.sm' u7 (nt1 rfl)
    refine ⟨_, rfl, c, _, _, rfl, w7.ins, by show 6 < 1000; decide, ?_⟩
    have m8 := m7.new nc ncd "tempos" (o := .dK []) nptm (nt1 rfl)
    have hst8 := (sx_upd (T := []) (S := [c]) (o := .ins CC dx (putF "tempos" (.ref ptm) (putF "spots" (.ref psp) (putF "loads" (.ref pld) (putF "row" (.ref prw) (putF "now" (.ref a_NOUGHT) (putF "stretches" (.ref pst) (putF "fire" (.int (labourM qs)) [])))))))) w7.ins rfl List.mem_cons_self).tup (same_tup u7 hst7)
    generalize upd (upd H7 ptm (.dK [])) c (.ins CC dx (putF "tempos" (.ref ptm) (putF "spots" (.ref psp) (putF "loads" (.ref pld) (putF "row" (.ref prw) (putF "now" (.ref a_NOUGHT) (putF "stretches" (.ref pst) (putF "fire" (.int (labourM qs)) [])))))))) = H8 at *
    clear u7 w7
    refine ⟨Nat.zero_le _, fun plv nplv => ?_⟩
    have u8 := same_upd (T := T) (o := .lst []) nplv
    have w8 := m8.sm' u8 (nt1 rfl)
    refine ⟨_, rfl, c, _, _, rfl, w8.ins, by show 7 < 1000; decide, ?_⟩
    have m9 := m8.new nc ncd "leaving" (o := .lst []) nplv (nt1 rfl)
    have hst9 := (sx_upd (T := []) (S := [c]) (o := .ins CC dx (putF "leaving" (.ref plv) (putF "tempos" (.ref ptm) (putF "spots" (.ref psp) (putF "loads" (.ref pld) (putF "row" (.ref prw) (putF "now" (.ref a_NOUGHT) (putF "stretches" (.ref pst) (putF "fire" (.int (labourM qs)) []))))))))) w8.ins rfl List.mem_cons_self).tup (same_tup u8 hst8)
    generalize upd (upd H8 plv (.lst [])) c (.ins CC dx (putF "leaving" (.ref plv) (putF "tempos" (.ref ptm) (putF "spots" (.ref psp) (putF "loads" (.ref pld) (putF "row" (.ref prw) (putF "now" (.ref a_NOUGHT) (putF "stretches" (.ref pst) (putF "fire" (.int (labourM qs)) []))))))))) = H9 at *
    clear u8 w8
    intro plg nplg
    have u9 := same_upd (T := T) (o := .dK []) nplg
    have w9 := m9.sm' u9 (nt1 rfl)
    refine ⟨_, rfl, c, _, _, rfl, w9.ins, by show 8 < 1000; decide, ?_⟩
    have m10 := m9.new nc ncd "ledgers" (o := .dK []) nplg (nt1 rfl)
    have hst10 := (sx_upd (T := []) (S := [c]) (o := .ins CC dx (putF "ledgers" (.ref plg) (putF "leaving" (.ref plv) (putF "tempos" (.ref ptm) (putF "spots" (.ref psp) (putF "loads" (.ref pld) (putF "row" (.ref prw) (putF "now" (.ref a_NOUGHT) (putF "stretches" (.ref pst) (putF "fire" (.int (labourM qs)) [])))))))))) w9.ins rfl List.mem_cons_self).tup (same_tup u9 hst9)
    generalize upd (upd H9 plg (.dK [])) c (.ins CC dx (putF "ledgers" (.ref plg) (putF "leaving" (.ref plv) (putF "tempos" (.ref ptm) (putF "spots" (.ref psp) (putF "loads" (.ref pld) (putF "row" (.ref prw) (putF "now" (.ref a_NOUGHT) (putF "stretches" (.ref pst) (putF "fire" (.int (labourM qs)) [])))))))))) = H10 at *
    clear u9 w9
    refine ⟨Nat.zero_le _, fun pmr npmr => ?_⟩
    have u10 := same_upd (T := T) (o := .lst []) npmr
    have w10 := m10.sm' u10 (nt1 rfl)
    refine ⟨_, rfl, c, _, _, rfl, w10.ins, by show 9 < 1000; decide, ?_⟩
    have m11 := m10.new nc ncd "marks" (o := .lst []) npmr (nt1 rfl)
    have hst11 := (sx_upd (T := []) (S := [c]) (o := .ins CC dx (putF "marks" (.ref pmr) (putF "ledgers" (.ref plg) (putF "leaving" (.ref plv) (putF "tempos" (.ref ptm) (putF "spots" (.ref psp) (putF "loads" (.ref pld) (putF "row" (.ref prw) (putF "now" (.ref a_NOUGHT) (putF "stretches" (.ref pst) (putF "fire" (.int (labourM qs)) []))))))))))) w10.ins rfl List.mem_cons_self).tup (same_tup u10 hst10)
    generalize upd (upd H10 pmr (.lst [])) c (.ins CC dx (putF "marks" (.ref pmr) (putF "ledgers" (.ref plg) (putF "leaving" (.ref plv) (putF "tempos" (.ref ptm) (putF "spots" (.ref psp) (putF "loads" (.ref pld) (putF "row" (.ref prw) (putF "now" (.ref a_NOUGHT) (putF "stretches" (.ref pst) (putF "fire" (.int (labourM qs)) []))))))))))) = H11 at *
    clear u10 w10
    refine ⟨Nat.zero_le _, fun ppr nppr => ?_⟩
    have u11 := same_upd (T := T) (o := .lst []) nppr
    have w11 := m11.sm' u11 (nt1 rfl)
    refine ⟨_, rfl, c, _, _, rfl, w11.ins, by show 10 < 1000; decide, ?_⟩
    have m12 := m11.new nc ncd "poured" (o := .lst []) nppr (nt1 rfl)
    have hst12 := (sx_upd (T := []) (S := [c]) (o := .ins CC dx (putF "poured" (.ref ppr) (putF "marks" (.ref pmr) (putF "ledgers" (.ref plg) (putF "leaving" (.ref plv) (putF "tempos" (.ref ptm) (putF "spots" (.ref psp) (putF "loads" (.ref pld) (putF "row" (.ref prw) (putF "now" (.ref a_NOUGHT) (putF "stretches" (.ref pst) (putF "fire" (.int (labourM qs)) [])))))))))))) w11.ins rfl List.mem_cons_self).tup (same_tup u11 hst11)
    generalize upd (upd H11 ppr (.lst [])) c (.ins CC dx (putF "poured" (.ref ppr) (putF "marks" (.ref pmr) (putF "ledgers" (.ref plg) (putF "leaving" (.ref plv) (putF "tempos" (.ref ptm) (putF "spots" (.ref psp) (putF "loads" (.ref pld) (putF "row" (.ref prw) (putF "now" (.ref a_NOUGHT) (putF "stretches" (.ref pst) (putF "fire" (.int (labourM qs)) [])))))))))))) = H12 at *
    clear u11 w11
    have at_ := m12.at_
    refine k1 hw H12 { dx := dx, st := pst, nw := a_NOUGHT, rw := prw, ld := pld, sp := psp, tm := ptm, lv := plv, lg := plg, mr := pmr, pr := ppr } m12.sm ⟨m12.ins, m12.own, ⟨us, hst12, dpa_same m12.sm _ _ hd⟩, by show SqT K _ _ (tv (am 0)); rw [am_zero]; exact s_NOUGHT _, (at_ (prw, .lst []) (by simp)).1, (at_ (pld, .lst []) (by simp)).1, ⟨[], (at_ (psp, .lst []) (by simp)).1, .nil⟩, (at_ (ptm, .dK []) (by simp)).1, (at_ (plv, .lst []) (by simp)).1, ⟨[], (at_ (plg, .dK []) (by simp)).1, rfl, .nil⟩, ⟨[], (at_ (pmr, .lst []) (by simp)).1, .nil⟩, (at_ (ppr, .lst []) (by simp)).1, ?_⟩ (fun x hx => ?_)
    · have nd9 := m12.nd
      have e : ([c, ppr, pmr, plg, plv, ptm, psp, pld, prw] : List Addr).Perm [c, prw, pld, psp, ptm, plv, plg, pmr, ppr] := .cons c (List.reverse_perm _).symm
      exact nd_perm nd9 e
    · simp only [ownC, List.mem_cons, List.not_mem_nil, or_false] at hx
      rcases hx with rfl | rfl | rfl | rfl | rfl | rfl | rfl | rfl | rfl
      · exact nc
      · exact (at_ (x, .lst []) (by simp)).2
      · exact (at_ (x, .lst []) (by simp)).2
      · exact (at_ (x, .lst []) (by simp)).2
      · exact (at_ (x, .dK []) (by simp)).2
      · exact (at_ (x, .lst []) (by simp)).2
      · exact (at_ (x, .dK []) (by simp)).2
      · exact (at_ (x, .lst []) (by simp)).2
      · exact (at_ (x, .lst []) (by simp)).2

def copyS (s r : Ch) : Ch := { r with fire := s.fire, way := s.way }
def sp_p_Chain_stand_as (K : PySem.W.Frag) (T : Tb) (CC : Addr) : Sp := fun vs H Q _ => ∃ (c d : Addr) (A B : Ad) (s r : Ch), vs = [.ref c, .ref d] ∧ ChAt K CC H c A s ∧ ChAt K CC H d B r ∧ c ∉ ownC d B ∧
  ∀ H' A', Sx T [c] H H' → ChAt K CC H' c A' (copyS s r) → (∀ x ∈ ownC c A', x = c ∨ H x = none) → Q .non H'
def sp_p_Chain_twin (K : PySem.W.Frag) (T : Tb) (CC : Addr) : Sp := fun vs H Q _ => ∃ (c : Addr) (A : Ad) (s : Ch), vs = [.ref c] ∧ ChAt K CC H c A s ∧ wayB s.way = true ∧ s.fire = labourM s.way ∧ Ok T H ∧ ∀ p H' B, Sm T H H' → ChAt K CC H' p B s → (∀ x ∈ ownC p B, H x = none) → Q (.ref p) H'
/-- from meeting to meeting -/
def ItR (s : Ch) (h : Rat) (s' : Ch) (rows : List Rw) : Prop := Tn (walkS s h) s' rows ∧ rows.length ≤ 8 ∧ (s'.row ≠ [] → s'.spots.getD (s'.row.length - 1) 0 ≠ (s'.fire : Rat))
def meetS (s : Ch) : Rat := meetM s.fire (pcs s) s.spots
/-- ready to be walked on for l hours at most -/
structure Rdy (D : Int) (s : Ch) (l : Rat) : Prop where
  w : WOk D s
  d12 : (D * 12).natAbs < 2 ^ 3900
  l6 : Fr D l ∧ 0 ≤ l ∧ l ≤ 50000
  lt : ∀ x ∈ s.spots, x < (s.fire : Rat)
  ft : Fit2 s
theorem Wk.scale {D L : Int} {ns : List Int} {ps : List Rat} (w : Wk D L ns ps) (hD : 0 < D) {k : Int} (hk : 1 ≤ k) : Wk (D * k) L ns ps := ⟨w.eq, w.n8, w.pace, w.rise, w.nn, w.fire, fun p hp => (w.fr p hp).scale (by omega) (by omega)⟩
theorem Ok6.scale {D : Int} {r : Rat} (h : Ok6 D r) (hD : 0 < D) {k : Int} (hk : 1 ≤ k) : Ok6 (D * k) r := ⟨h.1.scale (by omega) (by omega), h.2⟩
theorem d_scale {D k : Int} (hD : 0 < D) (hk : 1 ≤ k) (h12 : k ≤ 12) (h : (D * 12).natAbs < 2 ^ 3900) : 0 < D * k ∧ (D * k).natAbs < 2 ^ 3900 := by
  refine ⟨Int.mul_pos hD (by omega), Nat.lt_of_le_of_lt ?_ h⟩
  rw [Int.natAbs_mul, Int.natAbs_mul]
  exact Nat.mul_le_mul_left _ (by omega)
theorem WOk.scale {D : Int} {s : Ch} (w : WOk D s) {k : Int} (hk : 1 ≤ k) (h12 : k ≤ 12) (hd : (D * 12).natAbs < 2 ^ 3900) : WOk (D * k) s :=
  ⟨w.wk.scale w.hD.1 hk, d_scale w.hD.1 hk h12 hd, w.f1, w.nd, w.tp, fun n hn => by
    obtain ⟨x, hx, o1, o2, o3⟩ := w.lg n hn
    exact ⟨x, hx, o1.scale w.hD.1 hk, o2.scale w.hD.1 hk, o3.scale w.hD.1 hk⟩, w.ll, w.now.scale w.hD.1 hk⟩
theorem meet_ok {D : Int} {s : Ch} (w : WOk D s) (hne : s.row ≠ []) : ∃ k : Int, 1 ≤ k ∧ k ≤ 12 ∧ Fr (D * k) (meetS s) ∧ 0 ≤ meetS s ∧ meetS s ≤ 1000 := by
  have hn : 0 < (pcs s).length := by rw [pcs_len]; exact List.length_pos_iff.mpr hne
  obtain ⟨k, k1, k2, k3, k4, k5⟩ := meetF_ok w.wk (by have := w.hD.1; omega) hn (Nat.le_refl _)
  exact ⟨k, k1, k2, k3, k4, Rat.le_trans k5 (Rat.le_trans (Rat.intCast_le_intCast.mpr w.f1.2) (by decide +kernel))⟩

theorem seq_wh {c : TT} {tb u : TS} {D : Ends} {σ : L2.St} {H : Hp} (P : L2.St → Hp → Prop) (hu : ∀ σ' H', P σ' H' → u D σ' H') (h : (∀ σ' H', P σ' H' → u D σ' H') → tSeq (tWhile c tb) u D σ H) : tSeq (tWhile c tb) u D σ H := h hu
def sp_p_Chain_walk_for (K : PySem.W.Frag) (T : Tb) (CP CC : Addr) : Sp := fun vs H Q E => ∃ (c : Addr) (A : Ad) (s0 : Ch) (hp : Addr) (h0 : Rat) (J : Ch → Rat → List Rw → Nat → Prop) (n0 : Nat), vs = [.ref c, .ref hp] ∧ ChAt K CC H c A s0 ∧ SqT K H hp (tv (am h0)) ∧ J s0 h0 [] n0 ∧
  (∀ s l rows n, J s l rows n → Bd 4000 (am s.now) ∧ Bd 4000 (am l) ∧ rows.length ≤ 100 ∧ s.poured.length ≤ 5000) ∧
  (∀ s l rows n, J s l rows n → s.row ≠ [] → 0 < l → ∃ D, Rdy D s l) ∧
  (∀ s l rows n, J s l rows n → s.row ≠ [] → 0 < l → ∀ s' rows', ItR s (mnR l (meetS s)) s' rows' → s'.poured.length ≤ s0.poured.length + 60 → ∃ m, m < n ∧ J s' (l - mnR l (meetS s)) (rows ++ rows') m) ∧
  (∀ s l rows n, J s l rows n → (s.row = [] ∨ ¬ 0 < l) → ∀ H' A' p us, Sx T (ownC c A) H H' → ChAt K CC H' c A' { s with now := s.now + l } → (∀ x ∈ ownC c A', x ∈ ownC c A ∨ H x = none) → p ∉ ownC c A' → H p = none → H' p = some (.lst us) → DpAll K H' us (rows.map rowD) → Q (.ref p) H') ∧
  (∀ s l rows n, J s l rows n → s.row ≠ [] → 0 < l → ∀ s' rows', ItR s (mnR l (meetS s)) s' rows' → s0.poured.length + 60 < s'.poured.length → ∀ cls d H', Sx T (ownC c A) H H' → Rf K CP "too long" cls d H' → E cls d H')
def hoursB (x : Int × Int) : Bool := !(belowA x (0, 1)) && !(belowA (60, 1) x) && decide (x.2 ≤ 60)
def sp_p_check_hours (K : PySem.W.Frag) (T : Tb) (CP : Addr) : Sp := fun vs H Q E => ∃ (hp : Addr) (x : Int × Int), vs = [.ref hp] ∧ SqT K H hp (tv x) ∧ Bd 4000 x ∧ (hoursB x = true → ∀ H', Sm T H H' → Q .non H') ∧ (hoursB x = false → ∀ cls d H', Sm T H H' → Rf K CP "bad time" cls d H' → E cls d H')
/-- what go asks of its caller: what is kept from meeting to meeting -/
def GoP (K : PySem.W.Frag) (T : Tb) (CP CC : Addr) (H : Hp) (c : Addr) (s0 : Ch) (x : Int × Int) (Q : VK) (E : XK) : Prop := ∃ (h0 : Rat) (J : Ch → Rat → List Rw → Nat → Prop) (n0 : Nat), x = am h0 ∧ J s0 h0 [] n0 ∧
  (∀ s l rows n, J s l rows n → Bd 4000 (am s.now) ∧ Bd 4000 (am l) ∧ rows.length ≤ 100 ∧ s.poured.length ≤ 5000) ∧
  (∀ s l rows n, J s l rows n → s.row ≠ [] → 0 < l → ∃ D, Rdy D s l) ∧
  (∀ s l rows n, J s l rows n → s.row ≠ [] → 0 < l → ∀ s' rows', ItR s (mnR l (meetS s)) s' rows' → s'.poured.length ≤ s0.poured.length + 60 → ∃ m, m < n ∧ J s' (l - mnR l (meetS s)) (rows ++ rows') m) ∧
  (∀ s l rows n, J s l rows n → (s.row = [] ∨ ¬ 0 < l) → ∀ H' A' p us, Sx T [c] H H' → ChAt K CC H' c A' (copyS s0 { s with now := s.now + l }) → (∀ x ∈ ownC c A', x = c ∨ H x = none) → p ∉ ownC c A' → H p = none → H' p = some (.lst us) → DpAll K H' us (rows.map rowD) → Q (.ref p) H') ∧
  (∀ s l rows n, J s l rows n → s.row ≠ [] → 0 < l → ∀ s' rows', ItR s (mnR l (meetS s)) s' rows' → s0.poured.length + 60 < s'.poured.length → ∀ cls d H', Sm T H H' → Rf K CP "too long" cls d H' → E cls d H')
def sp_p_Chain_go (K : PySem.W.Frag) (T : Tb) (CP CC : Addr) : Sp := fun vs H Q E => ∃ (c : Addr) (A : Ad) (s0 : Ch) (hp : Addr) (x : Int × Int), vs = [.ref c, .ref hp] ∧ ChAt K CC H c A s0 ∧ SqT K H hp (tv x) ∧ Bd 4000 x ∧ Ok T H ∧ wayB s0.way = true ∧ s0.fire = labourM s0.way ∧
  (hoursB x = false → ∀ cls d H', Sm T H H' → Rf K CP "bad time" cls d H' → E cls d H') ∧
  (hoursB x = true → GoP K T CP CC H c s0 x Q E)
def outsB (n : Int) : Bool := decide (1 ≤ n) && decide (n ≤ 60)
def OutP (K : PySem.W.Frag) (T : Tb) (CC : Addr) (H : Hp) (c : Addr) (A : Ad) (s0 : Ch) (cnt : Int) (Q : VK) : Prop := ∃ (J : Ch → List Rw → Nat → Prop) (n0 : Nat), J s0 [] n0 ∧
  (∀ s rows n, J s rows n → rows.length ≤ 100 ∧ s.poured.length ≤ 5000) ∧
  (∀ s rows n, J s rows n → s.row ≠ [] → (s.poured.length : Int) < s0.poured.length + cnt → ∃ D, Rdy D s 0) ∧
  (∀ s rows n, J s rows n → s.row ≠ [] → (s.poured.length : Int) < s0.poured.length + cnt → ∀ s' rows', ItR s (meetS s) s' rows' → ∃ m, m < n ∧ J s' (rows ++ rows') m) ∧
  (∀ s rows n, J s rows n → (s.row = [] ∨ ¬ (s.poured.length : Int) < s0.poured.length + cnt) → ∀ H' A' p us, Sx T (ownC c A) H H' → ChAt K CC H' c A' s → (∀ x ∈ ownC c A', x ∈ ownC c A ∨ H x = none) → p ∉ ownC c A' → H p = none → H' p = some (.lst us) → DpAll K H' us (rows.map rowD) → Q (.ref p) H')
def sp_p_Chain_outs (K : PySem.W.Frag) (T : Tb) (CP CC : Addr) : Sp := fun vs H Q E => ∃ (c : Addr) (A : Ad) (s0 : Ch) (cnt : Int), vs = [.ref c, .int cnt] ∧ ChAt K CC H c A s0 ∧
  (outsB cnt = false → ∀ cls d H', Sm T H H' → Rf K CP "bad count" cls d H' → E cls d H') ∧
  (outsB cnt = true → s0.row = [] → ∀ cls d H', Sm T H H' → Rf K CP "nobody" cls d H' → E cls d H') ∧
  (outsB cnt = true → s0.row ≠ [] → OutP K T CC H c A s0 cnt Q)
theorem ok_p_Chain_outs {f : Addr} {fd : FuncData} {u_MOST_OUTS : Value} (F : Fun K "outs" "Chain.outs" s_p_Chain_outs f fd) (B : Bn mg) (C_MOST_OUTS : RelV (.int 60) u_MOST_OUTS ∧ mg "MOST_OUTS" = some u_MOST_OUTS) {CP : Addr} (R_BadCount : Err P w K mg base CP "BadCount" "bad count") (R_Nobody : Err P w K mg base CP "Nobody" "nobody") {CC : Addr} (TC : Kl K CC) (F_p_is_within : Fn P w K mg base 2 "is_within" ["thing", "least", "most"] (sp_p_is_within K T)) (M_till_meeting : Mt P w K mg base CC 6 "till_meeting" ["self"] (sp_p_Chain_till_meeting K T CC)) (M_walk : Mt P w K mg base CC 5 "walk" ["self", "hours"] (sp_p_Chain_walk K T CC)) (M_turns : Mt P w K mg base CC 4 "turns" ["self"] (sp_p_Chain_turns K T CC)) : FnOk P w K mg base (L2.CX P w) 7 f fd ["self", "count"] (sp_p_Chain_outs K T CP CC) := by
  obtain ⟨⟨tM, rfl⟩, gM⟩ := id C_MOST_OUTS
  refine F.okX sc_p_Chain_outs (fun vs H Q E h => ?_) (fun cdv A outer s H vs Q E hr h => ?_)
  · obtain ⟨c, A, s0, cnt, rfl, _⟩ := h
    rfl
  · obtain ⟨c, A, s0, cnt, rfl, h, kb, kn, kk⟩ := h
    refine ⟨_, (pss_cons (ps_if (pt_not (pt_val (pe_fn F_p_is_within (hr.mono (by decide)) (pa_cons (pv 1) (pa_cons pe_int (pa_cons (pe_glob (by rfl) C_MOST_OUTS.2 C_MOST_OUTS.1) pa_nil)))))) (pss_one (ps_raise rfl (takes_of rfl rfl rfl rfl) (pmk_err R_BadCount (hr.mono (by decide)) (by rfl)))) pss_nil)
      (pss_cons (ps_if (pt_not (pt_truth (pe_fc TC.cl (TC.no "row" (by decide +kernel)) (pv 0)) (by intro _; rfl))) (pss_one (ps_raise rfl (takes_of rfl rfl rfl rfl) (pmk_err R_Nobody (hr.mono (by decide)) (by rfl)))) pss_nil)
      (pss_cons (ps_set (i := 2) sc_p_Chain_outs.nd rfl (.inl rfl) (pe_lst pa_nil))
      (pss_cons (ps_set (i := 3) sc_p_Chain_outs.nd rfl (.inl rfl) (pe_op op_add (pe_callB call_len_seq (by rfl) B.len_ (by decide +kernel) (pa_cons (pe_fc TC.cl (TC.no "poured" (by decide +kernel)) (pv 0)) pa_nil)) (pv 1)))
      (pss_cons (ps_while (passes_of rfl) (PW.pt (pw_and (pt_truth (pe_fc TC.cl (TC.no "row" (by decide +kernel)) (pv 0)) (by intro _; rfl)) (pw_and1 (pt_cmpR op_lt (pe_callB call_len_seq (by rfl) B.len_ (by decide +kernel) (pa_cons (pe_fc TC.cl (TC.no "poured" (by decide +kernel)) (pv 0)) pa_nil)) (pv 3) (nomark _))))) (pss_cons (ps_expr (pe_mt M_walk TC.cl (hr.mono (by decide)) (pv 0) (pa_cons (pe_mt0 M_till_meeting TC.cl (hr.mono (by decide)) (pv 0) ) pa_nil)))
      (pss_one (ps_expr (pe_bm PySem.F.plainAttrs_list PySem.F.slot_list_extend PySem.F.type_list_extend mt_extend (pv 2) (pa_cons (pe_mt0 M_turns TC.cl (hr.mono (by decide)) (pv 0) ) pa_nil))))))
      (pss_one (ps_ret (pv 2)))))))), ?_⟩
    refine ⟨_, rfl, cnt, 1, 60, rfl, _, rfl, ?_⟩
    show if (!(outsB cnt)) = true then _ else _
    cases hz : outsB cnt with
    | false => exact iteT fun cls dd hn rf => kb hz cls (some dd) _ (same_upd hn) rf
    | true =>
      refine iteF ?_
      refine ⟨_, rfl, c, _, _, _, rfl, h.ins, fl_rw, _, .inl ⟨_, SqL.of h.rw, rfl⟩, ?_⟩
      by_cases hne0 : s0.row = []
      · rw [hne0]
        exact iteT fun cls dd hn rf => kn hz hne0 cls (some dd) _ (same_upd hn) rf
      have hb0 : ((s0.row.map V.str).isEmpty) = false := by
        cases hs : s0.row with
        | nil => exact absurd hs hne0
        | cons a l => rfl
      rw [hb0]
      refine iteF ?_
      obtain ⟨J, n0, j0, jb, jr, js, je⟩ := kk hz hne0
      refine ⟨Nat.zero_le _, fun o no => ?_⟩
      have u0 := same_upd (T := T) (o := .lst []) no
      have h1 := h.sm u0
      refine ⟨_, rfl, c, _, _, _, rfl, h1.ins, fl_pr, A.pr, _, rfl, .inl (SqL.of h1.pr), _, rfl, _, _, rfl, rfl, ?_⟩
      rw [List.length_map]
      refine ⟨fun n σ H3 => ∃ s rows us A3, J s rows n ∧ Sx T (ownC c A) H H3 ∧ ChAt K CC H3 c A3 s ∧ (∀ x ∈ ownC c A3, x ∈ ownC c A ∨ H x = none) ∧ o ∉ ownC c A3 ∧ σ = [some (.ref c), some (.int cnt), some (.ref o), some (.int ((s0.poured.length : Int) + cnt))] ∧ H3 o = some (.lst us) ∧ DpAll K H3 us (rows.map rowD),
        ⟨n0, s0, [], [], A, j0, u0.sx, h1, fun _ h => .inl h, h.new no, rfl, upd_same, .nil⟩, ?_⟩
      rintro n σ H3 ⟨s, rows, us, A3, j, x3, h3, fr3, no3, rfl, eo, du⟩
      have bb := jb s rows n j
      refine ⟨_, rfl, c, _, _, _, rfl, h3.ins, fl_rw, _, .inl ⟨_, SqL.of h3.rw, rfl⟩, ?_⟩
      by_cases hne : s.row = []
      · rw [hne]
        exact iteF (iteF ⟨_, rfl, je s rows n j (.inl hne) H3 A3 o us x3 h3 fr3 no3 no eo du⟩)
      have hb : ((s.row.map V.str).isEmpty) = false := by
        cases hs : s.row with
        | nil => exact absurd hs hne
        | cons a l => rfl
      rw [hb]
      refine iteT ?_
      refine ⟨_, rfl, c, _, _, _, rfl, h3.ins, fl_pr, A3.pr, _, rfl, .inl (SqL.of h3.pr), _, rfl, _, _, rfl, rfl, _, rfl, ?_⟩
      rw [List.length_map]
      by_cases hpos : ¬ (s.poured.length : Int) < (s0.poured.length : Int) + cnt
      · rw [decide_eq_false hpos]
        exact iteF ⟨_, rfl, je s rows n j (.inr hpos) H3 A3 o us x3 h3 fr3 no3 no eo du⟩
      have hpos : (s.poured.length : Int) < (s0.poured.length : Int) + cnt := Classical.not_not.mp hpos
      rw [decide_eq_true hpos]
      refine iteT ⟨fun σ' H' => ∃ m', m' < n ∧ ∃ s rows us A3, J s rows m' ∧ Sx T (ownC c A) H H' ∧ ChAt K CC H' c A3 s ∧ (∀ x ∈ ownC c A3, x ∈ ownC c A ∨ H x = none) ∧ o ∉ ownC c A3 ∧ σ' = [some (.ref c), some (.int cnt), some (.ref o), some (.int ((s0.poured.length : Int) + cnt))] ∧ H' o = some (.lst us) ∧ DpAll K H' us (rows.map rowD), fun _ _ z => z, ?_⟩
      obtain ⟨D, rd⟩ := jr s rows n j hne hpos
      obtain ⟨k, k1, k12, kf, m0, m1⟩ := meet_ok rd.w hne
      have wk' := rd.w.scale k1 k12 rd.d12
      have mf : Fr (D * k) (meetS s) ∧ 0 ≤ meetS s ∧ meetS s ≤ 50000 := ⟨kf, m0, Rat.le_trans m1 (by decide)⟩
      refine ⟨_, rfl, c, _, _, rfl, h3.ins, fl_no (by decide +kernel), _, rfl, c, _, _, rfl, h3.ins, fl_no (by decide +kernel), D, c, A3, s, rfl, h3, rd.w, hne, fun pm H4 s4 hpm => ?_⟩
      have h4 := h3.sm s4
      refine ⟨D * k, c, A3, s, pm, meetS s, rfl, h4, wk', hpm, mf, fun H5 A5 x5' fr5 h5 => ?_⟩
      have eo4 := s4.k eo
      have no5 : o ∉ ownC c A5 := fun z => (fr5 o z).elim no3 fun z' => by rw [eo4] at z'; cases z'
      have eo5 := x5'.lst eo4 no3
      have x05 := (x3.sm' s4).trans x5' fr3
      have fr05 : ∀ x ∈ ownC c A5, x ∈ ownC c A ∨ H x = none := fun x hx => (fr5 x hx).elim (fr3 x) fun z => .inr (x3.free _ (s4.free _ z))
      have ft6 : Fit2 (walkS s (meetS s)) := ⟨⟨rd.ft.sd.ll, by show (walkM _ _ _).length = _; rw [walkM_len, pcs_len]; rfl, rd.ft.sd.n8, rd.ft.sd.ld⟩, rd.ft.lv, rd.ft.f1, rd.ft.ml, rd.ft.mm, rd.ft.pl⟩
      refine ⟨_, rfl, .inl ⟨rfl, _, SqL.of eo5⟩, _, rfl, c, _, _, rfl, h5.ins, fl_no (by decide +kernel), c, A5, _, rfl, h5, ft6, fun p7 H7 us7 s' rows' x7 h7 tn l8 nl np7 ep7 du7 => ?_⟩
      have eo7 := x7.lst eo5 no5
      have du6 := x7.dps 3 _ _ (noL_rows _) (x5'.dps 3 _ _ (noL_rows _) (dpa_same s4 _ _ du))
      have lus : us.length = rows.length := by rw [dpa_len du, List.length_map]
      have lus7 : us7.length = rows'.length := by rw [dpa_len du7, List.length_map]
      refine ⟨o, p7, us, us7, rfl, rfl, eo7, ep7, sz (by have := bb.1; omega), ?_⟩
      have xo : Sx T [o] H7 (upd H7 o (.lst (us ++ us7))) := sx_upd eo7 rfl List.mem_cons_self
      have h8 := h7.sx xo fun y hy z => no5 (by rw [← List.mem_singleton.mp z]; exact hy)
      have x08 : Sx T (ownC c A) H (upd H7 o (.lst (us ++ us7))) := (x05.trans x7 fr05).trans xo fun y hy => .inr (by rw [List.mem_singleton.mp hy]; exact no)
      have du8 : DpAll K (upd H7 o (.lst (us ++ us7))) (us ++ us7) ((rows ++ rows').map rowD) := by
        rw [List.map_append]
        exact xo.dps 3 _ _ (by rw [List.all_append, noL_rows, noL_rows]; rfl) (dpa_app du6 du7)
      obtain ⟨m, hm, j'⟩ := js s rows n j hne hpos s' rows' ⟨tn, l8, nl⟩
      exact ⟨m, hm, s', rows ++ rows', us ++ us7, A5, j', x08, h8, fr05, no5, rfl, upd_same, du8⟩

/-! ### hands that are the quicker the nearer they stand to the fire -/
theorem spd_rise : ∀ {ps : List Int} {xs : List Rat}, ps.length = xs.length → ps.Pairwise (· ≤ ·) → spd ps xs = ps
  | [], [], _, _ => rfl
  | [], _ :: _, h, _ => by simp at h
  | _ :: _, [], h, _ => by simp at h
  | p :: ps, x :: xs, hl, hp => by
    have ih := spd_rise (ps := ps) (xs := xs) (by simpa using hl) (List.pairwise_cons.mp hp).2
    simp only [spd, ih]
    congr 1
    match xs, ps, hp with
    | [], _, _ => rfl
    | _ :: _, [], _ => rfl
    | y :: _, s :: _, hp =>
      have : p ≤ s := (List.pairwise_cons.mp hp).1 s List.mem_cons_self
      show (if x = y then mnI p s else p) = p
      split
      · unfold mnI; rw [if_neg (by omega)]
      · rfl
theorem meet_rise {L : Int} {ps : List Int} {xs : List Rat} (hl : ps.length = xs.length) (hp : ps.Pairwise (· ≤ ·)) : meetM L ps xs = lastH L ps xs := by
  unfold meetM
  rw [spd_rise hl hp]
  have e : ∀ i, i ≤ ps.length - 1 → meetF ps xs (lastH L ps xs) i = lastH L ps xs := fun i => by
    induction i with
    | zero => intro _; rfl
    | succ i ih =>
      intro hi
      show (if _ then _ else _) = _
      rw [getD_lt (show i + 1 < ps.length by omega), getD_lt (show i < ps.length by omega), if_neg (by have := List.pairwise_iff_getElem.mp hp i (i + 1) (by omega) (by omega) (by omega); omega)]
      exact ih (by omega)
  exact e _ (Nat.le_refl _)
theorem walk_rise {ps : List Int} {xs : List Rat} {t : Rat} (hl : ps.length = xs.length) (hp : ps.Pairwise (· ≤ ·)) : walkM ps xs t = List.zipWith (fun (x : Rat) (p : Int) => x + t * (p : Rat)) xs ps := by
  refine List.ext_getElem (by rw [walkM_len, List.length_zipWith]; omega) fun i h1 h2 => ?_
  rw [walkM_len] at h1
  rw [← getD_lt (d := (0 : Rat)) (by rw [walkM_len]; exact h1), walkM_get h1, spd_rise hl hp, List.getElem_zipWith, getD_lt (show i < xs.length by omega), getD_lt h1]
theorem zip_sum {t : Rat} : ∀ {ps : List Int} {xs : List Rat}, ps.length = xs.length → (List.zipWith (fun (x : Rat) (p : Int) => x + t * (p : Rat)) xs ps).sum = xs.sum + t * ((ps.sum : Int) : Rat)
  | [], [], _ => by show (0 : Rat) = 0 + t * ((0 : Int) : Rat); show (0 : Rat) = 0 + t * 0; grind
  | [], _ :: _, h => by simp at h
  | _ :: _, [], h => by simp at h
  | p :: ps, x :: xs, h => by
    have ih := zip_sum (t := t) (ps := ps) (xs := xs) (by simpa using h)
    rw [List.zipWith_cons_cons, List.sum_cons, List.sum_cons, List.sum_cons, ih, Rat.intCast_add]
    grind
theorem sum_le_len {b : Rat} : ∀ {xs : List Rat}, (∀ x ∈ xs, 0 ≤ x ∧ x ≤ b) → 0 ≤ xs.sum ∧ xs.sum ≤ b * (((xs.length : Nat) : Int) : Rat)
  | [], _ => ⟨by decide, by show (0 : Rat) ≤ b * 0; grind⟩
  | x :: xs, h => by
    have ih := sum_le_len (xs := xs) fun y hy => h y (List.mem_cons_of_mem _ hy)
    have hx := h x List.mem_cons_self
    rw [List.sum_cons, List.length_cons, show ((xs.length + 1 : Nat) : Int) = (xs.length : Int) + 1 from by omega, Rat.intCast_add]
    refine ⟨by grind, ?_⟩
    show _ ≤ b * (_ + 1)
    grind
theorem mem_le_sum : ∀ {ps : List Int}, (∀ p ∈ ps, 1 ≤ p) → (0 ≤ ps.sum ∧ ∀ p ∈ ps, p ≤ ps.sum)
  | [], _ => ⟨by decide, fun _ h => nomatch h⟩
  | q :: ps, h => by
    have ih := mem_le_sum (ps := ps) fun y hy => h y (List.mem_cons_of_mem _ hy)
    have hq := h q List.mem_cons_self
    rw [List.sum_cons]
    refine ⟨by omega, fun p hp => ?_⟩
    rcases List.mem_cons.mp hp with z | z
    · rw [z]; omega
    · have := ih.2 p z; omega
/-- what is known of hands -/
structure Hr (ns : List Str) (ps : List Int) (L : Int) : Prop where
  n1 : 1 ≤ ns.length
  n8 : ns.length ≤ 8
  nd : ns.Nodup
  lp : ps.length = ns.length
  pp : ∀ p ∈ ps, 1 ≤ p ∧ p ≤ 12
  rs : ps.Pairwise (· ≤ ·)
  l1 : 1 ≤ L
  l5 : L ≤ 486
structure Ri (ns : List Str) (ps : List Int) (L : Int) (W : List Am) (D : Int) (s : Ch) : Prop where
  row : s.row = ns
  way : s.way = W
  fire : s.fire = L
  pc : My.pcs s = ps
  tps : ∀ n ∈ ns, (getL s.tempos n).isSome = true
  lv : s.leaving = []
  sd : Side s
  sp : ∀ x ∈ s.spots, 0 ≤ x ∧ x < (L : Rat) ∧ Fr D x
  srt : s.spots.Pairwise (· ≤ ·)
  lg : ∀ i, i < ns.length → getL s.ledgers (ns.getD i "") = some (s.now, ((ps.getD i 0 : Int) : Rat) * s.now, 0)
  lgl : s.ledgers.length ≤ ns.length
  ml : s.marks.length = s.poured.length + ns.length
  mm : ∀ m ∈ s.marks, m.length ≤ 8 * s.poured.length
  sum : (L : Rat) * (((s.poured.length : Nat) : Int) : Rat) + s.spots.sum = s.now * ((ps.sum : Int) : Rat)
  fn : Fr D s.now
  n0 : 0 ≤ s.now
section
variable {ns : List Str} {ps : List Int} {L : Int} {W : List Am} {D : Int} {s : Ch}
theorem Ri.ls (h : Ri ns ps L W D s) : s.spots.length = ns.length := by rw [h.sd.ls, h.row]
theorem Ri.ne (h : Ri ns ps L W D s) (hs : Hr ns ps L) : s.row ≠ [] := fun z => by
  have := hs.n1
  rw [← h.row, z] at this
  simp at this
theorem Ri.scale (h : Ri ns ps L W D s) (hD : 0 < D) {k : Int} (hk : 1 ≤ k) : Ri ns ps L W (D * k) s :=
  ⟨h.row, h.way, h.fire, h.pc, h.tps, h.lv, h.sd, fun x hx => ⟨(h.sp x hx).1, (h.sp x hx).2.1, (h.sp x hx).2.2.scale (by omega) (by omega)⟩, h.srt, h.lg, h.lgl, h.ml, h.mm, h.sum, h.fn.scale (by omega) (by omega), h.n0⟩
theorem Ri.lab (h : Ri ns ps L W D s) (hs : Hr ns ps L) (hp : s.poured.length ≤ 300) {p : Int} (hm : p ∈ ps) : (p : Rat) * s.now ≤ 160000 := by
  have a := mem_le_sum fun q hq => (hs.pp q hq).1
  have b : (p : Rat) ≤ ((ps.sum : Int) : Rat) := Rat.intCast_le_intCast.mpr (a.2 p hm)
  have c := Rat.mul_le_mul_of_nonneg_left b h.n0
  have d := (sum_le_len fun x hx => ⟨(h.sp x hx).1, Rat.le_of_lt (h.sp x hx).2.1⟩).2
  have e := h.sum
  have f : (L : Rat) * (((s.poured.length : Nat) : Int) : Rat) + (L : Rat) * (((s.spots.length : Nat) : Int) : Rat) ≤ 160000 := by
    rw [← Rat.intCast_mul, ← Rat.intCast_mul, ← Rat.intCast_add]
    refine Rat.intCast_le_intCast (b := 160000) |>.mpr ?_
    rw [h.ls]
    have g : L * ((s.poured.length : Nat) : Int) ≤ 486 * 300 := Int.mul_le_mul hs.l5 (by omega) (by omega) (by decide)
    have g2 : L * ((ns.length : Nat) : Int) ≤ 486 * 8 := Int.mul_le_mul hs.l5 (by have := hs.n8; omega) (by omega) (by decide)
    omega
  rw [Rat.mul_comm]
  grind
theorem Ri.now_le (h : Ri ns ps L W D s) (hs : Hr ns ps L) (hp : s.poured.length ≤ 300) : s.now ≤ 160000 := by
  have hn := hs.n1
  have hl := hs.lp
  have hm : ps.getD 0 0 ∈ ps := getD_mem (by omega)
  have a := h.lab hs hp hm
  have b : (1 : Rat) ≤ ((ps.getD 0 0 : Int) : Rat) := Rat.intCast_le_intCast.mpr (hs.pp _ hm).1
  have c := Rat.mul_le_mul_of_nonneg_right b h.n0
  rw [Rat.one_mul] at c
  exact Rat.le_trans c a
theorem Ri.wok (h : Ri ns ps L W D s) (hs : Hr ns ps L) (hD : 0 < D ∧ D.natAbs < 2 ^ 3900) (hp : s.poured.length ≤ 300) : WOk D s := by
  have hD0 : D ≠ 0 := by omega
  refine ⟨?_, hD, by rw [h.fire]; exact ⟨hs.l1, by have := hs.l5; omega⟩, by rw [h.row]; exact hs.nd, by rw [h.row]; exact h.tps, fun n hn => ?_, by have := h.lgl; have := hs.n8; omega, ⟨h.fn, h.n0, Rat.le_trans (h.now_le hs hp) (by decide)⟩⟩
  · rw [h.pc, h.fire]
    exact ⟨by rw [hs.lp, h.ls], by rw [hs.lp]; exact hs.n8, hs.pp, h.srt, fun x hx => (h.sp x hx).1, fun x hx => Rat.le_of_lt (h.sp x hx).2.1, fun x hx => (h.sp x hx).2.2⟩
  · rw [h.row] at hn
    obtain ⟨i, hi, e⟩ := List.getElem_of_mem hn
    have g := h.lg i hi
    rw [getD_lt hi, e] at g
    have hm : ps.getD i 0 ∈ ps := getD_mem (by rw [hs.lp]; exact hi)
    have hq := (hs.pp _ hm).1
    refine ⟨_, g, ⟨h.fn, h.n0, Rat.le_trans (h.now_le hs hp) (by decide)⟩, ⟨h.fn.mulI _, Rat.mul_nonneg (Rat.intCast_nonneg.mpr (by omega)) h.n0, Rat.le_trans (h.lab hs hp hm) (by decide)⟩, ⟨Fr.zero hD0, Rat.le_refl, by show (0 : Rat) ≤ 900000; decide⟩⟩
theorem Ri.fit (h : Ri ns ps L W D s) (hs : Hr ns ps L) (hj : s.poured.length ≤ 300) : Fit2 s := by
  have := hs.n8
  exact ⟨h.sd, h.lv, by rw [h.fire]; exact hs.l1, by rw [h.ml]; omega, fun m hm => by have := h.mm m hm; omega, by omega⟩
theorem Ri.rdy (h : Ri ns ps L W D s) (hs : Hr ns ps L) (hD : 0 < D ∧ D.natAbs < 2 ^ 3890) (hl : s.poured.length ≤ 300) {l : Rat} (l6 : Fr D l ∧ 0 ≤ l ∧ l ≤ 50000) : Rdy D s l :=
  ⟨h.wok hs ⟨hD.1, Nat.lt_trans hD.2 (Nat.pow_lt_pow_right (by decide) (by decide))⟩ hl, by
    rw [Int.natAbs_mul]
    have e : (2 : Nat) ^ 3900 = 2 ^ 3890 * 1024 := by rw [show (3900 : Nat) = 3890 + 10 from rfl, Nat.pow_add]
    rw [e]
    exact Nat.lt_of_lt_of_le (Nat.mul_lt_mul_of_pos_right hD.2 (by decide)) (Nat.mul_le_mul_left _ (by decide)), l6, fun x hx => by rw [h.fire]; exact (h.sp x hx).2.1, h.fit hs hl⟩
theorem Ri.meet (h : Ri ns ps L W D s) (hs : Hr ns ps L) : meetS s = ((L : Rat) - s.spots.getD (ns.length - 1) 0) / ((ps.getD (ns.length - 1) 0 : Int) : Rat) := by
  unfold meetS
  rw [h.pc, h.fire, meet_rise (by rw [hs.lp, h.ls]) hs.rs]
  unfold lastH
  rw [hs.lp]
theorem Ri.meet_fr (h : Ri ns ps L W D s) (hs : Hr ns ps L) (hD : 0 < D) : Fr (D * ps.getD (ns.length - 1) 0) (meetS s) ∧ 0 < meetS s := by
  have hn := hs.n1
  have hm : ps.getD (ns.length - 1) 0 ∈ ps := getD_mem (by rw [hs.lp]; omega)
  have hq := (hs.pp _ hm).1
  have hx := h.sp _ (getD_mem (l := s.spots) (i := ns.length - 1) (d := (0 : Rat)) (by rw [h.ls]; omega))
  rw [h.meet hs]
  refine ⟨Fr.divI (by omega) (Fr.sub (Fr.int (by omega) L) hx.2.2) (by omega), ?_⟩
  have h0 : 0 < (L : Rat) - s.spots.getD (ns.length - 1) 0 := by grind
  rw [Rat.div_def]
  exact Rat.mul_pos h0 (Rat.inv_pos.mpr (cp (by omega)))
end
/-! ### turns -/
theorem dl_last {xs : List Rat} {n : Nat} (hl : xs.length = n) (hn : 1 ≤ n) : xs = xs.dropLast ++ [xs.getD (n - 1) 0] := by
  have hsn : xs ≠ [] := fun z => by rw [z] at hl; simp at hl; omega
  have := (List.dropLast_concat_getLast hsn).symm
  rw [List.getLast_eq_getElem] at this
  rw [getD_lt (show n - 1 < xs.length by omega)]
  simp only [hl] at this
  exact this
theorem dl_cons {xs : List Rat} (hl : xs ≠ []) : ((0 : Rat) :: xs).dropLast = 0 :: xs.dropLast := by
  cases xs with
  | nil => exact absurd rfl hl
  | cons a l => rfl
/-- what turns keep -/
theorem tn_rise {s1 s' : Ch} {rows : List Rw} {L D : Int} {b : Nat} (hn : 1 ≤ s1.row.length) (hL : 1 ≤ L) (hD : D ≠ 0) (hf : s1.fire = L) (hsd : Side s1) (hsp : ∀ x ∈ s1.spots, 0 ≤ x ∧ x ≤ (L : Rat) ∧ Fr D x) (hst : s1.spots.Pairwise (· ≤ ·)) (hm : ∀ x ∈ s1.marks, x.length ≤ b) (t : Tn s1 s' rows) :
    (s'.row = s1.row ∧ s'.tempos = s1.tempos ∧ s'.leaving = s1.leaving ∧ s'.ledgers = s1.ledgers ∧ s'.now = s1.now ∧ s'.fire = s1.fire ∧ s'.way = s1.way) ∧ Side s' ∧ (∀ x ∈ s'.spots, 0 ≤ x ∧ x ≤ (L : Rat) ∧ Fr D x) ∧ s'.spots.Pairwise (· ≤ ·) ∧
    s'.marks.length = s1.marks.length + rows.length ∧ (∀ x ∈ s'.marks, x.length ≤ b + 8 * rows.length) ∧ s'.poured.length = s1.poured.length + rows.length ∧
    (L : Rat) * (((s'.poured.length : Nat) : Int) : Rat) + s'.spots.sum = (L : Rat) * (((s1.poured.length : Nat) : Int) : Rat) + s1.spots.sum := by
  induction t with
  | refl => exact ⟨⟨rfl, rfl, rfl, rfl, rfl, rfl, rfl⟩, hsd, hsp, hst, rfl, hm, rfl, rfl⟩
  | step t hne he ih =>
    rename_i s2 rows2
    obtain ⟨⟨r1, r2, r3, r4, r5, r6, r7⟩, i4, isp, ist, i5, i6, i7, i8⟩ := ih
    obtain ⟨e1, e2, e3, e4, e5, e6, e7⟩ := turnS_row s2
    obtain ⟨f1, f2, f3, f4⟩ := turnS_pour s2
    have lr : (rows2 ++ [rowS s2]).length = rows2.length + 1 := by rw [List.length_append]; rfl
    have hls : s2.spots.length = s2.row.length := i4.ls
    have hr : 1 ≤ s2.row.length := by rw [r1]; exact hn
    have hsn : s2.spots ≠ [] := fun z => by rw [z] at hls; simp at hls; omega
    have dl := dl_last hls hr
    rw [he, r6, hf] at dl
    have sub : ∀ x ∈ s2.spots.dropLast, x ∈ s2.spots := fun x hx => (List.dropLast_sublist _).subset hx
    rw [dl_cons hsn] at f3
    refine ⟨⟨by rw [e1, r1], by rw [e2, r2], by rw [e3, r3], by rw [e4, r4], by rw [e5, r5], by rw [e6, r6], by rw [e7, r7]⟩, turnS_side i4, fun x hx => ?_, ?_, by rw [f2, i5, lr]; omega, fun x hx => ?_, by rw [f1, List.length_append, i7, lr]; rfl, ?_⟩
    · rw [f3] at hx
      rcases List.mem_cons.mp hx with z | z
      · rw [z]; exact ⟨Rat.le_refl, Rat.intCast_nonneg.mpr (by omega), Fr.zero hD⟩
      · exact isp x (sub x z)
    · rw [f3, List.pairwise_cons]
      exact ⟨fun x hx => (isp x (sub x hx)).1, ist.sublist (List.dropLast_sublist _)⟩
    · have := turnS_mm i6 i4.n8 x hx
      rw [lr]
      omega
    · rw [← i8, f1, f3, List.length_append, List.sum_cons]
      have ds : s2.spots.sum = s2.spots.dropLast.sum + (L : Rat) := by
        conv => lhs; rw [dl]
        rw [List.sum_append]
        show _ + ((L : Rat) + 0) = _
        rw [Rat.add_zero]
      rw [ds, show ((s2.poured.length + [s2.loads.getD (s2.row.length - 1) 0].length : Nat) : Int) = (s2.poured.length : Int) + 1 from by show ((s2.poured.length + 1 : Nat) : Int) = _; omega, Rat.intCast_add]
      show (L : Rat) * (_ + 1) + (0 + _) = _
      grind
theorem tn_nil {s s' : Ch} (t : Tn s s' []) : s' = s := by
  generalize hr : ([] : List Rw) = rows at t
  cases t with
  | refl => rfl
  | step t _ _ => simp at hr
theorem zip_fr {ps : List Int} {xs : List Rat} {t : Rat} {D L : Int} (hD : D ≠ 0) (ft : Fr D t) (t0 : 0 ≤ t) (hp : ∀ p ∈ ps, 1 ≤ p) (hx : ∀ x ∈ xs, 0 ≤ x ∧ x < (L : Rat) ∧ Fr D x) : ∀ y ∈ List.zipWith (fun (x : Rat) (p : Int) => x + t * (p : Rat)) xs ps, 0 ≤ y ∧ Fr D y := fun y hy => by
  obtain ⟨i, hi, e⟩ := List.getElem_of_mem hy
  rw [List.length_zipWith] at hi
  rw [List.getElem_zipWith] at e
  have a := hx _ (List.getElem_mem (l := xs) (n := i) (by omega))
  have b := hp _ (List.getElem_mem (l := ps) (n := i) (by omega))
  rw [← e]
  have c : (0 : Rat) ≤ t * ((ps[i]'(by omega) : Int) : Rat) := Rat.mul_nonneg t0 (Rat.intCast_nonneg.mpr (by omega))
  refine ⟨by grind, a.2.2.add ?_⟩
  rw [Rat.mul_comm]
  exact ft.mulI _
section
variable {ns : List Str} {ps : List Int} {L : Int} {W : List Am} {D : Int} {s : Ch}
/-- walking on, not beyond the meeting, and the turns that are due -/
theorem Ri.step (h : Ri ns ps L W D s) (hs : Hr ns ps L) (hD : 0 < D) {t : Rat} (ft : Fr D t) (t0 : 0 ≤ t) (tm : t ≤ meetS s) {s' : Ch} {rows : List Rw} (it : ItR s t s' rows) :
    Ri ns ps L W D s' ∧ s'.poured.length = s.poured.length + rows.length ∧ (t = meetS s → 1 ≤ rows.length) ∧ s'.now = s.now + t := by
  obtain ⟨tn, _, nl⟩ := it
  have hD0 : D ≠ 0 := by omega
  have hn1 := hs.n1
  have hlp := hs.lp
  have hls := h.ls
  have hq : ps.getD (ns.length - 1) 0 ∈ ps := getD_mem (by omega)
  have hq1 := (hs.pp _ hq).1
  have hqp : (0 : Rat) < ((ps.getD (ns.length - 1) 0 : Int) : Rat) := cp (by omega)
  have esp : (walkS s t).spots = List.zipWith (fun (x : Rat) (p : Int) => x + t * (p : Rat)) s.spots ps := by
    show walkM (My.pcs s) s.spots t = _
    rw [h.pc, walk_rise (by omega) hs.rs]
  have lz : (walkS s t).spots.length = ns.length := by rw [esp, List.length_zipWith]; omega
  have elast : (walkS s t).spots.getD (ns.length - 1) 0 = s.spots.getD (ns.length - 1) 0 + t * ((ps.getD (ns.length - 1) 0 : Int) : Rat) := by
    rw [getD_lt (by omega), getD_lt (show ns.length - 1 < s.spots.length by omega), getD_lt (show ns.length - 1 < ps.length by omega)]
    simp only [esp, List.getElem_zipWith]
  have emeet : meetS s * ((ps.getD (ns.length - 1) 0 : Int) : Rat) = (L : Rat) - s.spots.getD (ns.length - 1) 0 := by
    rw [h.meet hs]
    have : ((ps.getD (ns.length - 1) 0 : Int) : Rat) ≠ 0 := fun z => by rw [z] at hqp; exact absurd hqp (by decide)
    grind
  have hlast : (walkS s t).spots.getD (ns.length - 1) 0 ≤ (L : Rat) := by
    rw [elast]
    have := Rat.mul_le_mul_of_nonneg_right tm (Rat.le_of_lt hqp)
    grind
  have zf : ∀ y ∈ (walkS s t).spots, 0 ≤ y ∧ Fr D y := by rw [esp]; exact zip_fr hD0 ft t0 (fun p hp => (hs.pp p hp).1) h.sp
  have zst : (walkS s t).spots.Pairwise (· ≤ ·) := by
    rw [esp, List.pairwise_iff_getElem]
    intro i j hi hj hij
    rw [List.length_zipWith] at hi hj
    rw [List.getElem_zipWith, List.getElem_zipWith]
    have a := List.pairwise_iff_getElem.mp h.srt i j (by omega) (by omega) hij
    have b := List.pairwise_iff_getElem.mp hs.rs i j (by omega) (by omega) hij
    have c := Rat.mul_le_mul_of_nonneg_left (Rat.intCast_le_intCast.mpr b) t0
    grind
  have zle : ∀ y ∈ (walkS s t).spots, y ≤ (L : Rat) := fun y hy => by
    refine Rat.le_trans ?_ hlast
    obtain ⟨i, hi, e⟩ := List.getElem_of_mem hy
    rw [← e, getD_lt (by omega)]
    rcases Nat.lt_or_ge i (ns.length - 1) with z | z
    · exact List.pairwise_iff_getElem.mp zst i (ns.length - 1) hi (by omega) z
    · have : i = ns.length - 1 := by omega
      subst this
      exact Rat.le_refl
  have hsd1 : Side (walkS s t) := ⟨h.sd.ll, by rw [lz]; show _ = s.row.length; rw [h.row], h.sd.n8, h.sd.ld⟩
  obtain ⟨⟨r1, r2, r3, r4, r5, r6, r7⟩, i4, isp, ist, i5, i6, i7, i8⟩ := tn_rise (L := L) (D := D) (b := 8 * s.poured.length) (by show 1 ≤ s.row.length; rw [h.row]; exact hn1) hs.l1 hD0 (by show s.fire = L; exact h.fire) hsd1 (fun x hx => ⟨(zf x hx).1, zle x hx, (zf x hx).2⟩) zst (by exact h.mm) tn
  have hrow : s'.row = ns := by rw [r1]; exact h.row
  have hfire : s'.fire = L := by rw [r6]; exact h.fire
  have hls' : s'.spots.length = ns.length := by rw [i4.ls, hrow]
  have hnow : s'.now = s.now + t := r5
  have hpl : s'.poured.length = s.poured.length + rows.length := i7
  have hne' : s'.row ≠ [] := fun z => by rw [hrow] at z; rw [z] at hn1; simp at hn1
  have nl' := nl hne'
  rw [hrow, hfire] at nl'
  have slt : ∀ x ∈ s'.spots, x < (L : Rat) := fun x hx => by
    have hlm := isp _ (getD_mem (l := s'.spots) (i := ns.length - 1) (d := (0 : Rat)) (by omega))
    have hl' : s'.spots.getD (ns.length - 1) 0 < (L : Rat) := by grind
    suffices hxl : x ≤ s'.spots.getD (ns.length - 1) 0 by grind
    obtain ⟨i, hi, e⟩ := List.getElem_of_mem hx
    rw [← e, getD_lt (by omega)]
    rcases Nat.lt_or_ge i (ns.length - 1) with z | z
    · exact List.pairwise_iff_getElem.mp ist i (ns.length - 1) hi (by omega) z
    · have : i = ns.length - 1 := by omega
      subst this
      exact Rat.le_refl
  refine ⟨⟨hrow, by rw [r7]; exact h.way, hfire, ?_, fun n hn => by rw [r2]; exact h.tps n hn, by rw [r3]; exact h.lv, i4, fun x hx => ⟨(isp x hx).1, slt x hx, (isp x hx).2.2⟩, ist, fun i hi => ?_, ?_, ?_, fun m hm => ?_, ?_, ?_, ?_⟩, hpl, fun te => ?_, hnow⟩
  · rw [← h.pc]
    show s'.row.map _ = s.row.map _
    rw [hrow, h.row, r2]
    rfl
  · rw [r4, hnow]
    show getL (ledN s t s.row.length) _ = _
    have hi' : i < s.row.length := by rw [h.row]; exact hi
    have g := ledN_at (s := s) (h := t) (by rw [h.row]; exact hs.nd) (Nat.le_refl _) hi'
    rw [h.row] at g ⊢
    rw [h.lg i hi, h.pc, spd_rise (by omega) hs.rs] at g
    rw [g]
    show some (s.now + t, _ * s.now + _ * t, (0 : Rat) + ((_ - _ : Int) : Rat) * t) = _
    rw [Int.sub_self]
    have e2 : (0 : Rat) + ((0 : Int) : Rat) * t = 0 := by
      show (0 : Rat) + (0 : Rat) * _ = 0
      rw [Rat.zero_mul]; decide +kernel
    rw [e2, Rat.mul_add]
  · rw [r4]
    show (ledN s t s.row.length).length ≤ _
    rw [ledN_len (fun n hn => ?_) (by rw [h.row]; exact hs.nd) _ (Nat.le_refl _)]
    · exact h.lgl
    · rw [h.row] at hn
      obtain ⟨i, hi, e⟩ := List.getElem_of_mem hn
      have g := h.lg i hi
      rw [getD_lt hi, e] at g
      exact ⟨_, g⟩
  · rw [i5, hpl]
    show s.marks.length + _ = _
    rw [h.ml]
    omega
  · have := i6 m hm
    rw [hpl]
    omega
  · rw [i8, hnow]
    show (L : Rat) * (((s.poured.length : Nat) : Int) : Rat) + (walkS s t).spots.sum = _
    rw [esp, zip_sum (by omega), Rat.add_mul, ← h.sum]
    grind
  · rw [hnow]; exact h.fn.add ft
  · rw [hnow]; have := h.n0; grind
  · rcases Nat.eq_zero_or_pos rows.length with z | z
    · exfalso
      have e0 : rows = [] := List.length_eq_zero_iff.mp z
      rw [e0] at tn
      have es := tn_nil tn
      refine nl' ?_
      rw [es, elast, te]
      grind
    · exact z
end

/-! ### hands in any order -/
theorem pair_of : ∀ {xs : List Rat}, (∀ j, j + 1 < xs.length → xs.getD j 0 ≤ xs.getD (j + 1) 0) → xs.Pairwise (· ≤ ·)
  | [], _ => .nil
  | [_], _ => by simp
  | x :: y :: l, h => by
    have ih := pair_of (xs := y :: l) fun j hj => h (j + 1) (by simpa using hj)
    have h0 : x ≤ y := h 0 (by simp)
    rw [List.pairwise_cons]
    refine ⟨fun z hz => ?_, ih⟩
    rcases List.mem_cons.mp hz with e | e
    · rw [e]; exact h0
    · exact Rat.le_trans h0 ((List.pairwise_cons.mp ih).1 z e)
theorem sum_le_sum : ∀ {ps qs : List Int}, ps.length = qs.length → (∀ j, j < qs.length → ps.getD j 0 ≤ qs.getD j 0) → ps.sum ≤ qs.sum
  | [], [], _, _ => Int.le_refl _
  | [], _ :: _, h, _ => by simp at h
  | _ :: _, [], h, _ => by simp at h
  | p :: ps, q :: qs, h, g => by
    have ih := sum_le_sum (ps := ps) (qs := qs) (by simpa using h) fun j hj => g (j + 1) (by simpa using hj)
    have h0 : p ≤ q := g 0 (by simp)
    rw [List.sum_cons, List.sum_cons]
    omega
section
variable {D L : Int} {ns : List Int} {xs : List Rat}
/-- between turns nobody gets quicker -/
theorem spd_down (w : Wk D L ns xs) {t : Rat} (h0 : 0 ≤ t) (ht : t ≤ meetM L ns xs) : ∀ {j : Nat}, j < ns.length → (spd ns (walkM ns xs t)).getD j 0 ≤ (spd ns xs).getD j 0 := by
  have hl' : ns.length = (walkM ns xs t).length := (walkM_len _ _ _).symm
  have key : ∀ k j, j < ns.length → ns.length - j ≤ k → (spd ns (walkM ns xs t)).getD j 0 ≤ (spd ns xs).getD j 0 := by
    intro k
    induction k with
    | zero => intro j h1 h2; omega
    | succ k ih =>
      intro j h1 h2
      have e1 := spd_rec hl' h1
      have e0 := spd_rec w.eq h1
      by_cases c : (spd ns xs).getD j 0 = ns.getD j 0
      · rw [c]
        exact spd_le hl' h1
      · have c1 : j + 1 < ns.length ∧ xs.getD j 0 = xs.getD (j + 1) 0 := by
          refine Classical.byContradiction fun z => c ?_
          rw [e0, if_neg z]
        rw [if_pos c1] at e0
        have c2 : (spd ns xs).getD j 0 = (spd ns xs).getD (j + 1) 0 := by
          rw [e0] at c ⊢
          unfold mnI at c ⊢
          split
          · rfl
          · rename_i z
            rw [if_neg z] at c
            exact absurd rfl c
        have c3 : (walkM ns xs t).getD j 0 = (walkM ns xs t).getD (j + 1) 0 := by
          rw [walkM_get h1, walkM_get c1.1, c1.2, c2]
        rw [e1, if_pos ⟨c1.1, c3⟩, c2]
        exact Int.le_trans (mnI_le_r _ _) (ih (j + 1) c1.1 (by omega))
  exact fun {j} hj => key _ j hj (Nat.le_refl _)
/-- the pairs of which the one behind is held up -/
def stkB (ns : List Int) (xs : List Rat) (j : Nat) : Bool := decide (xs.getD j 0 = xs.getD (j + 1) 0) && decide ((spd ns xs).getD (j + 1) 0 ≤ ns.getD j 0)
def stkN (ns : List Int) (xs : List Rat) : Nat := (List.range (ns.length - 1)).countP (stkB ns xs)
theorem stk_le (ns : List Int) (xs : List Rat) : stkN ns xs ≤ ns.length - 1 := by
  have := List.countP_le_length (p := stkB ns xs) (l := List.range (ns.length - 1))
  rw [List.length_range] at this
  exact this
theorem stk_keep (w : Wk D L ns xs) {t : Rat} (h0 : 0 ≤ t) (ht : t ≤ meetM L ns xs) {j : Nat} (hj : j + 1 < ns.length) (h : stkB ns xs j = true) : stkB ns (walkM ns xs t) j = true := by
  unfold stkB at h ⊢
  simp only [Bool.and_eq_true, decide_eq_true_eq] at h ⊢
  have e0 := spd_rec w.eq (show j < ns.length by omega)
  rw [if_pos ⟨hj, h.1⟩] at e0
  have e1 : (spd ns xs).getD j 0 = (spd ns xs).getD (j + 1) 0 := by
    rw [e0]
    unfold mnI
    split
    · rfl
    · omega
  refine ⟨by rw [walkM_get (by omega), walkM_get hj, h.1, e1], Int.le_trans (spd_down w h0 ht hj) h.2⟩
theorem cnt_lt {α : Type} {p q : α → Bool} : ∀ {l : List α}, (∀ x ∈ l, p x = true → q x = true) → (∃ x ∈ l, p x = false ∧ q x = true) → l.countP p < l.countP q
  | [], _, ⟨_, h, _⟩ => (nomatch h)
  | a :: l, h, ⟨x, hx, h1, h2⟩ => by
    have mono : l.countP p ≤ l.countP q := List.countP_mono_left fun x hx => h x (List.mem_cons_of_mem _ hx)
    rw [List.countP_cons, List.countP_cons]
    rcases List.mem_cons.mp hx with e | e
    · rw [← e, h1, h2]
      simp
      omega
    · have ih := cnt_lt (fun x hx => h x (List.mem_cons_of_mem _ hx)) ⟨x, e, h1, h2⟩
      have ha := h a List.mem_cons_self
      cases hp : p a with
      | false => simp; split <;> omega
      | true => rw [ha hp]; simp; omega
/-- a meeting ahead of the fire holds one more up -/
theorem stk_meet (w : Wk D L ns xs) (hn : 0 < ns.length) (h0 : 0 ≤ meetM L ns xs) (hf : (walkM ns xs (meetM L ns xs)).getD (ns.length - 1) 0 ≠ (L : Rat)) : stkN ns xs < stkN ns (walkM ns xs (meetM L ns xs)) := by
  refine cnt_lt (fun j hj h => stk_keep w h0 Rat.le_refl (by rw [List.mem_range] at hj; omega) h) ?_
  rcases meet_come w hn with c | ⟨j, hj, hne, he⟩
  · exact absurd (by rw [walkM_get (by omega)]; exact c) hf
  · refine ⟨j, List.mem_range.mpr (by omega), ?_, ?_⟩
    · unfold stkB
      rw [decide_eq_false hne]
      rfl
    · have lt : xs.getD j 0 < xs.getD (j + 1) 0 := by have := ps_le w hj; grind
      have g : (spd ns xs).getD (j + 1) 0 < (spd ns xs).getD j 0 := by
        refine Classical.byContradiction fun z => ?_
        have k : (((spd ns xs).getD j 0 : Int) : Rat) ≤ (((spd ns xs).getD (j + 1) 0 : Int) : Rat) := Rat.intCast_le_intCast.mpr (by omega)
        have := Rat.mul_le_mul_of_nonneg_left k h0
        grind
      unfold stkB
      simp only [Bool.and_eq_true, decide_eq_true_eq]
      refine ⟨by rw [walkM_get (by omega), walkM_get hj]; exact he, ?_⟩
      have a := spd_down w h0 Rat.le_refl hj
      have b := spd_le w.eq (show j < ns.length by omega)
      omega
/-- walking on keeps the order -/
theorem wk_walk (w : Wk D L ns xs) (hn : 0 < ns.length) (hD : D ≠ 0) {t : Rat} (ft : Fr D t) (h0 : 0 ≤ t) (ht : t ≤ meetM L ns xs) : Wk D L ns (walkM ns xs t) := by
  have st : (walkM ns xs t).Pairwise (· ≤ ·) := by
    refine pair_of fun j hj => ?_
    rw [walkM_len] at hj
    rw [walkM_get (by omega), walkM_get hj]
    exact meet_order w h0 ht hj
  have hlast : (walkM ns xs t).getD (ns.length - 1) 0 ≤ (L : Rat) := by
    rw [walkM_get (by omega)]
    exact meet_fire w hn ht
  have each : ∀ y ∈ walkM ns xs t, ∃ j, j < ns.length ∧ y = xs.getD j 0 + t * (((spd ns xs).getD j 0 : Int) : Rat) := fun y hy => by
    obtain ⟨j, hj, e⟩ := List.getElem_of_mem hy
    have hj' := hj
    rw [walkM_len] at hj'
    exact ⟨j, hj', by rw [← e, ← getD_lt (d := (0 : Rat)) hj, walkM_get hj']⟩
  refine ⟨(walkM_len _ _ _).symm, w.n8, w.pace, st, fun y hy => ?_, fun y hy => ?_, fun y hy => ?_⟩
  · obtain ⟨j, hj, rfl⟩ := each y hy
    have a := w.nn _ (getD_mem (l := xs) (i := j) (d := (0 : Rat)) (by rw [← w.eq]; exact hj))
    have b := spd_bd w hj
    have c : (0 : Rat) ≤ t * (((spd ns xs).getD j 0 : Int) : Rat) := Rat.mul_nonneg h0 (Rat.intCast_nonneg.mpr (by omega))
    grind
  · refine Rat.le_trans ?_ hlast
    obtain ⟨i, hi, e⟩ := List.getElem_of_mem hy
    have hi' := hi
    rw [walkM_len] at hi'
    rw [← e, getD_lt (by rw [walkM_len]; omega)]
    rcases Nat.lt_or_ge i (ns.length - 1) with z | z
    · exact List.pairwise_iff_getElem.mp st i (ns.length - 1) hi (by rw [walkM_len]; omega) z
    · have : i = ns.length - 1 := by omega
      subst this
      exact Rat.le_refl
  · obtain ⟨j, hj, rfl⟩ := each y hy
    refine (w.fr _ (getD_mem (l := xs) (i := j) (d := (0 : Rat)) (by rw [← w.eq]; exact hj))).add ?_
    rw [Rat.mul_comm]
    exact ft.mulI _
theorem walk_sum (hl : ns.length = xs.length) {t : Rat} (h0 : 0 ≤ t) : (walkM ns xs t).sum ≤ xs.sum + t * ((ns.sum : Int) : Rat) := by
  have e : walkM ns xs t = List.zipWith (fun (x : Rat) (p : Int) => x + t * (p : Rat)) xs (spd ns xs) := by
    have ls := spd_len ns xs hl
    refine List.ext_getElem (by rw [walkM_len, List.length_zipWith]; omega) fun i h1 h2 => ?_
    rw [walkM_len] at h1
    rw [← getD_lt (d := (0 : Rat)) (by rw [walkM_len]; exact h1), walkM_get h1, List.getElem_zipWith, getD_lt (show i < xs.length by omega), getD_lt (show i < (spd ns xs).length by omega)]
  have ls := spd_len ns xs hl
  rw [e, zip_sum (by omega)]
  have le : (spd ns xs).sum ≤ ns.sum := sum_le_sum (by omega) fun j hj => spd_le hl (by omega)
  have := Rat.mul_le_mul_of_nonneg_left (Rat.intCast_le_intCast.mpr le) h0
  grind
end

/-! ### hands come -/
structure En (ns : List Str) (ps : List Int) (L : Int) (W : List Am) (s : Ch) : Prop where
  ri : Ri ns ps L W 1 s
  now : s.now = 0
  pl : s.poured.length = 0
  lgn : ∀ n, n ∉ ns → getL s.ledgers n = none
  tl : s.tempos.length ≤ ns.length
theorem En.new (L : Int) (W : List Am) : En [] [] L W (newS L W) := by
  refine ⟨⟨rfl, rfl, rfl, rfl, fun _ h => (nomatch h), rfl, ⟨rfl, rfl, Nat.zero_le 8, fun _ h => (nomatch h)⟩, fun _ h => (nomatch h), List.Pairwise.nil, fun i hi => absurd hi (Nat.not_lt_zero i), Nat.le_refl _, rfl, fun _ h => (nomatch h), ?_, Fr.zero (by decide), Rat.le_refl⟩, rfl, rfl, fun _ _ => rfl, Nat.le_refl _⟩
  show (L : Rat) * 0 + 0 = 0 * 0
  grind
theorem En.enter {ns : List Str} {ps : List Int} {L : Int} {W : List Am} {s : Ch} (h : En ns ps L W s) {n : Str} {p : Int} (hn : n ∉ ns) (hb : nameB n = true) (h8 : ns.length < 8) (p1 : 1 ≤ p) (p12 : p ≤ 12) (hL : 1 ≤ L) : enterW s n p = none ∧ En (n :: ns) (p :: ps) L W (enterS s n p) := by
  obtain ⟨h, h0, hpl, lgn, tl⟩ := h
  have eL : (if (getL s.ledgers n).isSome = true then s.ledgers else putL s.ledgers n (0, 0, 0)) = putL s.ledgers n (0, 0, 0) := by
    rw [lgn n hn]
    rfl
  have sz : s.spots.sum = 0 := by
    have := h.sum
    rw [h0, hpl] at this
    have e : (((0 : Nat) : Int) : Rat) = 0 := rfl
    rw [e] at this
    grind
  refine ⟨?_, ⟨⟨?_, h.way, h.fire, ?_, fun m hm => ?_, h.lv, ⟨?_, ?_, ?_, fun l hl => ?_⟩, fun x hx => ?_, ?_, fun i hi => ?_, ?_, ?_, fun m hm => ?_, ?_, h.fn, h.n0⟩, h0, hpl, fun m hm => ?_, ?_⟩⟩
  · unfold enterW
    rw [if_pos hb, if_neg (by rw [h.row]; exact hn), if_pos (by unfold paceB; rw [decide_eq_true p1, decide_eq_true p12]; rfl), if_pos (by rw [h.row]; exact h8)]
  · show n :: s.row = _
    rw [h.row]
  · show ((n :: s.row).map fun m => (getL (putL s.tempos n p) m).getD 1) = _
    rw [List.map_cons, getL_put, if_pos rfl, ← h.pc]
    show p :: _ = p :: s.row.map _
    congr 1
    refine List.map_congr_left fun m hm => ?_
    rw [getL_put, if_neg fun z => hn (by rw [z, ← h.row]; exact hm)]
  · show (getL (putL s.tempos n p) m).isSome = true
    rw [getL_put]
    split
    · rfl
    · rename_i c
      exact h.tps m ((List.mem_cons.mp hm).resolve_left fun z => c z.symm)
  · show ((s.marks.length : Int) :: s.loads).length = (n :: s.row).length
    rw [List.length_cons, List.length_cons, h.sd.ll]
  · show ((0 : Rat) :: s.spots).length = (n :: s.row).length
    rw [List.length_cons, List.length_cons, h.sd.ls]
  · show (n :: s.row).length ≤ 8
    rw [h.row, List.length_cons]
    exact h8
  · show 0 ≤ l ∧ l < ((s.marks ++ [[]]).length : Int)
    rw [List.length_append]
    have hl : l ∈ (s.marks.length : Int) :: s.loads := hl
    rcases List.mem_cons.mp hl with z | z
    · rw [z]; exact ⟨by omega, by show _ < ((s.marks.length + 1 : Nat) : Int); omega⟩
    · have := h.sd.ld l z
      exact ⟨this.1, by show _ < ((s.marks.length + 1 : Nat) : Int); omega⟩
  · have hx : x ∈ (0 : Rat) :: s.spots := hx
    rcases List.mem_cons.mp hx with z | z
    · rw [z]; exact ⟨Rat.le_refl, cp (by omega), Fr.zero (by decide)⟩
    · exact h.sp x z
  · show ((0 : Rat) :: s.spots).Pairwise _
    rw [List.pairwise_cons]
    exact ⟨fun x hx => (h.sp x hx).1, h.srt⟩
  · show getL (if (getL s.ledgers n).isSome = true then s.ledgers else putL s.ledgers n (0, 0, 0)) _ = some (s.now, _ * s.now, 0)
    rw [eL, getL_put]
    cases i with
    | zero =>
      rw [List.getD_cons_zero, if_pos rfl, h0, Rat.mul_zero]
    | succ i =>
      have hi' : i < ns.length := by rw [List.length_cons] at hi; omega
      rw [List.getD_cons_succ, List.getD_cons_succ, if_neg fun z => hn (by rw [z]; exact getD_mem hi')]
      exact h.lg i hi'
  · show (if (getL s.ledgers n).isSome = true then s.ledgers else putL s.ledgers n (0, 0, 0)).length ≤ _
    rw [eL]
    have := putL_len s.ledgers n (0, 0, 0)
    have := h.lgl
    rw [List.length_cons]
    omega
  · show (s.marks ++ [[]]).length = s.poured.length + _
    rw [List.length_append, h.ml, List.length_cons]
    rfl
  · have hm : m ∈ s.marks ++ [[]] := hm
    rcases List.mem_append.mp hm with z | z
    · exact h.mm m z
    · rw [List.mem_singleton.mp z]; exact Nat.zero_le _
  · show (L : Rat) * (((s.poured.length : Nat) : Int) : Rat) + ((0 : Rat) :: s.spots).sum = s.now * _
    rw [List.sum_cons, sz, h0, hpl]
    show (L : Rat) * 0 + (0 + 0) = _
    grind
  · show getL (if (getL s.ledgers n).isSome = true then s.ledgers else putL s.ledgers n (0, 0, 0)) m = _
    rw [eL, getL_put, if_neg fun z => hm (by rw [z]; exact List.mem_cons_self)]
    exact lgn m fun z => hm (List.mem_cons_of_mem _ z)
  · show (putL s.tempos n p).length ≤ _
    have := putL_len s.tempos n p
    rw [List.length_cons]
    omega

/-! ### a chain in any order, nobody called away -/
structure Hg (ns : List Str) (ps : List Int) (L : Int) : Prop where
  n1 : 1 ≤ ns.length
  n8 : ns.length ≤ 8
  nd : ns.Nodup
  lp : ps.length = ns.length
  pp : ∀ p ∈ ps, 1 ≤ p ∧ p ≤ 12
  l1 : 1 ≤ L
  l5 : L ≤ 486
def Lg (D : Int) (b : Rat) (x : Rat × Rat × Rat) : Prop := (Fr D x.1 ∧ 0 ≤ x.1 ∧ x.1 ≤ b) ∧ (Fr D x.2.1 ∧ 0 ≤ x.2.1 ∧ x.2.1 ≤ 12 * b) ∧ (Fr D x.2.2 ∧ 0 ≤ x.2.2 ∧ x.2.2 ≤ 12 * b)
structure Gn (ns : List Str) (ps : List Int) (L : Int) (W : List Am) (D : Int) (s : Ch) : Prop where
  row : s.row = ns
  way : s.way = W
  fire : s.fire = L
  pc : My.pcs s = ps
  tps : ∀ n ∈ ns, (getL s.tempos n).isSome = true
  lv : s.leaving = []
  sd : Side s
  sp : ∀ x ∈ s.spots, 0 ≤ x ∧ x < (L : Rat) ∧ Fr D x
  srt : s.spots.Pairwise (· ≤ ·)
  lg : ∀ n ∈ ns, ∃ x, getL s.ledgers n = some x ∧ Lg D s.now x
  lgl : s.ledgers.length ≤ ns.length
  ml : s.marks.length = s.poured.length + ns.length
  mm : ∀ m ∈ s.marks, m.length ≤ 8 * s.poured.length
  le : (L : Rat) * (((s.poured.length : Nat) : Int) : Rat) + s.spots.sum ≤ s.now * ((ps.sum : Int) : Rat)
  fn : Fr D s.now
  n0 : 0 ≤ s.now
theorem Ri.gn {ns : List Str} {ps : List Int} {L : Int} {W : List Am} {D : Int} {s : Ch} (h : Ri ns ps L W D s) (hD : D ≠ 0) (hl : ps.length = ns.length) (hp : ∀ p ∈ ps, 1 ≤ p ∧ p ≤ 12) : Gn ns ps L W D s :=
  ⟨h.row, h.way, h.fire, h.pc, h.tps, h.lv, h.sd, h.sp, h.srt, fun n hn => by
    obtain ⟨i, hi, e⟩ := List.getElem_of_mem hn
    have g := h.lg i hi
    rw [getD_lt hi, e] at g
    have k := hp _ (getD_mem (l := ps) (i := i) (d := 0) (by omega))
    have k12 : ((ps.getD i 0 : Int) : Rat) ≤ 12 := Rat.intCast_le_intCast (b := 12) |>.mpr k.2
    refine ⟨_, g, ⟨h.fn, h.n0, Rat.le_refl⟩, ⟨h.fn.mulI _, Rat.mul_nonneg (Rat.intCast_nonneg.mpr (by omega)) h.n0, Rat.mul_le_mul_of_nonneg_right k12 h.n0⟩, ⟨Fr.zero hD, Rat.le_refl, ?_⟩⟩
    have := h.n0
    grind, h.lgl, h.ml, h.mm, by rw [h.sum]; exact Rat.le_refl, h.fn, h.n0⟩
theorem Lg.up {D k : Int} {b : Rat} {x : Rat × Rat × Rat} (h : Lg D b x) (hD : D ≠ 0) (hk : k ≠ 0) : Lg (D * k) b x :=
  ⟨⟨h.1.1.scale hD hk, h.1.2⟩, ⟨h.2.1.1.scale hD hk, h.2.1.2⟩, ⟨h.2.2.1.scale hD hk, h.2.2.2⟩⟩
section
variable {ns : List Str} {ps : List Int} {L : Int} {W : List Am} {D : Int} {s : Ch}
theorem Gn.ls (h : Gn ns ps L W D s) : s.spots.length = ns.length := by rw [h.sd.ls, h.row]
theorem Gn.ne (h : Gn ns ps L W D s) (hs : Hg ns ps L) : s.row ≠ [] := fun z => by
  have := hs.n1
  rw [← h.row, z] at this
  simp at this
theorem Gn.scale (h : Gn ns ps L W D s) (hD : 0 < D) {k : Int} (hk : 1 ≤ k) : Gn ns ps L W (D * k) s :=
  ⟨h.row, h.way, h.fire, h.pc, h.tps, h.lv, h.sd, fun x hx => ⟨(h.sp x hx).1, (h.sp x hx).2.1, (h.sp x hx).2.2.scale (by omega) (by omega)⟩, h.srt, fun n hn => by obtain ⟨x, e, g⟩ := h.lg n hn; exact ⟨x, e, g.up (by omega) (by omega)⟩, h.lgl, h.ml, h.mm, h.le, h.fn.scale (by omega) (by omega), h.n0⟩
theorem Gn.wk (h : Gn ns ps L W D s) (hs : Hg ns ps L) : Wk D L ps s.spots :=
  ⟨by rw [hs.lp, h.ls], by rw [hs.lp]; exact hs.n8, hs.pp, h.srt, fun x hx => (h.sp x hx).1, fun x hx => Rat.le_of_lt (h.sp x hx).2.1, fun x hx => (h.sp x hx).2.2⟩
theorem Gn.wok (h : Gn ns ps L W D s) (hs : Hg ns ps L) (hD : 0 < D ∧ D.natAbs < 2 ^ 3900) (hn : s.now ≤ 70000) : WOk D s := by
  refine ⟨by rw [h.pc, h.fire]; exact h.wk hs, hD, by rw [h.fire]; exact ⟨hs.l1, by have := hs.l5; omega⟩, by rw [h.row]; exact hs.nd, by rw [h.row]; exact h.tps, fun n hn' => ?_, by have := h.lgl; have := hs.n8; omega, ⟨h.fn, h.n0, Rat.le_trans hn (by decide)⟩⟩
  rw [h.row] at hn'
  obtain ⟨x, e, g1, g2, g3⟩ := h.lg n hn'
  have h0 := h.n0
  exact ⟨x, e, ⟨g1.1, g1.2.1, by grind⟩, ⟨g2.1, g2.2.1, by grind⟩, ⟨g3.1, g3.2.1, by grind⟩⟩
theorem Gn.fit (h : Gn ns ps L W D s) (hs : Hg ns ps L) (hj : s.poured.length ≤ 300) : Fit2 s := by
  have := hs.n8
  exact ⟨h.sd, h.lv, by rw [h.fire]; exact hs.l1, by rw [h.ml]; omega, fun m hm => by have := h.mm m hm; omega, by omega⟩
theorem Gn.rdy (h : Gn ns ps L W D s) (hs : Hg ns ps L) (hD : 0 < D ∧ D.natAbs < 2 ^ 3890) (hn : s.now ≤ 70000) (hl : s.poured.length ≤ 300) {l : Rat} (l6 : Fr D l ∧ 0 ≤ l ∧ l ≤ 50000) : Rdy D s l :=
  ⟨h.wok hs ⟨hD.1, Nat.lt_trans hD.2 (Nat.pow_lt_pow_right (by decide) (by decide))⟩ hn, by
    rw [Int.natAbs_mul]
    have e : (2 : Nat) ^ 3900 = 2 ^ 3890 * 1024 := by rw [show (3900 : Nat) = 3890 + 10 from rfl, Nat.pow_add]
    rw [e]
    exact Nat.lt_of_lt_of_le (Nat.mul_lt_mul_of_pos_right hD.2 (by decide)) (Nat.mul_le_mul_left _ (by decide)), l6, fun x hx => by rw [h.fire]; exact (h.sp x hx).2.1, h.fit hs hl⟩
theorem Gn.meet (h : Gn ns ps L W D s) : meetS s = meetM L ps s.spots := by
  unfold meetS
  rw [h.pc, h.fire]
theorem Gn.meet_fr (h : Gn ns ps L W D s) (hs : Hg ns ps L) (hD : 0 < D) : ∃ k : Int, 1 ≤ k ∧ k ≤ 12 ∧ Fr (D * k) (meetS s) ∧ 0 < meetS s ∧ meetS s ≤ 486 := by
  have hn : 0 < ps.length := by rw [hs.lp]; exact hs.n1
  obtain ⟨k, k1, k2, k3, k4, k5⟩ := meetF_ok (h.wk hs) (by omega) hn (Nat.le_refl _)
  rw [h.meet]
  exact ⟨k, k1, k2, k3, meet_pos (h.wk hs) hn fun p hp => (h.sp p hp).2.1, Rat.le_trans k5 (Rat.intCast_le_intCast (b := 486) |>.mpr hs.l5)⟩
theorem led_on {D : Int} {b t : Rat} {x : Rat × Rat × Rat} {p v : Int} (g : Lg D b x) (ft : Fr D t) (t0 : 0 ≤ t) (v1 : 1 ≤ v) (vp : v ≤ p) (p12 : p ≤ 12) : Lg D (b + t) (ledAdd x p v t) := by
  have a1 : (v : Rat) ≤ 12 := Rat.intCast_le_intCast (b := 12) |>.mpr (by omega)
  have a2 : ((p - v : Int) : Rat) ≤ 12 := Rat.intCast_le_intCast (b := 12) |>.mpr (by omega)
  have b1 := Rat.mul_le_mul_of_nonneg_right a1 t0
  have b2 := Rat.mul_le_mul_of_nonneg_right a2 t0
  have c1 : (0 : Rat) ≤ (v : Rat) * t := Rat.mul_nonneg (Rat.intCast_nonneg.mpr (by omega)) t0
  have c2 : (0 : Rat) ≤ ((p - v : Int) : Rat) * t := Rat.mul_nonneg (Rat.intCast_nonneg.mpr (by omega)) t0
  obtain ⟨⟨g1, g2, g3⟩, ⟨g4, g5, g6⟩, ⟨g7, g8, g9⟩⟩ := g
  refine ⟨⟨g1.add ft, ?_, ?_⟩, ⟨g4.add (ft.mulI _), ?_, ?_⟩, ⟨g7.add (ft.mulI _), ?_, ?_⟩⟩
  · show 0 ≤ x.1 + t; grind
  · show x.1 + t ≤ b + t; grind
  · show 0 ≤ x.2.1 + _; grind
  · show x.2.1 + _ ≤ _; grind
  · show 0 ≤ x.2.2 + _; grind
  · show x.2.2 + _ ≤ _; grind
/-- walking on, not beyond the meeting, and the turns that are due -/
theorem Gn.step (h : Gn ns ps L W D s) (hs : Hg ns ps L) (hD : 0 < D) {t : Rat} (ft : Fr D t) (t0 : 0 ≤ t) (tm : t ≤ meetS s) {s' : Ch} {rows : List Rw} (it : ItR s t s' rows) :
    Gn ns ps L W D s' ∧ s'.poured.length = s.poured.length + rows.length ∧ (t = meetS s → 1 ≤ rows.length ∨ stkN ps s.spots < stkN ps s'.spots) ∧ s'.now = s.now + t := by
  obtain ⟨tn, _, nl⟩ := it
  have hD0 : D ≠ 0 := by omega
  have hn1 := hs.n1
  have hlp := hs.lp
  have hls := h.ls
  have hn : 0 < ps.length := by omega
  have w := h.wk hs
  rw [h.meet] at tm
  have w1 := wk_walk w hn hD0 ft t0 tm
  have esp : (walkS s t).spots = walkM ps s.spots t := by
    show walkM (My.pcs s) s.spots t = _
    rw [h.pc]
  have hsd1 : Side (walkS s t) := ⟨h.sd.ll, by rw [esp, walkM_len]; show _ = s.row.length; rw [h.row]; omega, h.sd.n8, h.sd.ld⟩
  obtain ⟨⟨r1, r2, r3, r4, r5, r6, r7⟩, i4, isp, ist, i5, i6, i7, i8⟩ := tn_rise (L := L) (D := D) (b := 8 * s.poured.length) (by show 1 ≤ s.row.length; rw [h.row]; exact hn1) hs.l1 hD0 (by show s.fire = L; exact h.fire) hsd1 (fun x hx => by rw [esp] at hx; exact ⟨w1.nn x hx, w1.fire x hx, w1.fr x hx⟩) (by rw [esp]; exact w1.rise) (by exact h.mm) tn
  have hrow : s'.row = ns := by rw [r1]; exact h.row
  have hfire : s'.fire = L := by rw [r6]; exact h.fire
  have hls' : s'.spots.length = ns.length := by rw [i4.ls, hrow]
  have hnow : s'.now = s.now + t := r5
  have hpl : s'.poured.length = s.poured.length + rows.length := i7
  have hne' : s'.row ≠ [] := fun z => by rw [hrow] at z; rw [z] at hn1; simp at hn1
  have nl' := nl hne'
  rw [hrow, hfire] at nl'
  have slt : ∀ x ∈ s'.spots, x < (L : Rat) := fun x hx => by
    have hlm := isp _ (getD_mem (l := s'.spots) (i := ns.length - 1) (d := (0 : Rat)) (by omega))
    have hl' : s'.spots.getD (ns.length - 1) 0 < (L : Rat) := by grind
    suffices hxl : x ≤ s'.spots.getD (ns.length - 1) 0 by grind
    obtain ⟨i, hi, e⟩ := List.getElem_of_mem hx
    rw [← e, getD_lt (by omega)]
    rcases Nat.lt_or_ge i (ns.length - 1) with z | z
    · exact List.pairwise_iff_getElem.mp ist i (ns.length - 1) hi (by omega) z
    · have : i = ns.length - 1 := by omega
      subst this
      exact Rat.le_refl
  refine ⟨⟨hrow, by rw [r7]; exact h.way, hfire, ?_, fun n hn => by rw [r2]; exact h.tps n hn, by rw [r3]; exact h.lv, i4, fun x hx => ⟨(isp x hx).1, slt x hx, (isp x hx).2.2⟩, ist, fun n hn => ?_, ?_, ?_, fun m hm => ?_, ?_, ?_, ?_⟩, hpl, fun te => ?_, hnow⟩
  · rw [← h.pc]
    show s'.row.map _ = s.row.map _
    rw [hrow, h.row, r2]
    rfl
  · rw [r4, hnow]
    show ∃ x, getL (ledN s t s.row.length) n = some x ∧ _
    obtain ⟨i, hi, e⟩ := List.getElem_of_mem hn
    have hi' : i < s.row.length := by rw [h.row]; exact hi
    have en : s.row.getD i "" = n := by rw [h.row, getD_lt hi]; exact e
    have g := ledN_at (s := s) (h := t) (by rw [h.row]; exact hs.nd) (Nat.le_refl _) hi'
    obtain ⟨x, ex, lx⟩ := h.lg n hn
    rw [en, ex, h.pc] at g
    have hip : i < ps.length := by omega
    have k := hs.pp _ (getD_mem (l := ps) (i := i) (d := 0) hip)
    exact ⟨_, g, led_on lx ft t0 (spd_bd w hip).1 (spd_le w.eq hip) k.2⟩
  · rw [r4]
    show (ledN s t s.row.length).length ≤ _
    rw [ledN_len (fun n hn => ?_) (by rw [h.row]; exact hs.nd) _ (Nat.le_refl _)]
    · exact h.lgl
    · rw [h.row] at hn
      obtain ⟨x, ex, _⟩ := h.lg n hn
      exact ⟨_, ex⟩
  · rw [i5, hpl]
    show s.marks.length + _ = _
    rw [h.ml]
    omega
  · have := i6 m hm
    rw [hpl]
    omega
  · rw [i8, hnow]
    show (L : Rat) * (((s.poured.length : Nat) : Int) : Rat) + (walkS s t).spots.sum ≤ _
    rw [esp, Rat.add_mul]
    have a := walk_sum (ns := ps) (xs := s.spots) (by omega) t0
    have b := h.le
    grind
  · rw [hnow]; exact h.fn.add ft
  · rw [hnow]; have := h.n0; grind
  · rcases Nat.eq_zero_or_pos rows.length with z | z
    · have e0 : rows = [] := List.length_eq_zero_iff.mp z
      rw [e0] at tn
      have es := tn_nil tn
      right
      rw [es, esp, te, h.meet]
      rw [es, esp, te, h.meet] at nl'
      refine stk_meet w hn ?_ (by rw [hlp]; exact nl')
      rw [← h.meet, ← te]
      exact t0
    · exact .inl z
end
theorem pw4_le {D : Int} {a b : Nat} (h : D.natAbs < 2 ^ a) (hab : a ≤ b) : D.natAbs < 2 ^ b := Nat.lt_of_lt_of_le h (Nat.pow_le_pow_right (by decide) hab)
theorem pw4_mul {D k : Int} {a : Nat} (h : D.natAbs < 2 ^ a) (h1 : 1 ≤ k) (h12 : k ≤ 12) : (D * k).natAbs < 2 ^ (a + 4) := by
  rw [Int.natAbs_mul, Nat.pow_add]
  exact Nat.mul_lt_mul'' h (show k.natAbs < 16 by omega)
theorem copy_same {s0 s : Ch} {l : Rat} (h1 : s.fire = s0.fire) (h2 : s.way = s0.way) (h3 : l = 0) : copyS s0 { s with now := s.now + l } = s := by
  subst h3
  unfold copyS
  rw [← h1, ← h2, Rat.add_zero]
/-- from meeting to meeting, k of them -/
inductive RnK (s0 : Ch) (h0 : Rat) : Nat → Ch → Rat → Prop
  | refl : RnK s0 h0 0 s0 h0
  | step {k : Nat} {s s' : Ch} {l : Rat} {rows : List Rw} (h : RnK s0 h0 k s l) (hne : s.row ≠ []) (hl : 0 < l) (it : ItR s (mnR l (meetS s)) s' rows) : RnK s0 h0 (k + 1) s' (l - mnR l (meetS s))
theorem go_gn {K : PySem.W.Frag} {T : Tb} {CP CC : Addr} {H : Hp} {c : Addr} {Q : VK} {E : XK} {ns : List Str} {ps : List Int} {L : Int} {W : List Am} {D : Int} {s0 : Ch} {e : Nat} (h : Gn ns ps L W D s0) (hs : Hg ns ps L) (hD : 0 < D ∧ D.natAbs < 2 ^ e) (he : e ≤ 1500) (hpo : s0.poured.length ≤ 200) {h0 : Rat} (f0 : Fr D h0) (p0 : 0 ≤ h0) (p6 : h0 ≤ 60) (pn : s0.now ≤ 60000)
    (kT : ∀ D' s H' A' q us (rows : List Rw), (∃ k, RnK s0 h0 k s 0) → Gn ns ps L W D' s → (0 < D' ∧ D'.natAbs < 2 ^ (2000 + e)) → s.poured.length = s0.poured.length + rows.length → rows.length ≤ 60 → s.now = s0.now + h0 → Sx T [c] H H' → ChAt K CC H' c A' s → (∀ x ∈ ownC c A', x = c ∨ H x = none) → q ∉ ownC c A' → H q = none → H' q = some (.lst us) → DpAll K H' us (rows.map rowD) → Q (.ref q) H')
    (kX : ∀ D' s, Gn ns ps L W D' s → s0.poured.length + 60 < s.poured.length → s.now ≤ s0.now + h0 → ∀ cls d H', Sm T H H' → Rf K CP "too long" cls d H' → E cls d H') :
  GoP K T CP CC H c s0 (am h0) Q E := by
  unfold GoP
  have sb : ∀ xs, stkN ps xs ≤ 7 := fun xs => by have := stk_le ps xs; have := hs.lp; have := hs.n8; omega
  refine ⟨h0, fun s l rows n => ∃ D', (∃ k, RnK s0 h0 k s l) ∧ Gn ns ps L W D' s ∧ (0 < D' ∧ D'.natAbs < 2 ^ (4 * (500 - n) + e)) ∧ Fr D' l ∧ 0 ≤ l ∧ l ≤ 60 ∧ s.now + l = s0.now + h0 ∧ s.poured.length = s0.poured.length + rows.length ∧ rows.length ≤ 60 ∧ n = (if l = 0 then 0 else 1) + 8 * (60 - rows.length) + (7 - stkN ps s.spots), _, rfl, ⟨D, ⟨0, .refl⟩, h, ⟨hD.1, pw4_le hD.2 (by omega)⟩, f0, p0, p6, rfl, rfl, by decide, rfl⟩, ?_, ?_, ?_, ?_, ?_⟩
  · rintro s l rows n ⟨D', ⟨k0, rk⟩, ri, bd, fl, l0, l6, en, epl, r60, rfl⟩
    have w := ri.wok hs ⟨bd.1, pw4_le bd.2 (by omega)⟩ (by grind)
    exact ⟨ok6_bd w.hD w.now, ok6_bd w.hD ⟨fl, l0, Rat.le_trans l6 (by decide)⟩, by omega, by omega⟩
  · rintro s l rows n ⟨D', ⟨k0, rk⟩, ri, bd, fl, l0, l6, en, epl, r60, rfl⟩ _ _
    exact ⟨D', ri.rdy hs ⟨bd.1, pw4_le bd.2 (by omega)⟩ (by grind) (by omega) ⟨fl, l0, Rat.le_trans l6 (by decide)⟩⟩
  · rintro s l rows n ⟨D', ⟨k0, rk⟩, ri, bd, fl, l0, l6, en, epl, r60, rfl⟩ hne lp s' rows' it hle
    have rk2 := rk.step hne lp it
    have ln : l ≠ 0 := fun z => by rw [z] at lp; exact absurd lp (by decide)
    have sb1 := sb s.spots
    have sb2 := sb s'.spots
    by_cases hc : meetS s < l
    · have em : mnR l (meetS s) = meetS s := if_pos hc
      rw [em] at it rk2 ⊢
      obtain ⟨kk, k1, k12, mf, mp, _⟩ := ri.meet_fr hs bd.1
      have ri2 := ri.scale bd.1 k1
      have pos2 : 0 < D' * kk := Int.mul_pos bd.1 (by omega)
      obtain ⟨r3, e3, e4, e5⟩ := ri2.step hs pos2 mf (Rat.le_of_lt mp) Rat.le_refl it
      have r1 := e4 rfl
      have lr : (rows ++ rows').length = rows.length + rows'.length := List.length_append
      have hlt : (if l - meetS s = 0 then 0 else 1) + 8 * (60 - (rows ++ rows').length) + (7 - stkN ps s'.spots) < (if l = 0 then 0 else 1) + 8 * (60 - rows.length) + (7 - stkN ps s.spots) := by
        rw [if_neg ln, lr]
        split <;> omega
      refine ⟨_, hlt, D' * kk, ⟨_, rk2⟩, r3, ⟨pos2, pw4_le (pw4_mul bd.2 k1 k12) (by rw [if_neg ln] at hlt ⊢; omega)⟩, (fl.scale (by omega) (by omega)).sub mf, by grind, by grind, by rw [e5]; grind, by omega, by omega, rfl⟩
    · have em : mnR l (meetS s) = l := if_neg hc
      rw [em] at it rk2 ⊢
      obtain ⟨r3, e3, e4, e5⟩ := ri.step hs bd.1 fl l0 (Rat.not_lt.mp hc) it
      have ez : l - l = 0 := by grind
      rw [ez] at rk2 ⊢
      have lr : (rows ++ rows').length = rows.length + rows'.length := List.length_append
      have mono : rows'.length = 0 → stkN ps s.spots ≤ stkN ps s'.spots := fun z => by
        have e0 : rows' = [] := List.length_eq_zero_iff.mp z
        have tn := it.1
        rw [e0] at tn
        have es := tn_nil tn
        rw [es]
        show _ ≤ stkN ps (walkM (My.pcs s) s.spots l)
        rw [ri.pc]
        refine List.countP_mono_left fun j hj hh => stk_keep (ri.wk hs) l0 ?_ (by rw [List.mem_range] at hj; omega) hh
        rw [← ri.meet]
        exact Rat.not_lt.mp hc
      have hlt : (if (0 : Rat) = 0 then 0 else 1) + 8 * (60 - (rows ++ rows').length) + (7 - stkN ps s'.spots) < (if l = 0 then 0 else 1) + 8 * (60 - rows.length) + (7 - stkN ps s.spots) := by
        rw [if_neg ln, if_pos rfl, lr]
        rcases Nat.eq_zero_or_pos rows'.length with z | z
        · have := mono z
          omega
        · omega
      refine ⟨_, hlt, D', ⟨_, rk2⟩, r3, ⟨bd.1, pw4_le bd.2 (by rw [if_neg ln] at hlt ⊢; omega)⟩, Fr.zero (by omega), Rat.le_refl, by decide, by rw [e5]; grind, by omega, by omega, rfl⟩
  · rintro s l rows n ⟨D', ⟨k0, rk⟩, ri, bd, fl, l0, l6, en, epl, r60, rfl⟩ hz H' A' q us x h' fr nq np ep du
    have hz : ¬ 0 < l := hz.resolve_left (ri.ne hs)
    have l00 : l = 0 := by grind
    rw [copy_same (by rw [ri.fire, h.fire]) (by rw [ri.way, h.way]) l00] at h'
    rw [l00, Rat.add_zero] at en
    rw [l00] at rk
    exact kT D' s H' A' q us rows ⟨_, rk⟩ ri ⟨bd.1, pw4_le bd.2 (by omega)⟩ epl r60 en x h' fr nq np ep du
  · rintro s l rows n ⟨D', ⟨k0, rk⟩, ri, bd, fl, l0, l6, en, epl, r60, rfl⟩ _ lp s' rows' it hgt cls d H' sm rf
    by_cases hc : meetS s < l
    · have em : mnR l (meetS s) = meetS s := if_pos hc
      rw [em] at it
      obtain ⟨kk, k1, k12, mf, mp, _⟩ := ri.meet_fr hs bd.1
      obtain ⟨r3, e3, e4, e5⟩ := (ri.scale bd.1 k1).step hs (Int.mul_pos bd.1 (by omega)) mf (Rat.le_of_lt mp) Rat.le_refl it
      exact kX _ s' r3 hgt (by rw [e5]; grind) cls d H' sm rf
    · have em : mnR l (meetS s) = l := if_neg hc
      rw [em] at it
      obtain ⟨r3, e3, e4, e5⟩ := ri.step hs bd.1 fl l0 (Rat.not_lt.mp hc) it
      exact kX _ s' r3 hgt (by rw [e5]; grind) cls d H' sm rf

def ordW (L : Int) (zs : List Int) : Option Str := if 1 ≤ L ∧ L ≤ 54 then pcW 4 zs else some "bad labour"
def sp_p_check_ordered (K : PySem.W.Frag) (T : Tb) (CP : Addr) : Sp := fun vs H Q E => ∃ (L : Int) (a : Addr) (zs : List Int), vs = [.int L, .ref a] ∧ SqL K H a (zs.map V.int) ∧ (ordW L zs = none → Q .non H) ∧ (∀ wd, ordW L zs = some wd → ∀ cls d H', Sm T H H' → Rf K CP wd cls d H' → E cls d H')
theorem ok_p_check_ordered {f : Addr} {fd : FuncData} {u_MOST_LABOUR : Value} {u_MOST_ORDERED : Value} (F : Fun K "check_ordered" "check_ordered" s_p_check_ordered f fd) (C_MOST_LABOUR : RelV (.int 54) u_MOST_LABOUR ∧ mg "MOST_LABOUR" = some u_MOST_LABOUR) (C_MOST_ORDERED : RelV (.int 4) u_MOST_ORDERED ∧ mg "MOST_ORDERED" = some u_MOST_ORDERED) {CP : Addr} (R_BadLabour : Err P w K mg base CP "BadLabour" "bad labour") (F_p_is_within : Fn P w K mg base 2 "is_within" ["thing", "least", "most"] (sp_p_is_within K T)) (F_p_check_paces : Fx P w K mg base 5 "check_paces" ["paces", "most"] (sp_p_check_paces K T CP)) : FnOk P w K mg base (L2.CX P w) 6 f fd ["labour", "paces"] (sp_p_check_ordered K T CP) := by
  obtain ⟨⟨tM, rfl⟩, gM⟩ := id C_MOST_LABOUR
  obtain ⟨⟨tP, rfl⟩, gP⟩ := id C_MOST_ORDERED
  refine F.okX sc_p_check_ordered (fun vs H Q E h => ?_) (fun cdv A outer s H vs Q E hr h => ?_)
  · obtain ⟨L, a, zs, rfl, _⟩ := h
    rfl
  · obtain ⟨L, a, zs, rfl, ha, k1, k2⟩ := h
    refine ⟨_, (pss_cons (ps_if (pt_not (pt_val (pe_fn F_p_is_within (hr.mono (by decide)) (pa_cons (pv 0) (pa_cons pe_int (pa_cons (pe_glob (by rfl) C_MOST_LABOUR.2 C_MOST_LABOUR.1) pa_nil)))))) (pss_one (ps_raise rfl (takes_of rfl rfl rfl rfl) (pmk_err R_BadLabour (hr.mono (by decide)) (by rfl)))) pss_nil)
      (pss_one (ps_expr (pe_fx F_p_check_paces (hr.mono (by decide)) (takes_of rfl rfl rfl rfl) (pa_cons (pv 1) (pa_cons (pe_glob (by rfl) C_MOST_ORDERED.2 C_MOST_ORDERED.1) pa_nil)))))), ?_⟩
    refine ⟨_, rfl, L, 1, 54, rfl, _, rfl, ?_⟩
    show if (!(decide (1 ≤ L) && decide (L ≤ 54))) = true then _ else _
    rw [← Bool.decide_and]
    by_cases c : 1 ≤ L ∧ L ≤ 54
    · rw [decide_eq_true c]
      exact iteF ⟨_, rfl, a, zs, 4, rfl, ha, fun z => k1 (by unfold ordW; rw [if_pos c]; exact z), fun wd z => k2 wd (by unfold ordW; rw [if_pos c]; exact z)⟩
    · rw [decide_eq_false c]
      exact iteT fun cls dd hn rf => k2 "bad labour" (by unfold ordW; rw [if_neg c]) cls (some dd) _ (same_upd hn) rf
/-! ### hours -/
theorem hrs_facts {h : Rat} (hB : hoursB (am h) = true) : 0 ≤ h ∧ h ≤ 60 ∧ 0 < (am h).2 ∧ (am h).2 ≤ 60 ∧ Fr (am h).2 h := by
  unfold hoursB at hB
  rw [show ((0, 1) : Int × Int) = am 0 from am_zero.symm, show ((60, 1) : Int × Int) = am ((60 : Int) : Rat) from (am_int 60).symm, below_am, below_am] at hB
  simp only [Bool.and_eq_true, Bool.not_eq_true', decide_eq_false_iff_not, decide_eq_true_eq, Rat.not_lt] at hB
  exact ⟨hB.1.1, hB.1.2, am_pos h, hB.2, ⟨(am h).1, (vl_am h).symm⟩⟩
theorem pc_facts {m : Int} {zs : List Int} (h : pcW m zs = none) : 1 ≤ zs.length ∧ (zs.length : Int) ≤ m ∧ ∀ z ∈ zs, 1 ≤ z ∧ z ≤ 12 := by
  unfold pcW at h
  split at h
  · cases h
  · rename_i c
    have c := Classical.not_not.mp c
    split at h
    · rename_i d
      refine ⟨by omega, c.2, fun z hz => ?_⟩
      have := List.all_eq_true.mp d z hz
      unfold paceB at this
      simp only [Bool.and_eq_true, decide_eq_true_eq] at this
      exact this
    · cases h
theorem ord_facts {L : Int} {zs : List Int} (h : ordW L zs = none) : 1 ≤ L ∧ L ≤ 54 ∧ 1 ≤ zs.length ∧ zs.length ≤ 4 ∧ (∀ z ∈ zs, 1 ≤ z ∧ z ≤ 12) ∧ 1 ≤ zs.sum ∧ zs.sum ≤ 48 := by
  unfold ordW at h
  split at h
  · rename_i c
    obtain ⟨p1, p2, p3⟩ := pc_facts h
    have a := mem_le_sum fun z hz => (p3 z hz).1
    have b := sum_bd (c := 12) (by decide) zs fun z hz => ⟨by have := p3 z hz; omega, (p3 z hz).2⟩
    have d := a.2 _ (getD_mem (l := zs) (i := 0) (d := 0) (by omega))
    have e := p3 _ (getD_mem (l := zs) (i := 0) (d := 0) (by omega))
    exact ⟨c.1, c.2, p1, by omega, p3, by omega, by omega⟩
  · cases h
def orW (L : Int) (zs : List Int) (x : Int × Int) : Option Str := match ordW L zs with
  | some wd => some wd
  | none => if hoursB x = true then (if belowA (60 * L, 1) (timesA x (zs.sum, 1)) = true then some "too long" else none) else some "bad time"
theorem or_facts {L : Int} {zs : List Int} {h : Rat} (e : orW L zs (am h) = none) : ordW L zs = none ∧ hoursB (am h) = true ∧ h * ((zs.sum : Int) : Rat) ≤ ((60 * L : Int) : Rat) := by
  unfold orW at e
  cases c : ordW L zs with
  | some wd => rw [c] at e; cases e
  | none =>
    rw [c] at e
    replace e : (if hoursB (am h) = true then (if belowA (60 * L, 1) (timesA (am h) (zs.sum, 1)) = true then some ("too long" : Str) else none) else some "bad time") = none := e
    split at e
    · rename_i hB
      refine ⟨rfl, hB, ?_⟩
      split at e
      · cases e
      · rename_i b
        rw [show ((60 * L, 1) : Int × Int) = am ((60 * L : Int) : Rat) from (am_int _).symm, show ((zs.sum, 1) : Int × Int) = am ((zs.sum : Int) : Rat) from (am_int _).symm, times_am, below_am, decide_eq_true_eq, Rat.not_lt] at b
        exact b
    · cases e
theorem hS_ok {h : Rat} {z : Int} (hB : hoursB (am h) = true) (z1 : 0 ≤ z) (z2 : z ≤ 48) : Fr (am h).2 (h * (z : Rat)) ∧ 0 ≤ h * (z : Rat) ∧ h * (z : Rat) ≤ 1000000 ∧ Bd 4000 (am h) ∧ Bd 4000 (am (h * (z : Rat))) := by
  obtain ⟨a, b, c, d, e⟩ := hrs_facts hB
  have z3 : (0 : Rat) ≤ (z : Rat) := Rat.intCast_nonneg.mpr z1
  have z4 : (z : Rat) ≤ 48 := Rat.intCast_le_intCast (b := 48) |>.mpr z2
  have f : Fr (am h).2 (h * (z : Rat)) := by rw [Rat.mul_comm]; exact e.mulI z
  have g0 : 0 ≤ h * (z : Rat) := Rat.mul_nonneg a z3
  have g1 : h * (z : Rat) ≤ 1000000 := by
    have m1 := Rat.mul_le_mul_of_nonneg_right b z3
    have m2 := Rat.mul_le_mul_of_nonneg_left z4 (show (0 : Rat) ≤ 60 by decide)
    exact Rat.le_trans m1 (Rat.le_trans m2 (by decide +kernel))
  have hd : (am h).2.natAbs < 2 ^ 3900 := small (Nat.lt_of_le_of_lt (m := 60) (by omega) (by decide))
  exact ⟨f, g0, g1, bdL c hd e a (Rat.le_trans b (by decide)), bdL c hd f g0 g1⟩
def sp_p_check_order (K : PySem.W.Frag) (T : Tb) (CP : Addr) : Sp := fun vs H Q E => ∃ (L : Int) (a : Addr) (zs : List Int) (hp : Addr) (x : Int × Int), vs = [.int L, .ref a, .ref hp] ∧ SqL K H a (zs.map V.int) ∧ SqT K H hp (tv x) ∧ Bd 4000 x ∧ (hoursB x = true → ∃ h, x = am h) ∧ (orW L zs x = none → ∀ H', Sm T H H' → Q .non H') ∧ (∀ wd, orW L zs x = some wd → ∀ cls d H', Sm T H H' → Rf K CP wd cls d H' → E cls d H')
/-! ### a way of so much labour -/
def wayF (L : Int) : List Am := (List.range ((L.toNat + 8) / 9)).map fun (k : Nat) => ((if L - 9 * (k : Int) < 9 then L - 9 * (k : Int) else 9), 1)
theorem wayF_ok {L : Int} (h1 : 1 ≤ L) (h2 : L ≤ 54) : wayB (wayF L) = true ∧ labourM (wayF L) = L ∧ RgC 0 L 9 ((L.toNat + 8) / 9) := by
  have key : ∀ n : Fin 55, 1 ≤ n.val → (wayB (wayF ((n.val : Nat) : Int)) = true ∧ labourM (wayF ((n.val : Nat) : Int)) = ((n.val : Nat) : Int) ∧ ((9 : Int) ≠ 0 ∧ (9 : Int).natAbs < 1073741824 ∧ Builtin.Range.small 0 ((n.val : Nat) : Int) 9 = true ∧ Builtin.Range.rangeSize 0 ((n.val : Nat) : Int) 9 = ((((n.val : Nat) : Int).toNat + 8) / 9 : Nat))) := by decide +kernel
  have := key ⟨L.toNat, by omega⟩ (by show 1 ≤ L.toNat; omega)
  rw [show (((⟨L.toNat, by omega⟩ : Fin 55).val : Nat) : Int) = L from by show ((L.toNat : Nat) : Int) = L; omega] at this
  exact this
def sp_p_way_of (K : PySem.W.Frag) (T : Tb) : Sp := fun vs H Q _ => ∃ L : Int, vs = [.int L] ∧ 1 ≤ L ∧ L ≤ 54 ∧ ∀ p H' us, Sm T H H' → H p = none → H' p = some (.lst us) → DpAll K H' us ((wayF L).map amD) → Q (.ref p) H'
theorem ok_p_way_of {f : Addr} {fd : FuncData} {u_LONGEST_STRETCH : Value} (F : Fun K "way_of" "way_of" s_p_way_of f fd) (B : Bn mg) (C_LONGEST_STRETCH : RelV (.int 9) u_LONGEST_STRETCH ∧ mg "LONGEST_STRETCH" = some u_LONGEST_STRETCH) : FnOk P w K mg base CX0 1 f fd ["labour"] (sp_p_way_of K T) := by
  obtain ⟨⟨tM, rfl⟩, gM⟩ := id C_LONGEST_STRETCH
  refine F.ok sc_p_way_of (fun vs H Q E h => ?_) (fun cdv A outer s H vs Q E hr h => ?_)
  · obtain ⟨L, rfl, _⟩ := h
    rfl
  · obtain ⟨L, rfl, h1, h2, q⟩ := h
    refine ⟨_, (pss_cons (ps_set (i := 1) sc_p_way_of.nd rfl (.inl rfl) (pe_lst pa_nil))
      (pss_cons (ps_for PassesOwn.never rfl (pi_range3 (by rfl) B.range_ (pa_cons pe_int (pa_cons (pv 0) (pa_cons (pe_glob (by rfl) C_LONGEST_STRETCH.2 C_LONGEST_STRETCH.1) pa_nil)))) (pg_name (i := 2) sc_p_way_of.nd rfl (.inl rfl))
      (pss_one (ps_expr (pe_bm PySem.F.plainAttrs_list PySem.F.slot_list_append PySem.F.type_list_append mt_append (pv 1) (pa_cons (pe_tup (pa_cons (pe_callB (call_min2 rfl) (by rfl) B.min_ (by decide +kernel) (pa_cons (pe_glob (by rfl) C_LONGEST_STRETCH.2 C_LONGEST_STRETCH.1) (pa_cons (pe_op op_sub (pv 0) (pv 2)) pa_nil))) (pa_cons pe_int pa_nil))) pa_nil)))))
      (pss_one (ps_ret (pv 1))))), ?_⟩
    obtain ⟨_, _, rg⟩ := wayF_ok h1 h2
    refine ⟨Nat.zero_le _, fun o no => ?_⟩
    have hn : (L.toNat + 8) / 9 ≤ 6 := by omega
    refine ⟨_, rfl, _, _, _, _, rfl, rg, for_rangeC (lo := 0) (c := 9) (n := (L.toNat + 8) / 9) (fun i σ H' => ∃ us x2, Sm T H H' ∧ H' o = some (.lst us) ∧ DpAll K H' us (((List.range i).map fun (k : Nat) => (((if L - 9 * (k : Int) < 9 then L - 9 * (k : Int) else 9), 1) : Am)).map amD) ∧ σ = [some (.int L), some (.ref o), x2]) ⟨[], _, same_upd no, upd_same, .nil, rfl⟩ ?_ ?_⟩
    · rintro i σ H' hi ⟨us, x2, sm, eo, du, rfl⟩
      refine ⟨_, rfl, .inl ⟨rfl, _, SqL.of eo⟩, _, rfl, _, rfl, _, _, rfl, rfl, 9, _, rfl, by show 2 ≤ sizeLine; decide, fun t nt => ?_⟩
      have e9 : L - (0 + (i : Int) * 9) = L - 9 * (i : Int) := by omega
      rw [e9]
      have ut := same_upd (T := T) (o := HO.tup (tv (((if L - 9 * (i : Int) < 9 then L - 9 * (i : Int) else 9), 1) : Am))) nt
      have eo2 := ut.k eo
      have lu : us.length = i := by rw [dpa_len du, List.length_map, List.length_map, List.length_range]
      refine ⟨o, us, _, rfl, rfl, eo2, szl (by omega), us ++ [.ref t], _, same_mut (sm.trans ut) no eo2, upd_same, ?_, rfl⟩
      refine pds_mut eo2 ?_
      rw [List.range_succ, List.map_append, List.map_append]
      exact dpa_app (dpa_same ut _ _ du) (.cons (tup_dp upd_same) .nil)
    · rintro σ H' ⟨us, x2, sm, eo, du, rfl⟩
      exact ⟨_, rfl, q o H' us sm no eo du⟩
/-! ### hands by letters -/
def chO (k : Nat) : Str := ⟨#[97 + k]⟩
def nmO (m : Nat) : List Str := (List.range m).map chO
theorem chO_inj {i j : Nat} (h : chO i = chO j) : i = j := by
  unfold chO at h
  injection h with h
  have := congrArg Array.toList h
  simp at this
  exact this
theorem chO_ok {k : Nat} (h : k < 4) : nameB (chO k) = true ∧ atI ("abcd" : Str).cps.toList ((k : Nat) : Int) = some (97 + k) := by
  have : ∀ n : Fin 4, nameB (chO n.val) = true ∧ atI ("abcd" : Str).cps.toList ((n.val : Nat) : Int) = some (97 + n.val) := by decide +kernel
  exact this ⟨k, h⟩
theorem nmO_len (m : Nat) : (nmO m).length = m := by unfold nmO; rw [List.length_map, List.length_range]
theorem nmO_get {m i : Nat} (h : i < m) : (nmO m)[i]'(by rw [nmO_len]; exact h) = chO i := by unfold nmO; rw [List.getElem_map, List.getElem_range]
theorem nmO_nd {m : Nat} : (nmO m).Nodup := by
  unfold List.Nodup
  rw [List.pairwise_iff_getElem]
  intro i j hi hj hij z
  rw [nmO_len] at hi hj
  rw [nmO_get hi, nmO_get hj] at z
  have := chO_inj z
  omega
theorem nmO_drop {m i : Nat} (h : i < m) : (nmO m).drop i = chO i :: (nmO m).drop (i + 1) := by
  rw [List.drop_eq_getElem_cons (by rw [nmO_len]; exact h), nmO_get h]
theorem nmO_new {m i : Nat} (h : i < m) : chO i ∉ (nmO m).drop (i + 1) := by
  have := (nmO_nd (m := m)).sublist (List.drop_sublist i _)
  rw [nmO_drop h] at this
  exact (List.nodup_cons.mp this).1
theorem sm_own' {T : Tb} {H H1 H2 : Hp} {S : List Addr} (s : Sm T H H1) (x : Sx T S H1 H2) (hc : ∀ y ∈ S, H y = none) : Sm T H H2 :=
  Sx.sm ((s.sx (S := [])).trans x fun y hy => .inr (hc y hy))
/-- the chain that is begun with these hands -/
def bgS (L : Int) : List (Str × Int) → Ch
  | [] => newS L (wayF L)
  | x :: l => enterS (bgS L l) x.1 x.2
def bgO (L : Int) (zs : List Int) : Ch := bgS L ((nmO zs.length).zip zs)
def sp_p_begun (K : PySem.W.Frag) (T : Tb) (CP CC : Addr) : Sp := fun vs H Q _ => ∃ (L : Int) (a : Addr) (zs : List Int), vs = [.int L, .ref a] ∧ SqL K H a (zs.map V.int) ∧ Ok T H ∧ ordW L zs = none ∧ ∀ c H' A s, Sm T H H' → ChAt K CC H' c A s → (∀ y ∈ ownC c A, H y = none) → s = bgO L zs → En (nmO zs.length) zs L (wayF L) s → Q (.ref c) H'
theorem ok_p_begun {f : Addr} {fd : FuncData} {u_NAMES : Value} (F : Fun K "begun" "begun" s_p_begun f fd) (B : Bn mg) (C_NAMES : RelV (.str "abcd") u_NAMES ∧ mg "NAMES" = some u_NAMES) {CP : Addr} {CC : Addr} (TC : Kl K CC) (M_enter : Mx P w K mg base CC 5 "enter" ["self", "name", "pace"] (sp_p_Chain_enter K T CP CC)) (M_init : Mnx P w K mg base CC 6 "Chain" ["self", "way"] (sp_p_Chain___init__ K T CP CC)) (F_p_way_of : Fn P w K mg base 1 "way_of" ["labour"] (sp_p_way_of K T)) : FnOk P w K mg base (L2.CX P w) 8 f fd ["labour", "paces"] (sp_p_begun K T CP CC) := by
  obtain ⟨⟨tM, rfl⟩, gM⟩ := id C_NAMES
  refine F.okX sc_p_begun (fun vs H Q E h => ?_) (fun cdv A outer s H vs Q E hr h => ?_)
  · obtain ⟨L, a, zs, rfl, _⟩ := h
    rfl
  · obtain ⟨L, a, zs, rfl, ha, hok, hw, q⟩ := h
    refine ⟨_, (pss_cons (ps_set (i := 2) sc_p_begun.nd rfl (.inl rfl) (pe_mnx M_init (hr.mono (by decide)) (takes_of rfl rfl rfl rfl) (pa_cons (pe_fn F_p_way_of (hr.mono (by decide)) (pa_cons (pv 0) pa_nil)) pa_nil)))
      (pss_cons (ps_for (passes_of rfl) rfl (pi_revR (by rfl) B.reversed_ (prg_1 (by rfl) B.range_ (pe_callB call_len_seq (by rfl) B.len_ (by decide +kernel) (pa_cons (pv 1) pa_nil)))) (pg_name (i := 3) sc_p_begun.nd rfl (.inl rfl))
      (pss_one (ps_expr (pe_mx M_enter TC.cl (hr.mono (by decide)) (takes_of rfl rfl rfl rfl) (pv 2) (pa_cons (pe_ix ix_str (pe_glob (by rfl) C_NAMES.2 C_NAMES.1) (pv 3) (fun _ _ => rfl)) (pa_cons (pe_ix ix_list (pv 1) (pv 3) (fun _ _ => rfl)) pa_nil))))))
      (pss_one (ps_ret (pv 2))))), ?_⟩
    obtain ⟨o1, o2, o3, o4, o5, o6, o7⟩ := ord_facts hw
    obtain ⟨w1, w2, _⟩ := wayF_ok o1 o2
    have hwl : (wayF L).length ≤ 1000 := by unfold wayF; rw [List.length_map, List.length_range]; omega
    refine ⟨_, rfl, L, rfl, o1, o2, fun p1 H1 us s1 np1 e1 du1 => ?_⟩
    refine fun c dx nc ndx nex => ?_
    refine ⟨_, c, dx, p1, us, wayF L, rfl, rfl, nc, ndx, nex, SqL.of e1, du1, hwl, s1.ok hok, fun _ H3 A3 s3 h3 fr3 => ⟨rfl, ?_⟩, fun z => absurd z (by rw [w1]; decide)⟩
    rw [w2] at h3
    have en3 := En.new L (wayF L)
    have s03 := s1.trans s3
    have own : ∀ y ∈ ownC c A3, H y = none := fun y hy => s1.free _ (fr3 y hy)
    obtain ⟨m, em⟩ : ∃ m, zs.length = m := ⟨_, rfl⟩
    refine ⟨_, rfl, a, _, rfl, .inl (s03.seq ha), _, rfl, by decide, by decide, by rw [List.length_map]; omega, by rw [List.length_map]; omega, for_rangeC (fun j σ H' => ∃ s' y3, Sm T H H' ∧ En ((nmO m).drop (m - j)) (zs.drop (m - j)) L (wayF L) s' ∧ s' = bgS L (((nmO m).zip zs).drop (m - j)) ∧ ChAt K CC H' c A3 s' ∧ σ = [some (.int L), some (.ref a), some (.ref c), y3]) ⟨newS L (wayF L), _, s03, ?_, ?_, h3, rfl⟩ ?_ ?_⟩
    · rw [List.drop_of_length_le (by rw [nmO_len]; omega), List.drop_of_length_le (by omega)]
      exact en3
    · rw [List.drop_of_length_le (by rw [List.length_zip, nmO_len]; omega)]
      rfl
    · rintro j σ H' hj ⟨s', y3, sm, en, es, ch, rfl⟩
      rw [List.length_map] at hj ⊢
      have hk : m - 1 - j < m := by omega
      have ez : (0 + ((((zs.length : Nat) : Int) - 0).toNat : Int) - 1 + (j : Int) * -1) = ((m - 1 - j : Nat) : Int) := by omega
      rw [ez]
      have cok := chO_ok (show m - 1 - j < 4 by omega)
      refine ⟨_, rfl, c, _, _, rfl, ch.ins, fl_no (by decide +kernel), _, rfl, "abcd", _, _, rfl, rfl, by decide +kernel, cok.2, ?_⟩
      refine ⟨_, rfl, _, rfl, a, _, _, .int (zs[m - 1 - j]'(by omega)), rfl, rfl, sm.seq ha, atI_nat (by rw [List.getElem?_map, List.getElem?_eq_getElem (by omega)]; rfl), ?_⟩
      have hpp := o5 _ (List.getElem_mem (show m - 1 - j < zs.length by omega))
      have nn := nmO_new hk
      rw [show m - 1 - j + 1 = m - j from by omega] at nn
      have ln : ((nmO m).drop (m - j)).length = j := by rw [List.length_drop, nmO_len]; omega
      have ent := en.enter nn cok.1 (by omega) hpp.1 hpp.2 o1
      have e1 := en.ri.ml
      have e2 := en.ri.sd.ll
      have e3 := en.ri.sd.ls
      have e4 := en.ri.row
      have e5 := en.tl
      have e6 := en.ri.lgl
      have e7 := en.pl
      have e8 : s'.row.length = j := by rw [e4, ln]
      refine ⟨c, A3, s', chO (m - 1 - j), zs[m - 1 - j]'(by omega), rfl, ch, sz (by show 1 ≤ _; omega), sm.ok hok, ⟨by omega, by omega, by omega, by omega, by omega, by omega⟩, fun _ H4 x4 h4 => ?_, fun wd hw => ?_⟩
      · refine ⟨_, _, sm_own' sm x4 own, ?_, ?_, h4, rfl⟩
        · have d1 := nmO_drop hk
          have d2 := List.drop_eq_getElem_cons (show m - 1 - j < zs.length by omega)
          rw [show m - 1 - j + 1 = m - j from by omega] at d1 d2
          rw [show m - (j + 1) = m - 1 - j from by omega, d1, d2]
          exact ent.2
        · have d3 := List.drop_eq_getElem_cons (l := (nmO m).zip zs) (i := m - 1 - j) (by rw [List.length_zip, nmO_len]; omega)
          rw [show m - 1 - j + 1 = m - j from by omega, List.getElem_zip, nmO_get hk] at d3
          rw [show m - (j + 1) = m - 1 - j from by omega, d3, es]
          rfl
      · rw [ent.1] at hw
        cases hw
    · rintro σ H' ⟨s', y3, sm, en, es, ch, rfl⟩
      rw [List.length_map] at en es
      rw [show m - ((((zs.length : Nat) : Int) - 0).toNat) = 0 from by omega, List.drop_zero] at es
      rw [show m - ((((zs.length : Nat) : Int) - 0).toNat) = 0 from by omega, List.drop_zero, List.drop_zero] at en
      exact ⟨_, rfl, q c H' A3 s' sm ch own (by rw [es, ← em]; rfl) (by rw [em]; exact en)⟩

def sp_l_same_n (n : Nat) (K : PySem.W.Frag) (T : Tb) : Sp := fun vs H Q _ => ∃ x y d, vs = [x, y] ∧ Dp K H x d ∧ Dp K H y d ∧ depOk n d = true ∧ ∀ H', Sm T H H' → Q (.bl true) H'
abbrev sp_l_same (K : PySem.W.Frag) (T : Tb) : Sp := sp_l_same_n 5 K T
theorem ok_l_same_n {f : Addr} {fd : FuncData} (F : Fun K "_law_same" "_law_same" s_l_same f fd) (B : Bn mg) (g : mg "_law_same" = some (.ref f)) (b : Binds K fd ["_law_found", "_law_due"] []) :
    ∀ n, FnOk P w K mg base CX0 (n + 1) f fd ["_law_found", "_law_due"] (sp_l_same_n n K T)
  | 0 => by
    refine F.ok sc_l_same (fun vs H Q E h => ?_) (fun cdv A outer s H vs Q E hr h => ?_)
    · obtain ⟨x, y, d, rfl, _⟩ := h
      rfl
    · obtain ⟨x, y, d, rfl, hx, hy, hd, q⟩ := h
      have tx := tyx_of hx
      have ty := tyx_of hy
      have q0 := q H Sm.refl
      refine ⟨_, (pss_cons (ps_if (pt_cmpR op_isN (pv 1) pe_non (nomark _)) (pss_one (ps_ret (pe_cmpR op_isN (pv 0) pe_non (nomark _)))) pss_nil)
      (pss_cons (ps_if (PW.pt (pw_or (pt_val (pe_callB call_isi (by rfl) B.isinstance_ (by decide +kernel) (pa_cons (pv 1) (pa_cons (pe_bltn (v := .ty "bool") (by rfl) B.bool_ (by decide +kernel) rfl) pa_nil)))) (pw_or1 (pt_val (pe_callB call_isi (by rfl) B.isinstance_ (by decide +kernel) (pa_cons (pv 0) (pa_cons (pe_bltn (v := .ty "bool") (by rfl) B.bool_ (by decide +kernel) rfl) pa_nil))))))) (pss_one (ps_ret (pe_and (pe_callB call_isi (by rfl) B.isinstance_ (by decide +kernel) (pa_cons (pv 1) (pa_cons (pe_bltn (v := .ty "bool") (by rfl) B.bool_ (by decide +kernel) rfl) pa_nil))) (pe_and (pe_callB call_isi (by rfl) B.isinstance_ (by decide +kernel) (pa_cons (pv 0) (pa_cons (pe_bltn (v := .ty "bool") (by rfl) B.bool_ (by decide +kernel) rfl) pa_nil))) (pe_one (pe_cmpR op_eq (pv 0) (pv 1) (nomark _))))))) pss_nil)
      (pss_cons (ps_if (pt_val (pe_callB call_isi (by rfl) B.isinstance_ (by decide +kernel) (pa_cons (pv 1) (pa_cons (pe_bltn (v := .ty "int") (by rfl) B.int_ (by decide +kernel) rfl) pa_nil)))) (pss_one (ps_ret (pe_and (pe_callB call_isi (by rfl) B.isinstance_ (by decide +kernel) (pa_cons (pv 0) (pa_cons (pe_bltn (v := .ty "int") (by rfl) B.int_ (by decide +kernel) rfl) pa_nil))) (pe_one (pe_cmpR op_eq (pv 0) (pv 1) (nomark _)))))) pss_nil)
      (pss_cons (ps_if (pt_val (pe_callB call_isi (by rfl) B.isinstance_ (by decide +kernel) (pa_cons (pv 1) (pa_cons (pe_bltn (v := .ty "str") (by rfl) B.str_ (by decide +kernel) rfl) pa_nil)))) (pss_one (ps_ret (pe_and (pe_callB call_isi (by rfl) B.isinstance_ (by decide +kernel) (pa_cons (pv 0) (pa_cons (pe_bltn (v := .ty "str") (by rfl) B.str_ (by decide +kernel) rfl) pa_nil))) (pe_one (pe_cmpR op_eq (pv 0) (pv 1) (nomark _)))))) pss_nil)
      (pss_cons (ps_if (PW.pt (pw_or (pt_cmpR op_ne (pe_callB call_isi (by rfl) B.isinstance_ (by decide +kernel) (pa_cons (pv 1) (pa_cons (pe_bltn (v := .ty "tuple") (by rfl) B.tuple_ (by decide +kernel) rfl) pa_nil))) (pe_callB call_isi (by rfl) B.isinstance_ (by decide +kernel) (pa_cons (pv 0) (pa_cons (pe_bltn (v := .ty "tuple") (by rfl) B.tuple_ (by decide +kernel) rfl) pa_nil))) (nomark _)) (pw_or1 (pt_cmpR op_ne (pe_callB call_isi (by rfl) B.isinstance_ (by decide +kernel) (pa_cons (pv 1) (pa_cons (pe_bltn (v := .ty "list") (by rfl) B.list_ (by decide +kernel) rfl) pa_nil))) (pe_callB call_isi (by rfl) B.isinstance_ (by decide +kernel) (pa_cons (pv 0) (pa_cons (pe_bltn (v := .ty "list") (by rfl) B.list_ (by decide +kernel) rfl) pa_nil))) (nomark _))))) (pss_one (ps_ret pe_bl)) pss_nil)
      (pss_one ps_never)))))), ?_⟩
      cases d with
      | none =>
        cases hx; cases hy
        exact ⟨_, rfl, rfl, _, rfl, iteT ⟨_, rfl, rfl, q0⟩⟩
      | bool b =>
        cases hx; cases hy
        refine ⟨_, rfl, rfl, _, rfl, iteF ?_⟩
        refine ⟨_, rfl, _, _, _, _, true, rfl, .ty "bool", ty, kit_ty kb_bool_bool, _, rfl, iteT (iteT ?_)⟩
        refine ⟨_, rfl, _, _, _, _, true, rfl, .ty "bool", ty, kit_ty kb_bool_bool, _, rfl, iteT ?_⟩
        refine ⟨_, rfl, _, _, _, _, true, rfl, .ty "bool", tx, kit_ty kb_bool_bool, _, rfl, iteT ?_⟩
        refine ⟨_, rfl, _, rfl, rfl, ?_⟩
        rw [decide_eq_true rfl]
        exact q0
      | int i =>
        cases hx; cases hy
        refine ⟨_, rfl, rfl, _, rfl, iteF ?_⟩
        refine ⟨_, rfl, _, _, _, _, false, rfl, .ty "bool", ty, kit_ty kb_int_bool, _, rfl, iteF ?_⟩
        refine ⟨_, rfl, _, _, _, _, false, rfl, .ty "bool", tx, kit_ty kb_int_bool, _, rfl, iteF ?_⟩
        refine ⟨_, rfl, _, _, _, _, true, rfl, .ty "int", ty, kit_ty kb_int_int, _, rfl, iteT ?_⟩
        refine ⟨_, rfl, _, _, _, _, true, rfl, .ty "int", tx, kit_ty kb_int_int, _, rfl, iteT ?_⟩
        refine ⟨_, rfl, _, rfl, rfl, ?_⟩
        rw [decide_eq_true rfl]
        exact q0
      | str z =>
        cases hx; cases hy
        refine ⟨_, rfl, rfl, _, rfl, iteF ?_⟩
        refine ⟨_, rfl, _, _, _, _, false, rfl, .ty "bool", ty, kit_ty kb_str_bool, _, rfl, iteF ?_⟩
        refine ⟨_, rfl, _, _, _, _, false, rfl, .ty "bool", tx, kit_ty kb_str_bool, _, rfl, iteF ?_⟩
        refine ⟨_, rfl, _, _, _, _, false, rfl, .ty "int", ty, kit_ty kb_str_int, _, rfl, iteF ?_⟩
        refine ⟨_, rfl, _, _, _, _, true, rfl, .ty "str", ty, kit_ty kb_str_str, _, rfl, iteT ?_⟩
        refine ⟨_, rfl, _, _, _, _, true, rfl, .ty "str", tx, kit_ty kb_str_str, _, rfl, iteT ?_⟩
        refine ⟨_, rfl, _, rfl, rfl, ?_⟩
        rw [decide_eq_true rfl]
        exact q0
      | list ds => cases hd
      | tuple ds => cases hd
      | dict _ => cases hd
  | n + 1 => by
    have F_l_same : Fn P w K mg base (n + 1) "_law_same" ["_law_found", "_law_due"] (sp_l_same_n n K T) := Fn.mk' (ok_l_same_n F B g b n) g F.kp b
    refine F.ok sc_l_same (fun vs H Q E h => ?_) (fun cdv A outer s H vs Q E hr h => ?_)
    · obtain ⟨x, y, d, rfl, _⟩ := h
      rfl
    · obtain ⟨x, y, d, rfl, hx, hy, hd, q⟩ := h
      have tx := tyx_of hx
      have ty := tyx_of hy
      have q0 := q H Sm.refl
      refine ⟨_, (pss_cons (ps_if (pt_cmpR op_isN (pv 1) pe_non (nomark _)) (pss_one (ps_ret (pe_cmpR op_isN (pv 0) pe_non (nomark _)))) pss_nil)
      (pss_cons (ps_if (PW.pt (pw_or (pt_val (pe_callB call_isi (by rfl) B.isinstance_ (by decide +kernel) (pa_cons (pv 1) (pa_cons (pe_bltn (v := .ty "bool") (by rfl) B.bool_ (by decide +kernel) rfl) pa_nil)))) (pw_or1 (pt_val (pe_callB call_isi (by rfl) B.isinstance_ (by decide +kernel) (pa_cons (pv 0) (pa_cons (pe_bltn (v := .ty "bool") (by rfl) B.bool_ (by decide +kernel) rfl) pa_nil))))))) (pss_one (ps_ret (pe_and (pe_callB call_isi (by rfl) B.isinstance_ (by decide +kernel) (pa_cons (pv 1) (pa_cons (pe_bltn (v := .ty "bool") (by rfl) B.bool_ (by decide +kernel) rfl) pa_nil))) (pe_and (pe_callB call_isi (by rfl) B.isinstance_ (by decide +kernel) (pa_cons (pv 0) (pa_cons (pe_bltn (v := .ty "bool") (by rfl) B.bool_ (by decide +kernel) rfl) pa_nil))) (pe_one (pe_cmpR op_eq (pv 0) (pv 1) (nomark _))))))) pss_nil)
      (pss_cons (ps_if (pt_val (pe_callB call_isi (by rfl) B.isinstance_ (by decide +kernel) (pa_cons (pv 1) (pa_cons (pe_bltn (v := .ty "int") (by rfl) B.int_ (by decide +kernel) rfl) pa_nil)))) (pss_one (ps_ret (pe_and (pe_callB call_isi (by rfl) B.isinstance_ (by decide +kernel) (pa_cons (pv 0) (pa_cons (pe_bltn (v := .ty "int") (by rfl) B.int_ (by decide +kernel) rfl) pa_nil))) (pe_one (pe_cmpR op_eq (pv 0) (pv 1) (nomark _)))))) pss_nil)
      (pss_cons (ps_if (pt_val (pe_callB call_isi (by rfl) B.isinstance_ (by decide +kernel) (pa_cons (pv 1) (pa_cons (pe_bltn (v := .ty "str") (by rfl) B.str_ (by decide +kernel) rfl) pa_nil)))) (pss_one (ps_ret (pe_and (pe_callB call_isi (by rfl) B.isinstance_ (by decide +kernel) (pa_cons (pv 0) (pa_cons (pe_bltn (v := .ty "str") (by rfl) B.str_ (by decide +kernel) rfl) pa_nil))) (pe_one (pe_cmpR op_eq (pv 0) (pv 1) (nomark _)))))) pss_nil)
      (pss_cons (ps_if (PW.pt (pw_or (pt_cmpR op_ne (pe_callB call_isi (by rfl) B.isinstance_ (by decide +kernel) (pa_cons (pv 1) (pa_cons (pe_bltn (v := .ty "tuple") (by rfl) B.tuple_ (by decide +kernel) rfl) pa_nil))) (pe_callB call_isi (by rfl) B.isinstance_ (by decide +kernel) (pa_cons (pv 0) (pa_cons (pe_bltn (v := .ty "tuple") (by rfl) B.tuple_ (by decide +kernel) rfl) pa_nil))) (nomark _)) (pw_or1 (pt_cmpR op_ne (pe_callB call_isi (by rfl) B.isinstance_ (by decide +kernel) (pa_cons (pv 1) (pa_cons (pe_bltn (v := .ty "list") (by rfl) B.list_ (by decide +kernel) rfl) pa_nil))) (pe_callB call_isi (by rfl) B.isinstance_ (by decide +kernel) (pa_cons (pv 0) (pa_cons (pe_bltn (v := .ty "list") (by rfl) B.list_ (by decide +kernel) rfl) pa_nil))) (nomark _))))) (pss_one (ps_ret pe_bl)) pss_nil)
      (pss_one (ps_ret (pe_and (pe_cmpR op_eq (pe_callB call_len_seq (by rfl) B.len_ (by decide +kernel) (pa_cons (pv 0) pa_nil)) (pe_callB call_len_seq (by rfl) B.len_ (by decide +kernel) (pa_cons (pv 1) pa_nil)) (nomark _)) (pe_one (pe_callB (cr_all rfl) (by rfl) B.all_ (by decide +kernel) (pa_cons (pe_lc (own := [("_law_k", 2)]) (g := (gName 2)) (tt := tYes) (by rfl) sc_l_same.nd (pi_range1 (by rfl) B.range_ (pa_cons (pe_callB call_len_seq (by rfl) B.len_ (by decide +kernel) (pa_cons (pv 1) pa_nil)) pa_nil)) (blkOk_by (own := [("_law_k", 2)]) (N := ["_law_found", "_law_due", "_law_k"]) (sc := (defScope s_l_same)) (by decide +kernel)) (fun _ _ _ _ _ => (pg_name (i := 2) sc_l_same.nd rfl (.inl rfl))) (fun _ _ _ _ _ => pts_nil) (fun _ _ _ _ _ => (pe_fn F_l_same hr (pa_cons (pe_ix (r := rIx K) ix_seq (pv 0) (pv 2) (fun _ _ => rfl)) (pa_cons (pe_ix (r := rIx K) ix_seq (pv 1) (pv 2) (fun _ _ => rfl)) pa_nil))))) pa_nil))))))))))), ?_⟩
      cases d with
      | none =>
        cases hx; cases hy
        exact ⟨_, rfl, rfl, _, rfl, iteT ⟨_, rfl, rfl, q0⟩⟩
      | bool b =>
        cases hx; cases hy
        refine ⟨_, rfl, rfl, _, rfl, iteF ?_⟩
        refine ⟨_, rfl, _, _, _, _, true, rfl, .ty "bool", ty, kit_ty kb_bool_bool, _, rfl, iteT (iteT ?_)⟩
        refine ⟨_, rfl, _, _, _, _, true, rfl, .ty "bool", ty, kit_ty kb_bool_bool, _, rfl, iteT ?_⟩
        refine ⟨_, rfl, _, _, _, _, true, rfl, .ty "bool", tx, kit_ty kb_bool_bool, _, rfl, iteT ?_⟩
        refine ⟨_, rfl, _, rfl, rfl, ?_⟩
        rw [decide_eq_true rfl]
        exact q0
      | int i =>
        cases hx; cases hy
        refine ⟨_, rfl, rfl, _, rfl, iteF ?_⟩
        refine ⟨_, rfl, _, _, _, _, false, rfl, .ty "bool", ty, kit_ty kb_int_bool, _, rfl, iteF ?_⟩
        refine ⟨_, rfl, _, _, _, _, false, rfl, .ty "bool", tx, kit_ty kb_int_bool, _, rfl, iteF ?_⟩
        refine ⟨_, rfl, _, _, _, _, true, rfl, .ty "int", ty, kit_ty kb_int_int, _, rfl, iteT ?_⟩
        refine ⟨_, rfl, _, _, _, _, true, rfl, .ty "int", tx, kit_ty kb_int_int, _, rfl, iteT ?_⟩
        refine ⟨_, rfl, _, rfl, rfl, ?_⟩
        rw [decide_eq_true rfl]
        exact q0
      | str z =>
        cases hx; cases hy
        refine ⟨_, rfl, rfl, _, rfl, iteF ?_⟩
        refine ⟨_, rfl, _, _, _, _, false, rfl, .ty "bool", ty, kit_ty kb_str_bool, _, rfl, iteF ?_⟩
        refine ⟨_, rfl, _, _, _, _, false, rfl, .ty "bool", tx, kit_ty kb_str_bool, _, rfl, iteF ?_⟩
        refine ⟨_, rfl, _, _, _, _, false, rfl, .ty "int", ty, kit_ty kb_str_int, _, rfl, iteF ?_⟩
        refine ⟨_, rfl, _, _, _, _, true, rfl, .ty "str", ty, kit_ty kb_str_str, _, rfl, iteT ?_⟩
        refine ⟨_, rfl, _, _, _, _, true, rfl, .ty "str", tx, kit_ty kb_str_str, _, rfl, iteT ?_⟩
        refine ⟨_, rfl, _, rfl, rfl, ?_⟩
        rw [decide_eq_true rfl]
        exact q0
      | list ds =>
        cases hx with
        | @lst ax xs _ sx ax_ =>
        cases hy with
        | @lst ay ys _ sy ay_ =>
        refine ⟨_, rfl, rfl, _, rfl, iteF ?_⟩
        refine ⟨_, rfl, _, _, _, _, false, rfl, .ty "bool", ty, kit_ty kb_list_bool, _, rfl, iteF ?_⟩
        refine ⟨_, rfl, _, _, _, _, false, rfl, .ty "bool", tx, kit_ty kb_list_bool, _, rfl, iteF ?_⟩
        refine ⟨_, rfl, _, _, _, _, false, rfl, .ty "int", ty, kit_ty kb_list_int, _, rfl, iteF ?_⟩
        refine ⟨_, rfl, _, _, _, _, false, rfl, .ty "str", ty, kit_ty kb_list_str, _, rfl, iteF ?_⟩
        refine ⟨_, rfl, _, _, _, _, false, rfl, .ty "tuple", ty, kit_ty kb_list_tuple, _, rfl, _, _, _, _, false, rfl, .ty "tuple", tx, kit_ty kb_list_tuple, rfl, _, rfl, iteF ?_⟩
        refine ⟨_, rfl, _, _, _, _, true, rfl, .ty "list", ty, kit_ty kb_list_list, _, rfl, _, _, _, _, true, rfl, .ty "list", tx, kit_ty kb_list_list, rfl, _, rfl, iteF ?_⟩
        have hd' : (decide (ds.length ≤ 9000) && ds.all (depOk n)) = true := hd
        rw [Bool.and_eq_true] at hd'
        have hle : ds.length ≤ 9000 := of_decide_eq_true hd'.1
        have lx := dpa_len ax_
        have ly := dpa_len ay_
        refine ⟨_, rfl, ax, xs, rfl, .inl sx, _, rfl, ay, ys, rfl, .inl sy, rfl, _, rfl, ?_⟩
        rw [lx, ly, decide_eq_true rfl]
        refine iteT ?_
        refine ⟨_, rfl, ay, ys, rfl, .inl sy, _, rfl, by rw [ly]; omega, by rw [ly]; omega, fun D hD => lc_range (lo := 0) (n := ys.length)
          (Qd := _) (fun i H' => Sm T H H' ∧ H' D = some (.lst (List.replicate i (V.bl true)))) ⟨same_upd hD, upd_same⟩ ?_ ?_⟩
        · rintro i H' hi ⟨sm, eD⟩
          rw [ly] at hi
          obtain ⟨vx, ex, dx⟩ := dpa_get ax_ (List.getElem?_eq_getElem hi)
          obtain ⟨vy, ey, dy⟩ := dpa_get ay_ (List.getElem?_eq_getElem hi)
          refine ⟨rfl, tyes_i ?_⟩
          refine ⟨_, rfl, _, rfl, .inl ⟨ax, xs, _, vx, rfl, rfl, sm.seq sx, at_of (j := i) (by omega) ex, ?_⟩⟩
          refine ⟨_, rfl, _, rfl, .inl ⟨ay, ys, _, vy, rfl, rfl, sm.seq sy, at_of (j := i) (by omega) ey, ?_⟩⟩
          refine ⟨vx, vy, ds[i], rfl, dp_same sm _ _ dx, dp_same sm _ _ dy, List.all_eq_true.mp hd'.2 _ (List.getElem_mem hi), fun H2 s2 => ⟨_, s2.k eD, ?_, same_mut (sm.trans s2) hD (s2.lst eD), ?_⟩⟩
          · rw [List.length_replicate]
            exact szl (by omega)
          · rw [upd_same, ← List.replicate_succ']
        · rintro H' ⟨sm, eD⟩
          rw [ly] at eD
          refine ⟨D, List.replicate ds.length true, rfl, SqL.of (by rw [eD, List.map_replicate]), ?_⟩
          rw [rep_all]
          exact q H' sm
      | tuple ds =>
        cases hx with
        | @tup ax xs _ sx ax_ =>
        cases hy with
        | @tup ay ys _ sy ay_ =>
        refine ⟨_, rfl, rfl, _, rfl, iteF ?_⟩
        refine ⟨_, rfl, _, _, _, _, false, rfl, .ty "bool", ty, kit_ty kb_tuple_bool, _, rfl, iteF ?_⟩
        refine ⟨_, rfl, _, _, _, _, false, rfl, .ty "bool", tx, kit_ty kb_tuple_bool, _, rfl, iteF ?_⟩
        refine ⟨_, rfl, _, _, _, _, false, rfl, .ty "int", ty, kit_ty kb_tuple_int, _, rfl, iteF ?_⟩
        refine ⟨_, rfl, _, _, _, _, false, rfl, .ty "str", ty, kit_ty kb_tuple_str, _, rfl, iteF ?_⟩
        refine ⟨_, rfl, _, _, _, _, true, rfl, .ty "tuple", ty, kit_ty kb_tuple_tuple, _, rfl, _, _, _, _, true, rfl, .ty "tuple", tx, kit_ty kb_tuple_tuple, rfl, _, rfl, iteF ?_⟩
        refine ⟨_, rfl, _, _, _, _, false, rfl, .ty "list", ty, kit_ty kb_tuple_list, _, rfl, _, _, _, _, false, rfl, .ty "list", tx, kit_ty kb_tuple_list, rfl, _, rfl, iteF ?_⟩
        have hd' : (decide (ds.length ≤ 9000) && ds.all (depOk n)) = true := hd
        rw [Bool.and_eq_true] at hd'
        have hle : ds.length ≤ 9000 := of_decide_eq_true hd'.1
        have lx := dpa_len ax_
        have ly := dpa_len ay_
        refine ⟨_, rfl, ax, xs, rfl, .inr sx, _, rfl, ay, ys, rfl, .inr sy, rfl, _, rfl, ?_⟩
        rw [lx, ly, decide_eq_true rfl]
        refine iteT ?_
        refine ⟨_, rfl, ay, ys, rfl, .inr sy, _, rfl, by rw [ly]; omega, by rw [ly]; omega, fun D hD => lc_range (lo := 0) (n := ys.length)
          (Qd := _) (fun i H' => Sm T H H' ∧ H' D = some (.lst (List.replicate i (V.bl true)))) ⟨same_upd hD, upd_same⟩ ?_ ?_⟩
        · rintro i H' hi ⟨sm, eD⟩
          rw [ly] at hi
          obtain ⟨vx, ex, dx⟩ := dpa_get ax_ (List.getElem?_eq_getElem hi)
          obtain ⟨vy, ey, dy⟩ := dpa_get ay_ (List.getElem?_eq_getElem hi)
          refine ⟨rfl, tyes_i ?_⟩
          refine ⟨_, rfl, _, rfl, .inr (.inl ⟨ax, xs, _, vx, rfl, rfl, same_tup sm sx, at_of (j := i) (by omega) ex, ?_⟩)⟩
          refine ⟨_, rfl, _, rfl, .inr (.inl ⟨ay, ys, _, vy, rfl, rfl, same_tup sm sy, at_of (j := i) (by omega) ey, ?_⟩)⟩
          refine ⟨vx, vy, ds[i], rfl, dp_same sm _ _ dx, dp_same sm _ _ dy, List.all_eq_true.mp hd'.2 _ (List.getElem_mem hi), fun H2 s2 => ⟨_, s2.k eD, ?_, same_mut (sm.trans s2) hD (s2.lst eD), ?_⟩⟩
          · rw [List.length_replicate]
            exact szl (by omega)
          · rw [upd_same, ← List.replicate_succ']
        · rintro H' ⟨sm, eD⟩
          rw [ly] at eD
          refine ⟨D, List.replicate ds.length true, rfl, SqL.of (by rw [eD, List.map_replicate]), ?_⟩
          rw [rep_all]
          exact q H' sm
      | dict _ => cases hd
theorem ok_l_same {f : Addr} {fd : FuncData} (F : Fun K "_law_same" "_law_same" s_l_same f fd) (B : Bn mg) (g : mg "_law_same" = some (.ref f)) (b : Binds K fd ["_law_found", "_law_due"] []) :
    FnOk P w K mg base CX0 6 f fd ["_law_found", "_law_due"] (sp_l_same K T) := ok_l_same_n F B g b 5

def sp_l_gcd (K : PySem.W.Frag) (T : Tb) : Sp := fun vs H Q _ => ∃ a b : Nat, vs = [.int a, .int b] ∧ Q (.int (Nat.gcd a b : Nat)) H
theorem ok_l_gcd {f : Addr} {fd : FuncData} (F : Fun K "_law_gcd" "_law_gcd" s_l_gcd f fd) : FnOk P w K mg base CX0 1 f fd ["_law_one", "_law_other"] (sp_l_gcd K T) := by
  refine F.ok sc_l_gcd (fun vs H Q E h => ?_) (fun cdv A outer s H vs Q E hr h => ?_)
  · obtain ⟨a, b, rfl, _⟩ := h
    rfl
  · obtain ⟨a, b, rfl, q⟩ := h
    refine ⟨_, (pss_cons (ps_while PassesOwn.never (pt_cmpR op_gt (pv 1) pe_int (nomark _)) (pss_one (ps_par (i := 0) (j := 1) (by rfl) sc_l_gcd.nd rfl rfl (by decide) rfl rfl (pa_cons (pv 1) (pa_cons (pe_op op_mod (pv 0) (pv 1)) pa_nil)) (by rfl))))
      (pss_one (ps_ret (pv 0)))), ?_⟩
    refine while_by (fun σ H' => ∃ x y : Nat, σ = [some (.int x), some (.int y)] ∧ H' = H ∧ Nat.gcd x y = Nat.gcd a b) (fun σ _ => match σ with | [_, some (.int y)] => y.toNat | _ => 0) ⟨a, b, rfl, rfl, rfl⟩ ?_ ?_
    · rintro σ H' ⟨x, y, rfl, rfl, hg⟩
      refine ⟨_, rfl, _, _, rfl, rfl, _, rfl, ite2 (fun e => ?_) (fun e => ?_)⟩
      · have hy : 0 < y := by
          have : (0 : Int) < (y : Int) := of_decide_eq_true e
          omega
        refine ⟨_, rfl, _, rfl, _, rfl, _, _, rfl, rfl, (by show (0 : Int) < (y : Int); omega), _, _, rfl, ⟨y, x % y, ?_, rfl, ?_⟩, ?_⟩
        · show [some (V.int y), some (V.int ((x : Int) % (y : Int)))] = _
          rw [Int.natCast_emod]
        · rw [← hg, Nat.gcd_comm x y, Nat.gcd_rec y x, Nat.gcd_comm]
        · show ((x : Int) % (y : Int)).toNat < (y : Int).toNat
          rw [← Int.natCast_emod, Int.toNat_natCast, Int.toNat_natCast]
          exact Nat.mod_lt _ hy
      · have hy : y = 0 := by
          have : ¬ (0 : Int) < (y : Int) := fun z => e (decide_eq_true z)
          omega
        subst hy
        refine ⟨_, rfl, ?_⟩
        rw [← hg, Nat.gcd_zero_right] at q
        exact q
    · rintro σ H Q Q' m ⟨v, e, i, j, e1, e2, k, e3, q⟩
      exact ⟨v, e, i, j, e1, e2, k, e3, m _ _ q⟩

def sp_l_amt (K : PySem.W.Frag) (T : Tb) : Sp := fun vs H Q _ => ∃ n d : Int, vs = [.int n, .int d] ∧ 0 < d ∧ d.natAbs < 2 ^ 8900 ∧ ∀ p H', Sm T H H' → H p = none → H' p = some (.tup (tv (amt n d))) → Q (.ref p) H'
theorem ok_l_amt {f : Addr} {fd : FuncData} (F : Fun K "_law_amt" "_law_amt" s_l_amt f fd) (B : Bn mg) (F_l_gcd : Fn P w K mg base 1 "_law_gcd" ["_law_one", "_law_other"] (sp_l_gcd K T)) : FnOk P w K mg base CX0 2 f fd ["_law_num", "_law_den"] (sp_l_amt K T) := by
  refine F.ok sc_l_amt (fun vs H Q E h => ?_) (fun cdv A outer s H vs Q E hr h => ?_)
  · obtain ⟨n, d, rfl, _⟩ := h
    rfl
  · obtain ⟨n, d, rfl, hd, hb, q⟩ := h
    refine ⟨_, (pss_cons (ps_set (i := 2) sc_l_amt.nd rfl (.inl rfl) (pe_fn F_l_gcd (hr.mono (by decide)) (pa_cons (pe_callB call_abs (by rfl) B.abs_ (by decide +kernel) (pa_cons (pv 0) pa_nil)) (pa_cons (pv 1) pa_nil))))
      (pss_one (ps_ret (pe_tup (pa_cons (pe_op op_fdivW (pv 0) (pv 2)) (pa_cons (pe_op op_fdivW (pv 1) (pv 2)) pa_nil)))))), ?_⟩
    have hg := gcd_bound (n := n) (d := d) (by omega) hb
    have e1 : (if n < 0 then -n else n) = (n.natAbs : Int) := by split <;> omega
    have e2 : d = (d.natAbs : Int) := by omega
    refine ⟨_, rfl, _, rfl, _, rfl, n.natAbs, d.natAbs, ?_, ?_⟩
    · show [V.int (if n < 0 then -n else n), V.int d] ++ [] = _
      rw [e1, ← e2]
      rfl
    · refine ⟨_, rfl, _, rfl, _, _, rfl, rfl, wide_div (b := 8900) (by omega) (by rw [Int.natAbs_natCast]; exact hg.2) (by decide) (by decide), ?_⟩
      refine ⟨_, rfl, _, rfl, _, _, rfl, rfl, wide_div (b := 8900) (by omega) (by rw [Int.natAbs_natCast]; exact hg.2) (by decide) (by decide), ?_⟩
      refine ⟨by show 2 ≤ sizeLine; decide, fun p hp => ?_⟩
      refine q p _ (same_upd hp) hp (upd_same.trans ?_)
      show some (HO.tup [V.int (n / ((Nat.gcd n.natAbs d.natAbs : Nat) : Int)), V.int (d / ((Nat.gcd n.natAbs d.natAbs : Nat) : Int))]) = some (HO.tup [V.int ((if d < 0 then -n else n) / ((Nat.gcd n.natAbs d.natAbs : Nat) : Int)), V.int ((d.natAbs : Int) / ((Nat.gcd n.natAbs d.natAbs : Nat) : Int))])
      rw [if_neg (by omega : ¬ d < 0), ← e2]

def sp_l_mul (K : PySem.W.Frag) (T : Tb) : Sp := fun vs H Q _ => ∃ a x k, vs = [.ref a, .int k] ∧ SqT K H a (tv x) ∧ Bd 4000 x ∧ (-(2 ^ 64) < k ∧ k < 2 ^ 64) ∧ 0 < x.2 ∧
  ∀ p H', Sm T H H' → H p = none → H' p = some (.tup (tv (amt (x.1 * k) x.2))) → Q (.ref p) H'
theorem ok_l_mul {f : Addr} {fd : FuncData} (F : Fun K "_law_mul" "_law_mul" s_l_mul f fd) (F_l_amt : Fn P w K mg base 2 "_law_amt" ["_law_num", "_law_den"] (sp_l_amt K T)) : FnOk P w K mg base CX0 3 f fd ["_law_one", "_law_number"] (sp_l_mul K T) := by
  refine F.ok sc_l_mul (fun vs H Q E h => ?_) (fun cdv A outer s H vs Q E hr h => ?_)
  · obtain ⟨a, x, k, rfl, _⟩ := h
    rfl
  · obtain ⟨a, x, k, rfl, ha, bx, hk, hx, q⟩ := h
    refine ⟨_, (pss_one (ps_ret (pe_fn F_l_amt (hr.mono (by decide)) (pa_cons (pe_op op_mul (pe_ix ix_tup (pv 0) pe_int (fun _ _ => rfl)) (pv 1)) (pa_cons (pe_ix ix_tup (pv 0) pe_int (fun _ _ => rfl)) pa_nil))))), ?_⟩
    refine ⟨_, rfl, a, _, 0, .int x.1, rfl, rfl, ha, atI_nat (j := 0) rfl, _, rfl, _, _, rfl, rfl, .inr hk, ?_⟩
    refine ⟨_, rfl, a, _, 1, .int x.2, rfl, rfl, ha, atI_nat (j := 1) rfl, ?_⟩
    exact ⟨_, _, rfl, hx, Nat.lt_trans bx.2 (Nat.pow_lt_pow_right (by decide) (by decide)), q⟩

def sp_l_less (K : PySem.W.Frag) (T : Tb) : Sp := fun vs H Q _ => ∃ a b x y, vs = [.ref a, .ref b] ∧ SqT K H a (tv x) ∧ SqT K H b (tv y) ∧ (Bd 4000 x ∧ Bd 4000 y) ∧ Q (.bl (belowA x y)) H
theorem ok_l_less {f : Addr} {fd : FuncData} (F : Fun K "_law_less" "_law_less" s_l_less f fd) : FnOk P w K mg base CX0 1 f fd ["_law_one", "_law_other"] (sp_l_less K T) := by
  refine F.ok sc_l_less (fun vs H Q E h => ?_) (fun cdv A outer s H vs Q E hr h => ?_)
  · obtain ⟨a, b, x, y, rfl, _⟩ := h
    rfl
  · obtain ⟨a, b, x, y, rfl, ha, hb, ⟨bx, by_⟩, q⟩ := h
    refine ⟨_, (pss_one (ps_ret (pe_cmpR op_lt (pe_op op_mulW (pe_ix ix_tup (pv 0) pe_int (fun _ _ => rfl)) (pe_ix ix_tup (pv 1) pe_int (fun _ _ => rfl))) (pe_op op_mulW (pe_ix ix_tup (pv 1) pe_int (fun _ _ => rfl)) (pe_ix ix_tup (pv 0) pe_int (fun _ _ => rfl))) (nomark _)))), ?_⟩
    refine ⟨_, rfl, a, _, 0, .int x.1, rfl, rfl, ha, atI_nat (j := 0) rfl, _, rfl, b, _, 1, .int y.2, rfl, rfl, hb, atI_nat (j := 1) rfl, _, _, rfl, rfl, wm bx.1 by_.2, ?_⟩
    exact ⟨_, rfl, b, _, 0, .int y.1, rfl, rfl, hb, atI_nat (j := 0) rfl, _, rfl, a, _, 1, .int x.2, rfl, rfl, ha, atI_nat (j := 1) rfl, _, _, rfl, rfl, wm by_.1 bx.2, _, _, rfl, rfl, q⟩

/-! ### the end of a law whose program raises, with tables of code objects -/
theorem walk_tabs {l : PySem.W.OpenLaw} {n k : Nat} {q : Program} {loose : List Str} {XP : (Str → Option Value) → Heap → Prop} {YP : World → Heap → Prop} {d : DefRec} {K : Params → PySem.W.Frag} {CX : World → CXT} {x : Str}
    (hn : l.most = some n) (hn2 : n ≤ sizeLine) (hdf : d.params.defaults = []) (hr : Room k callerA) (hY : ∀ (w : World) (h : Heap), YP w h → (K w.params).In h)
    (F : ∀ (w : World) (mg : Str → Option Value) (fa : Addr) (h : Heap), YP w h → (K w.params).In h → h.Ns mainGlobals mg → mg d.name = some (.ref fa) →
      (∀ (y : Str) (c P : Addr), ((recsOf q).any fun e => e.name == y) = true → PySem.W.tabIn (K w.params) y = some (c, P) → PySem.W.CodeHd h c P ∧ h.get? P = some { cls := .none, data := .fields #[] }) → LamX.LawAtS l w (K w.params) (CX w) k n x mg fa h)
    (hCX : ∀ (w : World) (H : Hp) (s : Shared) (e : Value) (s' : Shared), CX w [] H s (fun _ _ _ => False) e s' → False) :
    PySem.W.WalkO q loose XP YP l.row.toRowW d [] (fun f vs => PySem.call f vs) := by
  refine Att.attach_callB hn hdf fun w s₀ s₁ mg mb fa o pm cd doc a vs ns G Y ho hd hcd hmg hobj hints hlen hbits hg => ?_
  have KX := hY w _ Y
  have tabs : ∀ (y : Str) (c P : Addr), ((recsOf q).any fun e => e.name == y) = true → PySem.W.tabIn (K w.params) y = some (c, P) → PySem.W.CodeHd s₁.heap c P ∧ s₁.heap.get? P = some { cls := .none, data := .fields #[] } := fun y c P ha ht => by
    cases hf : (recsOf q).find? (fun e => e.name == y) with
    | none =>
      obtain ⟨e, he, hy⟩ := List.any_eq_true.mp ha
      exact absurd hy (List.find?_eq_none.mp hf e he)
    | some e => exact PySem.W.tab_of G.T KX hf ht
  obtain ⟨fd, cs, sp, hT, nT, C, hb, hsp, hF⟩ := F w mg fa _ Y KX G.T.g hmg tabs
  exact LamX.law_callTs KX G.T.g G.T.b G.T.builtins G.T.nolimit hg hT nT C G.T.bmain hobj hints (Nat.le_trans hlen hn2) hr hF hb (fun H hH hS => hsp H a ns hlen hbits hH hS) fun H e s' => hCX w H s₁ e s'
theorem tab_in {K : PySem.W.Frag} {y : Str} {f c P : Addr} {o : Obj} {fd : FuncData} {e : Value} {dd : Option Addr} {vs : Array Value} {sl : Array (Option Value)} (h1 : PySem.W.nsIn K mainGlobals y = some (some (.ref f))) (h2 : K.lookup f = some o) (h3 : o.data = .func fd) (h4 : fd.code = .ref c)
    (h5 : K.lookup c = some ⟨e, dd, .fields vs, sl⟩) (h6 : vs[11]? = some (.ref P)) : PySem.W.tabIn K y = some (c, P) := by
  obtain ⟨o1, o2, o3, o4⟩ := o
  obtain rfl : o3 = .func fd := h3
  unfold PySem.W.tabIn
  simp only [h1, h2, h4, h5, h6]
theorem okG0 {H : Hp} {P : Addr} (h : H P = some (.tbl #[])) : OkP H (P, none) := ⟨#[], h, by first | trivial | constructor⟩
theorem okS0 {H : Hp} {P : Addr} {q : Str} (h : H P = some (.tbl #[])) : OkP H (P, some q) := ⟨#[], h, by first | trivial | constructor, fun pos cv e => by cases e⟩
theorem tup_const {K : PySem.W.Frag} {a : Addr} {od : Option Addr} {xs : List V} {its : Array Value} {n : Nat} {sl : Array (Option Value)} (h : K.lookup a = some ⟨.type "tuple", od, .seq its n, sl⟩) (hs : its.size ≤ sizeLine) (hv : Vals xs its.toList) : ∀ H, SqT K H a xs := fun _ => .inr ⟨_, its, n, h, rfl, rfl, hs, hv⟩
theorem gx_lam {base : Heap} {mg : Str → Option Value} {c P : Addr} (h : LamX.TabB base mg c P) : GxR.TabB base mg c P := ⟨h.code, h.bm, h.gP⟩

theorem num_of {K : PySem.W.Frag} {f : Addr} {fd : FuncData} (F : Fun K "is_number" "is_number" s_p_is_number f fd) : NumAt K f := by
  obtain ⟨oc, od, kV, doc, pm, an, cdv, ct, osl, rfl, lk, hcg⟩ := F.ex
  exact ⟨oc, od, kV, doc, pm, an, cdv, ct, osl, _, _, _, _, _, _, _, _, _, _, _, _, lk, hcg⟩
theorem with_of {K : PySem.W.Frag} {f : Addr} {fd : FuncData} (F : Fun K "is_within" "is_within" s_p_is_within f fd) : WithAt K f := by
  obtain ⟨oc, od, kV, doc, pm, an, cdv, ct, osl, rfl, lk, hcg⟩ := F.ex
  exact ⟨oc, od, kV, doc, pm, an, cdv, ct, osl, _, _, _, _, _, _, _, _, _, _, _, _, lk, hcg⟩

theorem cut_mid {ds : List Int} {lo m : Nat} {z1 z2 : Int} (h1 : z1 = (lo : Int)) (h2 : z2 = ((lo + m : Nat) : Int)) (hl : lo + m ≤ ds.length) : cutV (ds.map V.int) (some z1) (some z2) = ((ds.drop lo).take m).map V.int := by
  subst h1 h2
  unfold cutV
  rw [HT.sIx_nat, HT.sIx_nat, List.length_map, Nat.min_eq_left (by omega), Nat.min_eq_left (by omega), Nat.add_sub_cancel_left, List.map_take, List.map_drop]

def sp_l_task (K : PySem.W.Frag) (T : Tb) : Sp := fun vs H Q _ => ∃ c m : Int, vs = [.int c, .int m] ∧ 1 ≤ m ∧ m ≤ 4 ∧ ∀ t pa hp H' (L : Int) (zs : List Int) (h : Rat), Sm T H H' → H' t = some (.tup [.int L, .ref pa, .ref hp]) → H' pa = some (.lst (zs.map V.int)) → SqT K H' hp (tv (am h)) → (zs.length : Int) ≤ m → orW L zs (am h) = none → Q (.ref t) H'
/-- hours that can be worked with -/
def Hb (h : Rat) : Prop := 0 ≤ h ∧ h ≤ 2000 ∧ (am h).2 ≤ 60 ∧ Fr (am h).2 h
theorem hr_bd {n d : Int} (n0 : 0 ≤ n) (nb : n ≤ 2000) (d1 : 1 ≤ d) (d60 : d ≤ 60) : Hb ((n : Rat) / (d : Rat)) := by
  have e : (n : Rat) / (d : Rat) * (d : Rat) = (n : Rat) := by have := cn (show d ≠ 0 by omega); grind
  have h0 : 0 ≤ (n : Rat) / (d : Rat) := div_nn (by omega) (Rat.intCast_nonneg.mpr n0)
  have h1 : (1 : Rat) ≤ (d : Rat) := Rat.intCast_le_intCast.mpr d1
  have h2 := Rat.mul_le_mul_of_nonneg_left h1 h0
  rw [Rat.mul_one, e] at h2
  have h3 : (am ((n : Rat) / (d : Rat))).2 ≤ d := by
    rw [← amt_am (by omega)]
    show ((d.natAbs : Nat) : Int) / _ ≤ d
    have := Int.ediv_le_self (a := ((d.natAbs : Nat) : Int)) ((Nat.gcd n.natAbs d.natAbs : Nat) : Int) (by omega)
    omega
  exact ⟨h0, Rat.le_trans h2 (Rat.intCast_le_intCast (b := 2000) |>.mpr nb), by omega, ⟨(am _).1, (vl_am _).symm⟩⟩
theorem emod_le0 {a b : Int} (h : 0 ≤ a) (hb : 0 < b) : a % b ≤ a := by
  have e := Int.emod_def a b
  have := Int.mul_nonneg (Int.le_of_lt hb) (Int.ediv_nonneg h (Int.le_of_lt hb))
  omega
theorem hrs_of {h : Rat} (h0 : 0 ≤ h) (h60 : h ≤ 60) (hd : (am h).2 ≤ 60) : hoursB (am h) = true := by
  unfold hoursB
  rw [show ((0, 1) : Int × Int) = am 0 from am_zero.symm, show ((60, 1) : Int × Int) = am ((60 : Int) : Rat) from (am_int 60).symm, below_am, below_am, decide_eq_false (Rat.not_lt.mpr h0), decide_eq_false (Rat.not_lt.mpr (show h ≤ ((60 : Int) : Rat) from h60)), decide_eq_true hd]
  rfl
theorem or_none {L : Int} {zs : List Int} {h : Rat} (ow : ordW L zs = none) (hB : hoursB (am h) = true) (le : h * ((zs.sum : Int) : Rat) ≤ ((60 * L : Int) : Rat)) : orW L zs (am h) = none := by
  unfold orW
  rw [ow]
  show (if hoursB (am h) = true then (if belowA (60 * L, 1) (timesA (am h) (zs.sum, 1)) = true then some ("too long" : Str) else none) else some "bad time") = none
  rw [if_pos hB, show ((60 * L, 1) : Int × Int) = am ((60 * L : Int) : Rat) from (am_int _).symm, show ((zs.sum, 1) : Int × Int) = am ((zs.sum : Int) : Rat) from (am_int _).symm, times_am, below_am, decide_eq_false (Rat.not_lt.mpr le)]
  rfl
theorem Hb.bd {h : Rat} (hb : Hb h) : Bd 4000 (am h) := bdL (am_pos h) (small (Nat.lt_of_le_of_lt (m := 60) (by have := am_pos h; have := hb.2.2.1; omega) (by decide))) hb.2.2.2 hb.1 (Rat.le_trans hb.2.1 (by decide))
theorem Hb.bdz {h : Rat} (hb : Hb h) {z : Int} (z0 : 0 ≤ z) (z48 : z ≤ 48) : Bd 4000 (am (h * (z : Rat))) := by
  have z3 : (0 : Rat) ≤ (z : Rat) := Rat.intCast_nonneg.mpr z0
  have z4 : (z : Rat) ≤ 48 := Rat.intCast_le_intCast (b := 48) |>.mpr z48
  have m1 := Rat.mul_le_mul_of_nonneg_right hb.2.1 z3
  have m2 := Rat.mul_le_mul_of_nonneg_left z4 (show (0 : Rat) ≤ 2000 by decide)
  refine bdL (am_pos h) (small (Nat.lt_of_le_of_lt (m := 60) (by have := am_pos h; have := hb.2.2.1; omega) (by decide))) ?_ (Rat.mul_nonneg hb.1 z3) (Rat.le_trans m1 (Rat.le_trans m2 (by decide +kernel)))
  rw [Rat.mul_comm]
  exact hb.2.2.2.mulI z
theorem ok_l_task {f : Addr} {fd : FuncData} (F : Fun K "_law_task" "_law_task" s_l_task f fd) (B : Bn mg) (F_l_draws : Fn P w K mg base 1 "_law_draws" ["_law_cell_here", "_law_parts"] (sp_l_draws K T)) (F_l_amt : Fn P w K mg base 2 "_law_amt" ["_law_num", "_law_den"] (sp_l_amt K T)) (F_l_mul : Fn P w K mg base 3 "_law_mul" ["_law_one", "_law_number"] (sp_l_mul K T)) (F_l_less : Fn P w K mg base 1 "_law_less" ["_law_one", "_law_other"] (sp_l_less K T)) : FnOk P w K mg base CX0 4 f fd ["_law_cell_here", "_law_most"] (sp_l_task K T) := by
  refine F.ok sc_l_task (fun vs H Q E h => ?_) (fun cdv A outer s H vs Q E hr h => ?_)
  · obtain ⟨c, m, rfl, _⟩ := h
    rfl
  · obtain ⟨c, m, rfl, m1, m4, q⟩ := h
    refine ⟨_, (pss_cons (ps_set (i := 2) sc_l_task.nd rfl (.inr rfl) (pe_fn F_l_draws (hr.mono (by decide)) (pa_cons (pv 0) (pa_cons (pe_op op_cat (pe_lst (pa_cons (pv 1) (pa_cons pe_int (pa_cons pe_int (pa_cons pe_int (pa_cons pe_int (pa_cons pe_int pa_nil))))))) (pe_op op_rep (pe_lst (pa_cons pe_int pa_nil)) pe_int)) pa_nil))))
      (pss_cons (ps_set (i := 3) sc_l_task.nd rfl (.inl rfl) (pe_op op_add (pe_ix ix_list (pv 2) pe_int (fun _ _ => rfl)) pe_int))
      (pss_cons (ps_setLc (i := 4) (own := [("_law_one", 9)]) (g := (gName 9)) (tt := tYes) (by rfl) sc_l_task.nd rfl rfl (sw_true rfl rfl rfl (by decide +kernel)) (pi_list (pe_slice sl_list (pv 2) (po_some pe_int) (po_some (pe_op op_add pe_int (pv 3))))) (blkOk_by (own := [("_law_one", 9)]) (N := ["_law_cell_here", "_law_most", "_law_drawn", "_law_many_here", "_law_paces", "_law_length", "_law_den", "_law_cap", "_law_hours", "_law_one"]) (sc := (defScope s_l_task)) (by decide +kernel)) (fun _ _ _ _ _ => (pg_name (i := 9) sc_l_task.nd rfl (.inl rfl))) (fun _ _ _ _ _ => pts_nil) (fun _ _ _ _ _ => (pe_ix (r := rIxL K) ix_list (pe_lst (pa_cons (pe_op op_add pe_int (pv 9)) (pa_cons (pe_op op_add pe_int (pe_op op_mod (pv 9) pe_int)) (pa_cons (pe_op op_sub pe_int (pe_op op_mod (pv 9) pe_int)) (pa_cons (pe_op op_add pe_int (pe_ix (r := rIxL K) ix_list (pv 2) pe_int (fun _ _ => rfl))) (pa_cons (pe_op op_add pe_int (pv 9)) pa_nil)))))) (pe_ix (r := rIxL K) ix_list (pv 2) pe_int (fun _ _ => rfl)) (fun _ _ => rfl))))
      (pss_cons (ps_set (i := 5) sc_l_task.nd rfl (.inl rfl) (pe_op op_add pe_int (pe_ix ix_list (pe_lst (pa_cons (pe_ix ix_list (pv 2) pe_int (fun _ _ => rfl)) (pa_cons (pe_op op_mod (pe_ix ix_list (pv 2) pe_int (fun _ _ => rfl)) pe_int) pa_nil))) (pe_op op_fdivW (pe_ix ix_list (pv 2) pe_int (fun _ _ => rfl)) pe_int) (fun _ _ => rfl))))
      (pss_cons (ps_set (i := 6) sc_l_task.nd rfl (.inl rfl) (pe_op op_add pe_int (pe_ix ix_list (pv 2) pe_int (fun _ _ => rfl))))
      (pss_cons (ps_set (i := 7) sc_l_task.nd rfl (.inl rfl) (pe_op op_add (pe_op op_mul (pe_callB (call_min2 rfl) (by rfl) B.min_ (by decide +kernel) (pa_cons pe_int (pa_cons (pe_op op_fdivW (pe_op op_mul pe_int (pv 5)) (pe_callB (cr_sum rfl) (by rfl) B.sum_ (by decide +kernel) (pa_cons (pv 4) pa_nil))) pa_nil))) (pv 6)) (pv 6)))
      (pss_cons (ps_set (i := 8) sc_l_task.nd rfl (.inl rfl) (pe_fn F_l_amt (hr.mono (by decide)) (pa_cons (pe_op op_mod (pe_op op_mul (pe_ix ix_list (pv 2) pe_int (fun _ _ => rfl)) (pe_op op_add pe_int (pe_ix ix_list (pv 2) pe_int (fun _ _ => rfl)))) (pv 7)) (pa_cons (pv 6) pa_nil))))
      (pss_cons (ps_if (PW.pt (pw_and (pt_cmpR op_eq (pe_ix ix_list (pv 2) pe_int (fun _ _ => rfl)) pe_int (nomark _)) (pw_and1 (pt_cmpR op_le (pe_callB (cr_sum rfl) (by rfl) B.sum_ (by decide +kernel) (pa_cons (pv 4) pa_nil)) pe_int (nomark _))))) (pss_one (ps_set (i := 8) sc_l_task.nd rfl (.inl rfl) (pe_fn F_l_amt (hr.mono (by decide)) (pa_cons (pe_op op_mul (pv 5) (pe_op op_mod (pe_ix ix_list (pv 2) pe_int (fun _ _ => rfl)) pe_int)) (pa_cons (pe_callB (cr_sum rfl) (by rfl) B.sum_ (by decide +kernel) (pa_cons (pv 4) pa_nil)) pa_nil))))) pss_nil)
      (pss_cons (ps_if (PW.pt (pw_or (pt_val (pe_fn F_l_less (hr.mono (by decide)) (pa_cons (pe_tup (pa_cons pe_int (pa_cons pe_int pa_nil))) (pa_cons (pv 8) pa_nil)))) (pw_or1 (pt_val (pe_fn F_l_less (hr.mono (by decide)) (pa_cons (pe_tup (pa_cons (pe_op op_mul pe_int (pv 5)) (pa_cons pe_int pa_nil))) (pa_cons (pe_fn F_l_mul (hr.mono (by decide)) (pa_cons (pv 8) (pa_cons (pe_callB (cr_sum rfl) (by rfl) B.sum_ (by decide +kernel) (pa_cons (pv 4) pa_nil)) pa_nil))) pa_nil))))))) (pss_one (ps_set (i := 8) sc_l_task.nd rfl (.inl rfl) (pe_tup (pa_cons pe_int (pa_cons pe_int pa_nil))))) pss_nil)
      (pss_one (ps_ret (pe_tup (pa_cons (pv 5) (pa_cons (pv 4) (pa_cons (pv 8) pa_nil))))))))))))))), ?_⟩
    refine ⟨_, rfl, _, rfl, by show 6 ≤ sizeLine; decide, fun l1 n1 => ⟨by show 1 ≤ sizeLine; decide, fun l2 n2 => ?_⟩⟩
    refine ⟨_, _, _, rfl, rfl, upd_same, by decide, by decide, by show 1 * 4 ≤ sizeLine; decide, fun l3 n3 => ?_⟩
    have u1 := same_upd (T := T) (o := HO.lst [V.int m, V.int 54, V.int 5, V.int 20, V.int 12, V.int 4]) n1
    have u2 := same_upd (T := T) (o := HO.lst [V.int 12]) n2
    have u3 := same_upd (T := T) (o := HO.lst (List.replicate 4 [V.int 12]).flatten) n3
    refine ⟨_, _, _, _, rfl, rfl, u3.k (u2.k upd_same), upd_same, by show 6 + 4 ≤ sizeLine; decide, fun l4 n4 => ?_⟩
    have u4 := same_upd (T := T) (o := HO.lst ([V.int m, V.int 54, V.int 5, V.int 20, V.int 12, V.int 4] ++ (List.replicate 4 [V.int 12]).flatten)) n4
    refine ⟨c, l4, [m, 54, 5, 20, 12, 4, 12, 12, 12, 12], rfl, SqL.of upd_same, by show 10 ≤ 1000; decide, ?_, fun p3 H3 ds s3 np3 e3 hd => ?_⟩
    · intro z hz
      simp only [List.mem_cons, List.not_mem_nil, or_false] at hz
      have : 0 < z ∧ z.natAbs < 100 := by omega
      exact ⟨this.1, Nat.lt_trans this.2 (by decide)⟩
    have s03 : Sm T H H3 := u1.trans (u2.trans (u3.trans (u4.trans s3)))
    clear s3 u1 u2 u3 u4
    have dl : ds.length = 10 := hd.length
    obtain ⟨d0, g0, h00, h01⟩ := hd.get (i := 0) rfl
    obtain ⟨d1, g1, h10, h11⟩ := hd.get (i := 1) rfl
    obtain ⟨d2, g2, h20, h21⟩ := hd.get (i := 2) rfl
    obtain ⟨d3, g3, h30, h31⟩ := hd.get (i := 3) rfl
    obtain ⟨d4, g4, h40, h41⟩ := hd.get (i := 4) rfl
    obtain ⟨d5, g5, h50, h51⟩ := hd.get (i := 5) rfl
    obtain ⟨d6, g6, h60, h61⟩ := hd.get (i := 6) rfl
    obtain ⟨mh, hmh⟩ : ∃ mh : Nat, d0 + 1 = (mh : Int) := ⟨(d0 + 1).toNat, by omega⟩
    refine ⟨_, rfl, p3, _, 0, .int d0, rfl, rfl, SqL.of e3, at_map (i := 0) rfl g0, _, _, rfl, rfl, ?_⟩
    refine ⟨_, rfl, 6, rfl, _, rfl, _, _, rfl, rfl, _, rfl, p3, _, rfl, SqL.of e3, fun p4 np4 => ?_⟩
    have ec : cutV (ds.map V.int) (some 6) (some (6 + (d0 + 1))) = ((ds.drop 6).take mh).map V.int := cut_mid (lo := 6) (m := mh) rfl (by omega) (by omega)
    rw [ec]
    have u4 := same_upd (T := T) (o := HO.lst (((ds.drop 6).take mh).map V.int)) np4
    refine ⟨p4, rfl, ⟨_, SqL.of upd_same⟩, fun D hD => lc_list (K := K) (a := p4) (xs := ((ds.drop 6).take mh).map V.int) (Qd := _) (fun i H' => Sm T (upd H3 p4 (.lst (((ds.drop 6).take mh).map V.int))) H' ∧ ∃ ns : List Int, H' D = some (.lst (ns.map V.int)) ∧ ns.length = i ∧ ∀ n ∈ ns, 1 ≤ n ∧ n ≤ 12) ⟨same_upd hD, [], upd_same, rfl, fun _ h => nomatch h⟩ (fun i H' _ ⟨sm, _⟩ => SqL.of (sm.k upd_same)) ?_ ?_⟩
    · rintro i v H' hi ⟨sm, ns, eD, hl, hn⟩
      rw [List.getElem?_map] at hi
      obtain ⟨one, hq, rfl⟩ : ∃ one, ((ds.drop 6).take mh)[i]? = some one ∧ V.int one = v := Option.map_eq_some_iff.mp hi
      have him : i < mh := by
        have := (List.getElem?_eq_some_iff.mp hq).1
        rw [List.length_take] at this
        omega
      have hone : 0 ≤ one ∧ one < 12 := by
        obtain ⟨x, gx, x0, x1⟩ : ∃ x, ds[6 + i]? = some x ∧ 0 ≤ x ∧ x < 12 := hd.get (q := 12) (by rcases (by omega : i = 0 ∨ i = 1 ∨ i = 2 ∨ i = 3) with rfl | rfl | rfl | rfl <;> rfl)
        rw [List.getElem?_take_of_lt him, List.getElem?_drop, gx] at hq
        cases hq
        exact ⟨x0, x1⟩
      refine ⟨rfl, tyes_i ?_⟩
      have e4 := (u4.trans sm).k e3
      refine ⟨_, rfl, _, _, rfl, rfl, _, rfl, _, _, rfl, rfl, (by show (0 : Int) < 3; decide), _, _, rfl, rfl, _, rfl, _, _, rfl, rfl, (by show (0 : Int) < 2; decide), _, _, rfl, rfl, _, rfl, p3, _, 6, .int d6, rfl, rfl, SqL.of e4, at_map (i := 6) rfl g6, _, _, rfl, rfl, _, rfl, _, _, rfl, rfl, by show 5 ≤ sizeLine; decide, fun l nl => ?_⟩
      have ul := same_upd (T := T) (o := HO.lst [V.int (1 + one), V.int (1 + one % 3), V.int (12 - one % 2), V.int (1 + d6), V.int (1 + one)]) nl
      have hz : ∃ z : Int, 1 ≤ z ∧ z ≤ 12 ∧ atI [V.int (1 + one), V.int (1 + one % 3), V.int (12 - one % 2), V.int (1 + d6), V.int (1 + one)] d2 = some (.int z) := by
        rcases (by omega : d2 = 0 ∨ d2 = 1 ∨ d2 = 2 ∨ d2 = 3 ∨ d2 = 4) with rfl | rfl | rfl | rfl | rfl
        · exact ⟨_, by omega, by omega, atI_nat (j := 0) rfl⟩
        · exact ⟨_, by omega, by omega, atI_nat (j := 1) rfl⟩
        · exact ⟨_, by omega, by omega, atI_nat (j := 2) rfl⟩
        · exact ⟨_, by omega, by omega, atI_nat (j := 3) rfl⟩
        · exact ⟨_, by omega, by omega, atI_nat (j := 4) rfl⟩
      obtain ⟨z, z1, z12, hz⟩ := hz
      have e5 := ul.k e4
      have eD5 := ul.k eD
      refine ⟨_, rfl, p3, _, 2, .int d2, rfl, rfl, SqL.of e5, at_map (i := 2) rfl g2, l, _, _, _, rfl, rfl, SqL.of upd_same, hz, ?_⟩
      refine ⟨_, eD5, by rw [List.length_map]; exact szl (by omega), same_mut (sm.trans ul) hD eD5, ns ++ [z], by rw [upd_same, List.map_append]; rfl, by rw [List.length_append, hl]; rfl, fun n hn' => ?_⟩
      rcases List.mem_append.mp hn' with h | h
      · exact hn n h
      · rw [List.mem_singleton.mp h]
        exact ⟨z1, z12⟩
    · rintro H5 ⟨s5, zs, eD, hl, hn⟩
      have nl : zs.length = mh := by
        rw [hl, List.length_map, List.length_take, List.length_drop]
        omega
      have s05 := s03.trans (u4.trans s5)
      have e35 := (u4.trans s5).k e3
      clear e3 u4 s5 s03
      have sS := mem_le_sum fun z hz => (hn z hz).1
      have sB := sum_bd (c := 12) (by decide) zs fun z hz => ⟨by have := hn z hz; omega, (hn z hz).2⟩
      have s1 : 1 ≤ zs.sum := by
        have a := sS.2 _ (getD_mem (l := zs) (i := 0) (d := 0) (by omega))
        have b := (hn _ (getD_mem (l := zs) (i := 0) (d := 0) (by omega))).1
        omega
      have hy : ∃ y : Int, 0 ≤ y ∧ y < 54 ∧ atI [V.int d1, V.int (d1 % 6)] (d5 / 2) = some (.int y) := by
        rcases (by omega : d5 / 2 = 0 ∨ d5 / 2 = 1) with e | e
        · exact ⟨d1, by omega, by omega, by rw [e]; exact atI_nat (j := 0) rfl⟩
        · exact ⟨d1 % 6, by omega, by omega, by rw [e]; exact atI_nat (j := 1) rfl⟩
      obtain ⟨y, y0, y54, hy⟩ := hy
      refine ⟨_, rfl, p3, _, 1, .int d1, rfl, rfl, SqL.of e35, at_map (i := 1) rfl g1, _, rfl, p3, _, 1, .int d1, rfl, rfl, SqL.of e35, at_map (i := 1) rfl g1, _, _, rfl, rfl, (by show (0 : Int) < 6; decide), by show 2 ≤ sizeLine; decide, fun l6 nl6 => ?_⟩
      have u6 := same_upd (T := T) (o := HO.lst [V.int d1, V.int (d1 % 6)]) nl6
      have e36 := u6.k e35
      have eD6 := u6.k eD
      refine ⟨_, rfl, p3, _, 5, .int d5, rfl, rfl, SqL.of e36, at_map (i := 5) rfl g5, _, _, rfl, rfl, wide_div (b := 10) (by decide) (by decide) (by decide) (by decide), l6, _, _, _, rfl, rfl, SqL.of upd_same, hy, _, _, rfl, rfl, ?_⟩
      have s06 := s05.trans u6
      generalize upd H5 l6 (.lst [V.int d1, V.int (d1 % 6)]) = H6 at *
      obtain ⟨L, eL⟩ : ∃ L, L = 1 + y := ⟨_, rfl⟩
      dsimp only [gName]
      rw [← eL]
      have L1 : 1 ≤ L := by omega
      have L54 : L ≤ 54 := by omega
      have ow : ordW L zs = none := by
        unfold ordW pcW
        rw [if_pos ⟨L1, L54⟩, if_neg (fun c => c ⟨by omega, by omega⟩), if_pos]
        refine List.all_eq_true.mpr fun z hz => ?_
        have := hn z hz
        unfold paceB
        rw [decide_eq_true this.1, decide_eq_true this.2]
        rfl
      clear eL hy y0 y54 e35 eD s05 u6 nl6
      refine ⟨_, rfl, p3, _, 4, .int d4, rfl, rfl, SqL.of e36, at_map (i := 4) rfl g4, _, _, rfl, rfl, ?_⟩
      have c0 : 0 ≤ 6 * L / zs.sum := Int.ediv_nonneg (by omega) (by omega)
      refine ⟨_, rfl, _, _, rfl, rfl, .inl ⟨by decide, by decide⟩, _, rfl, D, zs, rfl, SqL.of eD6, _, _, rfl, rfl, wide_div (b := 10) (by omega) (by omega) (by decide) (by decide), 60, _, rfl, _, rfl, _, _, rfl, rfl, .inr ⟨by omega, by omega⟩, _, rfl, _, _, rfl, rfl, ?_⟩
      obtain ⟨cap, ecap⟩ : ∃ cap, cap = (if 6 * L / zs.sum < 60 then 6 * L / zs.sum else 60) * (1 + d4) + (1 + d4) := ⟨_, rfl⟩
      have hcap : 0 < cap := by
        have : 0 ≤ (if 6 * L / zs.sum < 60 then 6 * L / zs.sum else 60) * (1 + d4) := Int.mul_nonneg (by split <;> omega) (by omega)
        omega
      dsimp only [gName]
      rw [← ecap]
      obtain ⟨nn, enn⟩ : ∃ nn, nn = d3 * (1 + d1) % cap := ⟨_, rfl⟩
      have nn0 : 0 ≤ nn := by rw [enn]; exact Int.emod_nonneg _ (by omega)
      refine ⟨_, rfl, p3, _, 3, .int d3, rfl, rfl, SqL.of e36, at_map (i := 3) rfl g3, _, rfl, p3, _, 1, .int d1, rfl, rfl, SqL.of e36, at_map (i := 1) rfl g1, _, _, rfl, rfl, _, _, rfl, rfl, .inl ⟨by omega, by omega⟩, _, rfl, _, _, rfl, rfl, hcap, _, rfl, _, _, rfl, by omega, Nat.lt_of_le_of_lt (m := 12) (by omega) (Nat.lt_of_lt_of_le (show 12 < 2 ^ 4 by decide) (Nat.pow_le_pow_right (by decide) (by decide))), fun p7 H7 s7 np7 e7 => ?_⟩
      rw [← enn, amt_am (by omega)] at e7
      have nnb : nn ≤ 2000 := by
        rw [enn]
        have : d3 * (1 + d1) ≤ 20 * 54 := Int.mul_le_mul (by omega) (by omega) (by omega) (by omega)
        have h0 : 0 ≤ d3 * (1 + d1) := Int.mul_nonneg (by omega) (by omega)
        have := emod_le0 h0 hcap
        omega
      have s07 := s06.trans s7
      have e37 := s7.k e36
      have eD7 := s7.k eD6
      have hB7 := hr_bd nn0 nnb (show 1 ≤ 1 + d4 by omega) (show 1 + d4 ≤ 60 by omega)
      try dsimp only [gName]
      refine seq_if (fun σ' H' => ∃ hp h, Sm T H7 H' ∧ SqT K H' hp (tv (am h)) ∧ Hb h ∧ σ' = [some (.int c), some (.int m), some (.ref p3), some (.int (d0 + 1)), some (.ref D), some (.int L), some (.int (1 + d4)), some (.int cap), some (.ref hp), none]) (fun σ' H' p => ?_) (fun k => ?_)
      · obtain ⟨hp, h, s8, hh, hB, rfl⟩ := p
        have eD8 := s8.k eD7
        refine seq_if (fun σ' H2 => ∃ hp h, Sm T H' H2 ∧ SqT K H2 hp (tv (am h)) ∧ orW L zs (am h) = none ∧ σ' = [some (.int c), some (.int m), some (.ref p3), some (.int (d0 + 1)), some (.ref D), some (.int L), some (.int (1 + d4)), some (.int cap), some (.ref hp), none]) (fun σ' H2 p => ?_) (fun k => ?_)
        · obtain ⟨hp, h, s9, hh, ho, rfl⟩ := p
          refine ⟨_, rfl, _, rfl, _, rfl, by show 3 ≤ sizeLine; decide, fun t nt => ?_⟩
          have ut := same_upd (T := T) (o := .tup [.int L, .ref D, .ref hp]) nt
          exact q t D hp _ L zs h (s07.trans (s8.trans (s9.trans ut))) upd_same ((s9.trans ut).k eD8) (same_tup ut hh) (by omega) ho
        · refine ⟨by show 2 ≤ sizeLine; decide, fun t9 nt9 => ?_⟩
          have u9 := same_upd (T := T) (o := .tup [.int 60, .int 1]) nt9
          refine ⟨_, rfl, t9, hp, (60, 1), am h, rfl, SqT.of upd_same, same_tup u9 hh, ⟨bd_int (small (by decide)), hB.bd⟩, _, rfl, ?_⟩
          have b12 : hoursB (1, 12) = true := by decide +kernel
          have e12 : am (((1 : Int) : Rat) / ((12 : Int) : Rat)) = (1, 12) := by
            rw [← amt_am (by decide)]
            decide +kernel
          have o12 : orW L zs (am (((1 : Int) : Rat) / ((12 : Int) : Rat))) = none := by
            refine or_none ow (by rw [e12]; exact b12) ?_
            have z4 : ((zs.sum : Int) : Rat) ≤ ((48 : Int) : Rat) := Rat.intCast_le_intCast.mpr (by omega)
            have z5 : ((60 : Int) : Rat) ≤ ((60 * L : Int) : Rat) := Rat.intCast_le_intCast.mpr (by omega)
            have z6 := Rat.mul_le_mul_of_nonneg_left z4 (show (0 : Rat) ≤ ((1 : Int) : Rat) / ((12 : Int) : Rat) by decide +kernel)
            exact Rat.le_trans z6 (Rat.le_trans (by decide +kernel) z5)
          rw [show ((60, 1) : Int × Int) = am ((60 : Int) : Rat) from (am_int 60).symm, below_am]
          by_cases c1 : ((60 : Int) : Rat) < h
          · rw [decide_eq_true c1]
            refine iteT (iteT ⟨by show 2 ≤ sizeLine; decide, fun t10 nt10 => ?_⟩)
            have u10 := same_upd (T := T) (o := .tup [.int 1, .int 12]) nt10
            exact k _ _ ⟨t10, _, u9.trans u10, by rw [e12]; exact SqT.of upd_same, o12, rfl⟩
          · rw [decide_eq_false c1]
            refine iteF ?_
            refine ⟨_, rfl, _, _, rfl, rfl, .inl ⟨by decide, by decide⟩, by show 2 ≤ sizeLine; decide, fun t10 nt10 => ?_⟩
            have u10 := same_upd (T := T) (o := .tup [.int (60 * L), .int 1]) nt10
            refine ⟨_, rfl, _, rfl, D, zs, rfl, SqL.of ((u9.trans u10).k eD8), hp, am h, zs.sum, rfl, same_tup (u9.trans u10) hh, hB.bd, ⟨by omega, by omega⟩, am_pos _, fun p11 H11 s11 np11 e11 => ?_⟩
            rw [mul_am] at e11
            have s911 := u9.trans (u10.trans s11)
            refine ⟨t10, p11, (60 * L, 1), _, rfl, same_tup s11 (SqT.of upd_same), SqT.of e11, ⟨bd_int (small (Nat.lt_of_le_of_lt (m := 3240) (by omega) (by decide))), hB.bdz (by omega) (by omega)⟩, _, rfl, ?_⟩
            rw [show ((60 * L, 1) : Int × Int) = am ((60 * L : Int) : Rat) from (am_int _).symm, below_am]
            by_cases c2 : ((60 * L : Int) : Rat) < h * ((zs.sum : Int) : Rat)
            · rw [decide_eq_true c2]
              refine iteT ⟨by show 2 ≤ sizeLine; decide, fun t12 nt12 => ?_⟩
              have u12 := same_upd (T := T) (o := .tup [.int 1, .int 12]) nt12
              exact k _ _ ⟨t12, _, s911.trans u12, by rw [e12]; exact SqT.of upd_same, o12, rfl⟩
            · rw [decide_eq_false c2]
              refine iteF ?_
              exact k _ _ ⟨hp, h, s911, same_tup s911 hh, or_none ow (hrs_of hB.1 (Rat.not_lt.mp c1) hB.2.2.1) (Rat.not_lt.mp c2), rfl⟩
      · refine ⟨_, rfl, p3, _, 5, .int d5, rfl, rfl, SqL.of e37, at_map (i := 5) rfl g5, rfl, _, rfl, ite2 (fun _ => ?_) (fun _ => ?_)⟩
        · refine ⟨_, rfl, D, zs, rfl, SqL.of eD7, _, _, rfl, rfl, _, rfl, ite2 (fun _ => ?_) (fun _ => ?_)⟩
          · refine ⟨_, rfl, _, rfl, p3, _, 3, .int d3, rfl, rfl, SqL.of e37, at_map (i := 3) rfl g3, _, _, rfl, rfl, (by show (0 : Int) < 6; decide), _, _, rfl, rfl, .inl ⟨by omega, by omega⟩, _, rfl, D, zs, rfl, SqL.of eD7, _, _, rfl, by omega, Nat.lt_of_le_of_lt (m := 48) (by omega) (Nat.lt_of_lt_of_le (show 48 < 2 ^ 6 by decide) (Nat.pow_le_pow_right (by decide) (by decide))), fun p8 H8 s8 np8 e8 => ?_⟩
            rw [amt_am (by omega)] at e8
            have hm6 : 0 ≤ d3 % 6 ∧ d3 % 6 < 6 := by omega
            have m0 : 0 ≤ L * (d3 % 6) := Int.mul_nonneg (by omega) hm6.1
            have m1 : L * (d3 % 6) ≤ 54 * 6 := Int.mul_le_mul L54 (by omega) (by omega) (by decide)
            exact k _ _ ⟨p8, _, s8, SqT.of e8, hr_bd m0 (by omega) s1 (by omega), rfl⟩
          · exact k _ _ ⟨p7, _, Sm.refl, SqT.of e7, hB7, rfl⟩
        · exact k _ _ ⟨p7, _, Sm.refl, SqT.of e7, hB7, rfl⟩

/-! ### a going is fixed by where it begins -/
theorem tn_det {s s1 s2 : Ch} {r1 r2 : List Rw} (a : Tn s s1 r1) (b : Tn s s2 r2) (hl : r1.length = r2.length) : s1 = s2 := by
  induction a generalizing s2 r2 with
  | refl =>
    have : r2 = [] := List.length_eq_zero_iff.mp hl.symm
    subst this
    exact (tn_nil b).symm
  | step a hne he ih =>
    rename_i s3 rows3
    cases b with
    | refl => rw [List.length_append] at hl; exact absurd hl (by show rows3.length + 1 ≠ 0; omega)
    | step b hne2 he2 =>
      rename_i s4 rows4
      rw [List.length_append, List.length_append] at hl
      have : s3 = s4 := ih b (by have : rows3.length + 1 = rows4.length + 1 := hl; omega)
      rw [this]
theorem tn_pre {s s' : Ch} {rows : List Rw} (t : Tn s s' rows) : ∀ i, i ≤ rows.length → ∃ si, Tn s si (rows.take i) ∧ (i < rows.length → si.row ≠ [] ∧ si.spots.getD (si.row.length - 1) 0 = (si.fire : Rat)) := by
  induction t with
  | refl => intro i hi; exact ⟨s, by rw [List.take_nil]; exact .refl, fun h => absurd h (Nat.not_lt_zero _)⟩
  | step t hne hl ih =>
    rename_i s2 rows2
    intro i hi
    rw [List.length_append] at hi
    replace hi : i ≤ rows2.length + 1 := hi
    rcases Nat.lt_or_ge rows2.length i with c | c
    · have e : i = rows2.length + 1 := by omega
      subst e
      refine ⟨turnS s2, ?_, fun h => ?_⟩
      · rw [List.take_of_length_le (by rw [List.length_append]; exact Nat.le_refl _)]
        exact t.step hne hl
      · rw [List.length_append] at h
        exact absurd h (Nat.lt_irrefl _)
    · rw [List.take_append_of_le_length c]
      obtain ⟨si, ti, hi2⟩ := ih i c
      refine ⟨si, ti, fun _ => ?_⟩
      rcases Nat.lt_or_ge i rows2.length with d | d
      · exact hi2 d
      · have e : i = rows2.length := by omega
        subst e
        rw [List.take_length] at ti
        have : si = s2 := tn_det ti t rfl
        rw [this]
        exact ⟨hne, hl⟩
theorem itr_det {s s1 s2 : Ch} {h : Rat} {r1 r2 : List Rw} (a : ItR s h s1 r1) (b : ItR s h s2 r2) : s1 = s2 := by
  have key : ∀ {s1 s2 : Ch} {r1 r2 : List Rw}, ItR s h s1 r1 → ItR s h s2 r2 → r1.length ≤ r2.length → s1 = s2 := fun {s1 s2 r1 r2} a b hle => by
    rcases Nat.lt_or_ge r1.length r2.length with c | c
    · obtain ⟨si, ti, hi⟩ := tn_pre b.1 r1.length hle
      have e := tn_det ti a.1 (by rw [List.length_take]; omega)
      have := hi c
      rw [e] at this
      exact absurd this.2 (a.2.2 this.1)
    · exact tn_det a.1 b.1 (by omega)
  rcases Nat.le_total r1.length r2.length with c | c
  · exact key a b c
  · exact (key b a c).symm
theorem rn_det {s0 : Ch} {h0 : Rat} : ∀ {k : Nat} {s s' : Ch} {l l' : Rat}, RnK s0 h0 k s l → RnK s0 h0 k s' l' → s = s' ∧ l = l'
  | 0, _, _, _, _, .refl, .refl => ⟨rfl, rfl⟩
  | k + 1, _, _, _, _, .step a _ _ ia, .step b _ _ ib => by
    obtain ⟨e1, e2⟩ := rn_det a b
    subst e1
    subst e2
    exact ⟨itr_det ia ib, rfl⟩
theorem rn_pre {s0 : Ch} {h0 : Rat} {k : Nat} {s : Ch} {l : Rat} (r : RnK s0 h0 k s l) : ∀ j, j < k → ∃ sj lj, RnK s0 h0 j sj lj ∧ 0 < lj := by
  induction r with
  | refl => intro j hj; exact absurd hj (Nat.not_lt_zero _)
  | step r hne hl it ih =>
    rename_i k2 s2 s3 l2 rows2
    intro j hj
    rcases Nat.lt_or_ge j k2 with c | c
    · exact ih j c
    · have e : j = k2 := by omega
      subst e
      exact ⟨_, _, r, hl⟩
theorem rn_end {s0 : Ch} {h0 : Rat} {k k' : Nat} {s s' : Ch} (a : RnK s0 h0 k s 0) (b : RnK s0 h0 k' s' 0) : s = s' := by
  have key : ∀ {k k' : Nat} {s s' : Ch}, RnK s0 h0 k s 0 → RnK s0 h0 k' s' 0 → k ≤ k' → s = s' := fun {k k' s s'} a b hle => by
    rcases Nat.lt_or_ge k k' with c | c
    · obtain ⟨sj, lj, rj, hj⟩ := rn_pre b k c
      have e := (rn_det a rj).2
      rw [← e] at hj
      exact absurd hj (by decide)
    · have e : k = k' := by omega
      subst e
      exact (rn_det a b).1
  rcases Nat.le_total k k' with c | c
  · exact key a b c
  · exact (key b a c).symm

/-! ### a going comes to its end -/
theorem tn_ex {s0 : Ch} : ∀ (n : Nat) {s : Ch} {rows : List Rw}, Tn s0 s rows → Side s → 1 ≤ s.fire → cntF s = n → ∃ s' rows', Tn s0 s' rows' ∧ rows'.length ≤ rows.length + n ∧ (s'.row ≠ [] → s'.spots.getD (s'.row.length - 1) 0 ≠ (s'.fire : Rat))
  | n, s, rows, t, sd, hf, hc => by
    by_cases c : s.row ≠ [] ∧ s.spots.getD (s.row.length - 1) 0 = (s.fire : Rat)
    · have ct := cnt_turn sd c.1 c.2 hf
      cases n with
      | zero => omega
      | succ n =>
        have hf' : 1 ≤ (turnS s).fire := by rw [(turnS_row s).2.2.2.2.2.1]; exact hf
        obtain ⟨s', rows', t', hl, he⟩ := tn_ex n (t.step c.1 c.2) (turnS_side sd) hf' (by omega)
        refine ⟨s', rows', t', ?_, he⟩
        rw [List.length_append] at hl
        have : [rowS s].length = 1 := rfl
        omega
    · exact ⟨s, rows, t, by omega, fun hne he => c ⟨hne, he⟩⟩
theorem cntF_le {s : Ch} (sd : Side s) : cntF s ≤ 8 := by
  have a := List.countP_le_length (p := fun x => decide (x = (s.fire : Rat))) (l := s.spots)
  have b := sd.ls
  have c := sd.n8
  unfold cntF
  omega
theorem itr_ex {s : Ch} (sd : Side s) (hf : 1 ≤ s.fire) (hp : (My.pcs s).length = s.row.length) (t : Rat) : ∃ s' rows, ItR s t s' rows := by
  have sd1 : Side (walkS s t) := ⟨sd.ll, by show (walkM (My.pcs s) s.spots t).length = s.row.length; rw [walkM_len, hp], sd.n8, sd.ld⟩
  obtain ⟨s', rows, t', hl, he⟩ := tn_ex _ (Tn.refl (s := walkS s t)) sd1 hf rfl
  have := cntF_le sd1
  exact ⟨s', rows, t', by rw [List.length_nil] at hl; omega, he⟩

abbrev sp_l_add : PySem.W.Frag → Tb → Sp := spBin (fun x y => 0 < x.2 ∧ 0 < y.2) plusA
theorem ok_l_add {f : Addr} {fd : FuncData} (F : Fun K "_law_add" "_law_add" s_l_add f fd) (F_l_amt : Fn P w K mg base 2 "_law_amt" ["_law_num", "_law_den"] (sp_l_amt K T)) : FnOk P w K mg base CX0 3 f fd ["_law_one", "_law_other"] (sp_l_add K T) := by
  refine F.ok sc_l_add (fun vs H Q E h => ?_) (fun cdv A outer s H vs Q E hr h => ?_)
  · obtain ⟨a, b, x, y, rfl, _⟩ := h
    rfl
  · obtain ⟨a, b, x, y, rfl, ha, hb, ⟨bx, by_⟩, ⟨hx, hy⟩, q⟩ := h
    refine ⟨_, (pss_one (ps_ret (pe_fn F_l_amt (hr.mono (by decide)) (pa_cons (pe_op op_add (pe_op op_mulW (pe_ix ix_tup (pv 0) pe_int (fun _ _ => rfl)) (pe_ix ix_tup (pv 1) pe_int (fun _ _ => rfl))) (pe_op op_mulW (pe_ix ix_tup (pv 1) pe_int (fun _ _ => rfl)) (pe_ix ix_tup (pv 0) pe_int (fun _ _ => rfl)))) (pa_cons (pe_op op_mulW (pe_ix ix_tup (pv 0) pe_int (fun _ _ => rfl)) (pe_ix ix_tup (pv 1) pe_int (fun _ _ => rfl))) pa_nil))))), ?_⟩
    refine ⟨_, rfl, a, _, 0, .int x.1, rfl, rfl, ha, atI_nat (j := 0) rfl, _, rfl, b, _, 1, .int y.2, rfl, rfl, hb, atI_nat (j := 1) rfl, _, _, rfl, rfl, wm bx.1 by_.2, ?_⟩
    refine ⟨_, rfl, b, _, 0, .int y.1, rfl, rfl, hb, atI_nat (j := 0) rfl, _, rfl, a, _, 1, .int x.2, rfl, rfl, ha, atI_nat (j := 1) rfl, _, _, rfl, rfl, wm by_.1 bx.2, _, _, rfl, rfl, ?_⟩
    refine ⟨_, rfl, a, _, 1, .int x.2, rfl, rfl, ha, atI_nat (j := 1) rfl, _, rfl, b, _, 1, .int y.2, rfl, rfl, hb, atI_nat (j := 1) rfl, _, _, rfl, rfl, wm bx.2 by_.2, ?_⟩
    exact ⟨_, _, rfl, Int.mul_pos hx hy, wl bx.2 by_.2, q⟩

theorem en_bg {L : Int} {zs : List Int} (w1 : ordW L zs = none) : En (nmO zs.length) zs L (wayF L) (bgO L zs) := by
  obtain ⟨o1, o2, o3, o4, o5, o6, o7⟩ := ord_facts w1
  have key : ∀ j, j ≤ zs.length → En ((nmO zs.length).drop (zs.length - j)) (zs.drop (zs.length - j)) L (wayF L) (bgS L (((nmO zs.length).zip zs).drop (zs.length - j))) := fun j => by
    induction j with
    | zero =>
      intro _
      rw [List.drop_of_length_le (by rw [nmO_len]; omega), List.drop_of_length_le (by omega), List.drop_of_length_le (by rw [List.length_zip, nmO_len]; omega)]
      exact En.new L (wayF L)
    | succ j ih =>
      intro hj
      have en := ih (by omega)
      have hk : zs.length - 1 - j < zs.length := by omega
      have nn := nmO_new hk
      have d1 := nmO_drop hk
      have d2 := List.drop_eq_getElem_cons (show zs.length - 1 - j < zs.length by omega)
      have d3 := List.drop_eq_getElem_cons (l := (nmO zs.length).zip zs) (i := zs.length - 1 - j) (by rw [List.length_zip, nmO_len]; omega)
      rw [show zs.length - 1 - j + 1 = zs.length - j from by omega] at nn d1 d2 d3
      rw [List.getElem_zip, nmO_get hk] at d3
      have hpp := o5 _ (List.getElem_mem (show zs.length - 1 - j < zs.length by omega))
      have ln : ((nmO zs.length).drop (zs.length - j)).length = j := by rw [List.length_drop, nmO_len]; omega
      rw [show zs.length - (j + 1) = zs.length - 1 - j from by omega, d1, d2, d3]
      exact (en.enter nn (chO_ok (by omega)).1 (by omega) hpp.1 hpp.2 o1).2
  have := key zs.length (Nat.le_refl _)
  rw [Nat.sub_self, List.drop_zero, List.drop_zero, List.drop_zero] at this
  exact this

/-! ### the law's own going from meeting to meeting -/
def mcV (L : Int) (ap ax ah : Addr) (n : Int) : List (L2.Key × V) := [(Sum.inr "len", .int L), (Sum.inr "paces", .ref ap), (Sum.inr "places", .ref ax), (Sum.inr "hour", .ref ah), (Sum.inr "outs", .int n)]
theorem mcV_get (L : Int) (ap ax ah : Addr) (n : Int) : valV (mcV L ap ax ah n) (Sum.inr "len") = some (.int L) ∧ valV (mcV L ap ax ah n) (Sum.inr "paces") = some (.ref ap) ∧ valV (mcV L ap ax ah n) (Sum.inr "places") = some (.ref ax) ∧ valV (mcV L ap ax ah n) (Sum.inr "hour") = some (.ref ah) ∧ valV (mcV L ap ax ah n) (Sum.inr "outs") = some (.int n) := ⟨rfl, rfl, rfl, rfl, rfl⟩
theorem mcV_put (L : Int) (ap ax ah : Addr) (n : Int) : (∀ b, putK (mcV L ap ax ah n) (Sum.inr "places") (.ref b) = mcV L ap b ah n) ∧ (∀ b, putK (mcV L ap ax ah n) (Sum.inr "hour") (.ref b) = mcV L ap ax b n) ∧ (∀ k, putK (mcV L ap ax ah n) (Sum.inr "outs") (.int k) = mcV L ap ax ah k) := ⟨fun _ => rfl, fun _ => rfl, fun _ => rfl⟩
theorem mcV_new (L : Int) (ap ax ah : Addr) (n : Int) : mergeK [] (mcV L ap ax ah n) = mcV L ap ax ah n := rfl
/-- the law's dict: its parts -/
structure McA (K : PySem.W.Frag) (H : Hp) (m ap ax ah : Addr) (us : List V) (L : Int) (ps : List Int) (xs : List Rat) (now : Rat) (n : Int) : Prop where
  d : H m = some (.dK (mcV L ap ax ah n))
  p : H ap = some (.lst (ps.map V.int))
  x : H ax = some (.lst us)
  u : AmL K H us xs
  h : SqT K H ah (tv (am now))
def McAt (K : PySem.W.Frag) (H : Hp) (m : Addr) (L : Int) (ps : List Int) (xs : List Rat) (now : Rat) (n : Int) : Prop := ∃ ap ax ah us, McA K H m ap ax ah us L ps xs now n
def sp_l_march (K : PySem.W.Frag) (T : Tb) : Sp := fun vs H Q _ => ∃ (L : Int) (a : Addr) (ps : List Int), vs = [.int L, .ref a] ∧ SqL K H a (ps.map V.int) ∧ ps.length ≤ 1000 ∧ ∀ m H', Sm T H H' → H m = none → McAt K H' m L ps (ps.map fun _ => 0) 0 0 → Q (.ref m) H'
theorem McA.keep {T : Tb} {S : List Addr} {K : PySem.W.Frag} {H H' : Hp} {m ap ax ah : Addr} {us : List V} {L : Int} {ps : List Int} {xs : List Rat} {now : Rat} {n : Int} (c : McA K H m ap ax ah us L ps xs now n) (s : Sx T S H H') (h1 : m ∉ S) (h2 : ap ∉ S) (h3 : ax ∉ S) : McA K H' m ap ax ah us L ps xs now n :=
  ⟨s.keep _ _ c.d trivial (.inr h1), s.lst c.p h2, s.lst c.x h3, s.ams c.u, s.tup c.h⟩
theorem McA.same {T : Tb} {K : PySem.W.Frag} {H H' : Hp} {m ap ax ah : Addr} {us : List V} {L : Int} {ps : List Int} {xs : List Rat} {now : Rat} {n : Int} (c : McA K H m ap ax ah us L ps xs now n) (s : Sm T H H') : McA K H' m ap ax ah us L ps xs now n := c.keep (s.sx (S := [])) (by simp) (by simp) (by simp)
section
variable {K : PySem.W.Frag} {H : Hp} {m ap ax ah : Addr} {us : List V} {L : Int} {ps : List Int} {xs : List Rat} {now : Rat} {n : Int}
theorem McA.gl (c : McA K H m ap ax ah us L ps xs now n) : DGet H m (.str "len") (some (.int L)) := DGet.k (k := Sum.inr "len") c.d
theorem McA.gp (c : McA K H m ap ax ah us L ps xs now n) : DGet H m (.str "paces") (some (.ref ap)) := DGet.k (k := Sum.inr "paces") c.d
theorem McA.gx (c : McA K H m ap ax ah us L ps xs now n) : DGet H m (.str "places") (some (.ref ax)) := DGet.k (k := Sum.inr "places") c.d
theorem McA.gh (c : McA K H m ap ax ah us L ps xs now n) : DGet H m (.str "hour") (some (.ref ah)) := DGet.k (k := Sum.inr "hour") c.d
theorem McA.go (c : McA K H m ap ax ah us L ps xs now n) : DGet H m (.str "outs") (some (.int n)) := DGet.k (k := Sum.inr "outs") c.d
theorem McA.nx (c : McA K H m ap ax ah us L ps xs now n) : ap ≠ m ∧ ax ≠ m := by
  refine ⟨fun z => ?_, fun z => ?_⟩
  · have h := c.p
    rw [z, c.d] at h
    cases h
  · have h := c.x
    rw [z, c.d] at h
    cases h
end
theorem cut_neg1 {us : List V} (h : 0 < us.length) : cutV us none (some (-1)) = us.take (us.length - 1) := by
  unfold cutV
  have e : HT.sIx us.length us.length (some (-1)) = us.length - 1 := by
    show (if (-1 : Int) < 0 then ((-1 : Int) + (us.length : Int)).toNat else min (-1 : Int).toNat us.length) = _
    rw [if_pos (by decide)]
    omega
  rw [e, HT.sIx_none, List.drop_zero, Nat.sub_zero]
/-- the pails handed on, i times -/
def rotN (xs : List Rat) : Nat → List Rat
  | 0 => xs
  | i + 1 => 0 :: (rotN xs i).dropLast
theorem rotN_len {xs : List Rat} (h : 0 < xs.length) : ∀ i, (rotN xs i).length = xs.length
  | 0 => rfl
  | i + 1 => by
    show ((rotN xs i).dropLast).length + 1 = _
    rw [List.length_dropLast, rotN_len h i]
    omega
/-- walked on till the next meeting, or for what is left of so many hours; then r pails -/
def sp_l_march_on (K : PySem.W.Frag) (T : Tb) : Sp := fun vs H Q _ => ∃ (m : Addr) (v : V) (D L : Int) (ps : List Int) (xs : List Rat) (now : Rat) (n : Int) (t : Rat) (r : Nat) (ap : Addr), vs = [.ref m, v] ∧ (∃ ax ah us, McA K H m ap ax ah us L ps xs now n) ∧ Wk D L ps xs ∧ (0 < D ∧ D.natAbs < 2 ^ 3890) ∧ (1 ≤ L ∧ L ≤ 1000) ∧ ps ≠ [] ∧
  (Fr D now ∧ 0 ≤ now ∧ now ≤ 70000) ∧ ((v = .non ∧ t = meetM L ps xs) ∨ ∃ (hp : Addr) (mo : Rat), v = .ref hp ∧ SqT K H hp (tv (am mo)) ∧ (Fr D mo ∧ now ≤ mo ∧ mo ≤ 70000) ∧ t = mnR (mo - now) (meetM L ps xs)) ∧
  (∀ i, i < r → (rotN (walkM ps xs t) i).getD (ps.length - 1) 0 = (L : Rat)) ∧ (rotN (walkM ps xs t) r).getD (ps.length - 1) 0 ≠ (L : Rat) ∧ r ≤ 1000 ∧
  ∀ H', Sx T [m] H H' → (∃ ax ah us, McA K H' m ap ax ah us L ps (rotN (walkM ps xs t) r) (now + t) (n + r) ∧ H ax = none) → Q .non H'
/-! ### the whole going -/
theorem tn_spots {s s' : Ch} {rows : List Rw} (t : Tn s s' rows) (h : 0 < s.spots.length) : s'.spots = rotN s.spots rows.length ∧ s'.row = s.row ∧ s'.fire = s.fire ∧ s'.poured.length = s.poured.length + rows.length := by
  induction t with
  | refl => exact ⟨rfl, rfl, rfl, rfl⟩
  | step t hne hl ih =>
    rename_i s2 rows2
    obtain ⟨e1, e2, e3, e4⟩ := ih
    obtain ⟨r1, _, _, _, _, r6, _⟩ := turnS_row s2
    obtain ⟨p1, _, p3, _⟩ := turnS_pour s2
    have hl2 : s2.spots.length = s.spots.length := by rw [e1, rotN_len h]
    rw [List.length_append]
    refine ⟨?_, by rw [r1, e2], by rw [r6, e3], ?_⟩
    · rw [p3]
      show _ = 0 :: (rotN s.spots rows2.length).dropLast
      rw [← e1]
      cases hs : s2.spots with
      | nil => rw [hs] at hl2; simp at hl2; omega
      | cons a l => rfl
    · rw [p1, List.length_append, e4]
      show _ = _ + (_ + 1)
      simp only [List.length_cons, List.length_nil]
      omega
/-- what the law's while asks of the turns -/
theorem itr_rot {s s' : Ch} {t : Rat} {rows : List Rw} (it : ItR s t s' rows) (hne : s.row ≠ []) (hls : s.spots.length = s.row.length) (hps : (My.pcs s).length = s.row.length) : s'.spots = rotN (walkM (My.pcs s) s.spots t) rows.length ∧ s'.poured.length = s.poured.length + rows.length ∧
    (∀ i, i < rows.length → (rotN (walkM (My.pcs s) s.spots t) i).getD (s.row.length - 1) 0 = (s.fire : Rat)) ∧ (rotN (walkM (My.pcs s) s.spots t) rows.length).getD (s.row.length - 1) 0 ≠ (s.fire : Rat) := by
  obtain ⟨tn, _, nl⟩ := it
  have h0 : 0 < (walkS s t).spots.length := by
    show 0 < (walkM (My.pcs s) s.spots t).length
    rw [walkM_len, hps]
    exact List.length_pos_iff.mpr hne
  obtain ⟨e1, e2, e3, e4⟩ := tn_spots tn h0
  have e2' : s'.row = s.row := e2
  have e3' : s'.fire = s.fire := e3
  refine ⟨e1, e4, fun i hi => ?_, ?_⟩
  · obtain ⟨si, ti, hi2⟩ := tn_pre tn i (Nat.le_of_lt hi)
    obtain ⟨f1, f2, f3, f4⟩ := tn_spots ti h0
    have f2' : si.row = s.row := f2
    have f3' : si.fire = s.fire := f3
    have := (hi2 hi).2
    rw [f2', f3', f1, List.length_take, Nat.min_eq_left (Nat.le_of_lt hi)] at this
    exact this
  · have := nl (by rw [e2']; exact hne)
    rw [e2', e3', e1] at this
    exact this
theorem rn_at {s0 : Ch} {h0 : Rat} {k : Nat} {s : Ch} {l : Rat} (r : RnK s0 h0 k s l) : ∀ j, j < k → ∃ sj lj s' rows, RnK s0 h0 j sj lj ∧ 0 < lj ∧ sj.row ≠ [] ∧ ItR sj (mnR lj (meetS sj)) s' rows ∧ RnK s0 h0 (j + 1) s' (lj - mnR lj (meetS sj)) := by
  induction r with
  | refl => intro j hj; exact absurd hj (Nat.not_lt_zero _)
  | step r hne hl it ih =>
    rename_i k2 s2 s3 l2 rows2
    intro j hj
    rcases Nat.lt_or_ge j k2 with c | c
    · exact ih j c
    · have e : j = k2 := by omega
      subst e
      exact ⟨_, _, _, _, r, hl, hne, it, r.step hne hl it⟩
/-- how far the numbers go, and how many meetings there are -/
theorem rn_gn {ns : List Str} {ps : List Int} {L : Int} {W : List Am} {D : Int} {s0 : Ch} {h0 : Rat} {e : Nat} (h : Gn ns ps L W D s0) (hs : Hg ns ps L) (hD : 0 < D ∧ D.natAbs < 2 ^ e) (f0 : Fr D h0) (p0 : 0 ≤ h0) {k : Nat} {s : Ch} {l : Rat} (r : RnK s0 h0 k s l) :
    ∃ D', Gn ns ps L W D' s ∧ (0 < D' ∧ D'.natAbs < 2 ^ (4 * k + e)) ∧ Fr D' h0 ∧ Fr D' l ∧ 0 ≤ l ∧ l ≤ h0 ∧ s.now + l = s0.now + h0 ∧ 8 * s0.poured.length + k ≤ 8 * s.poured.length + stkN ps s.spots + (if l = 0 then 1 else 0) := by
  have sb : ∀ xs, stkN ps xs ≤ 7 := fun xs => by have := stk_le ps xs; have := hs.lp; have := hs.n8; omega
  induction r with
  | refl => exact ⟨D, h, ⟨hD.1, pw4_le hD.2 (by omega)⟩, f0, f0, p0, Rat.le_refl, rfl, by omega⟩
  | step r hne hl it ih =>
    rename_i k2 s2 s3 l2 rows2
    obtain ⟨D', ri, bd, fh, fl, l0, l6, en, kb⟩ := ih
    have ln : l2 ≠ 0 := fun z => by rw [z] at hl; exact absurd hl (by decide)
    rw [if_neg ln] at kb
    have sb1 := sb s2.spots
    have sb2 := sb s3.spots
    by_cases hc : meetS s2 < l2
    · have em : mnR l2 (meetS s2) = meetS s2 := if_pos hc
      rw [em] at it ⊢
      obtain ⟨kk, k1, k12, mf, mp, _⟩ := ri.meet_fr hs bd.1
      have pos2 : 0 < D' * kk := Int.mul_pos bd.1 (by omega)
      obtain ⟨r3, e3, e4, e5⟩ := (ri.scale bd.1 k1).step hs pos2 mf (Rat.le_of_lt mp) Rat.le_refl it
      have r1 := e4 rfl
      refine ⟨D' * kk, r3, ⟨pos2, pw4_le (pw4_mul bd.2 k1 k12) (by omega)⟩, fh.scale (by omega) (by omega), (fl.scale (by omega) (by omega)).sub mf, by grind, by grind, by rw [e5]; grind, ?_⟩
      have : (0 : Nat) ≤ (if l2 - meetS s2 = 0 then 1 else 0) := Nat.zero_le _
      omega
    · have em : mnR l2 (meetS s2) = l2 := if_neg hc
      rw [em] at it ⊢
      obtain ⟨r3, e3, e4, e5⟩ := ri.step hs bd.1 fl l0 (Rat.not_lt.mp hc) it
      have ez : l2 - l2 = 0 := by grind
      rw [ez, if_pos rfl]
      have mono : rows2.length = 0 → stkN ps s2.spots ≤ stkN ps s3.spots := fun z => by
        have e0 : rows2 = [] := List.length_eq_zero_iff.mp z
        have tn := it.1
        rw [e0] at tn
        have es := tn_nil tn
        rw [es]
        show _ ≤ stkN ps (walkM (My.pcs s2) s2.spots l2)
        rw [ri.pc]
        refine List.countP_mono_left fun j hj hh => stk_keep (ri.wk hs) l0 ?_ (by rw [List.mem_range] at hj; omega) hh
        rw [← ri.meet]
        exact Rat.not_lt.mp hc
      refine ⟨D', r3, ⟨bd.1, pw4_le bd.2 (by omega)⟩, fh, Fr.zero (by omega), Rat.le_refl, p0, by rw [e5]; grind, ?_⟩
      rcases Nat.eq_zero_or_pos rows2.length with z | z
      · have := mono z
        omega
      · omega
theorem bgS_sp (L : Int) : ∀ l : List (Str × Int), (bgS L l).spots = l.map fun _ => 0
  | [] => rfl
  | x :: l => by
    show 0 :: (bgS L l).spots = _
    rw [bgS_sp L l]
    rfl
theorem bgO_sp (L : Int) (ps : List Int) : (bgO L ps).spots = ps.map fun _ => 0 := by
  unfold bgO
  rw [bgS_sp]
  refine List.ext_getElem (by rw [List.length_map, List.length_map, List.length_zip, nmO_len]; omega) fun i h1 h2 => ?_
  rw [List.getElem_map, List.getElem_map]

/-! ### data that is compared -/
theorem letB_le2 {c : Nat} (h : letB c = true) : c ≤ 122 := by
  unfold letB at h
  rw [Bool.and_eq_true] at h
  obtain ⟨_, h2⟩ := h
  rw [Bool.not_eq_true'] at h2
  have h3 := of_decide_eq_false h2
  refine Nat.not_lt.mp fun z => h3 ?_
  show [122] < [c]
  exact List.Lex.rel z
theorem name_str {n : Str} (h : nameB n = true) : PyData.strOk n = true := by
  unfold nameB at h
  rw [Bool.and_eq_true, List.all_eq_true] at h
  unfold PyData.strOk
  rw [← Array.all_toList, List.all_eq_true]
  intro x hx
  have := h.2 x hx
  have := letB_le2 this
  exact decide_eq_true (by omega)
def Sh (n : Nat) (d : PyData) : Prop := PyData.canLay0 d = true ∧ PyData.depth d ≤ n
theorem lays_all : ∀ {n : Nat} {ds : List PyData}, (∀ d ∈ ds, Sh n d) → PyData.canLayAll0 ds = true ∧ PyData.depthAll ds ≤ n
  | _, [], _ => by simp [PyData.canLayAll0, PyData.depthAll]
  | n, d :: ds, h => by
    obtain ⟨a, b⟩ := lays_all (ds := ds) fun x hx => h x (List.mem_cons_of_mem _ hx)
    obtain ⟨c, e⟩ := h d List.mem_cons_self
    refine ⟨?_, ?_⟩
    · simp only [PyData.canLayAll0, a, c, Bool.and_self]
    · simp only [PyData.depthAll]; omega
theorem Sh.lst {n : Nat} {ds : List PyData} (h : ∀ d ∈ ds, Sh n d) : Sh (n + 1) (.list ds) := by
  obtain ⟨a, b⟩ := lays_all h
  exact ⟨by simp only [PyData.canLay0]; exact a, by simp only [PyData.depth]; omega⟩
theorem Sh.tup {n : Nat} {ds : List PyData} (h : ∀ d ∈ ds, Sh n d) : Sh (n + 1) (.tuple ds) := by
  obtain ⟨a, b⟩ := lays_all h
  exact ⟨by simp only [PyData.canLay0]; exact a, by simp only [PyData.depth]; omega⟩
theorem Sh.mono {n m : Nat} {d : PyData} (h : Sh n d) (hm : n ≤ m) : Sh m d := ⟨h.1, Nat.le_trans h.2 hm⟩
theorem Sh.int {n : Nat} (i : Int) : Sh n (.int i) := ⟨by simp [PyData.canLay0], by simp [PyData.depth]⟩
theorem Sh.bool {n : Nat} (i : Bool) : Sh n (.bool i) := ⟨by simp [PyData.canLay0], by simp [PyData.depth]⟩
theorem Sh.none {n : Nat} : Sh n .none := ⟨by simp [PyData.canLay0], by simp [PyData.depth]⟩
theorem Sh.str {n : Nat} {x : Str} (h : PyData.strOk x = true) : Sh n (.str x) := ⟨by simp only [PyData.canLay0]; exact h, by simp [PyData.depth]⟩
theorem Sh.am {n : Nat} (x : Am) : Sh (n + 1) (amD x) := Sh.tup fun d hd => by
  simp only [List.mem_cons, List.not_mem_nil, or_false] at hd
  rcases hd with rfl | rfl <;> exact Sh.int _
theorem Sh.map {α : Type} {n : Nat} {f : α → PyData} {l : List α} (h : ∀ x ∈ l, Sh n (f x)) : ∀ d ∈ l.map f, Sh n d := fun d hd => by
  obtain ⟨x, hx, rfl⟩ := List.mem_map.mp hd
  exact h x hx
theorem Sh.ok {n : Nat} {d : PyData} (h : Sh n d) (hn : n ≤ 64) : SeqAt.shaped d = true := by
  unfold SeqAt.shaped
  rw [h.1, Bool.true_and]
  exact decide_eq_true (Nat.le_trans h.2 hn)
mutual
theorem eqv_self : ∀ d : PyData, PyData.canLay0 d = true → PyData.eqv d d = true
  | .none, _ => by simp [PyData.eqv]
  | .bool b, _ => by simp [PyData.eqv]
  | .int i, _ => by simp [PyData.eqv]
  | .str x, _ => by simp [PyData.eqv]
  | .list ds, h => by simp only [PyData.eqv]; exact eqvs_self ds (by simpa [PyData.canLay0] using h)
  | .tuple ds, h => by simp only [PyData.eqv]; exact eqvs_self ds (by simpa [PyData.canLay0] using h)
  | .dict kv, h => by simp [PyData.canLay0] at h
theorem eqvs_self : ∀ ds : List PyData, PyData.canLayAll0 ds = true → PyData.eqvAll ds ds = true
  | [], _ => by simp [PyData.eqvAll]
  | d :: ds, h => by
    simp only [PyData.canLayAll0, Bool.and_eq_true] at h
    simp only [PyData.eqvAll, eqv_self d h.1, eqvs_self ds h.2, Bool.and_self]
end
theorem Sh.ne {n : Nat} {d e : PyData} (h : Sh n d) (q : d = e) : (!PyData.eqv d e) = false := by
  rw [← q, eqv_self d h.1]
  rfl
theorem Sh.eq {n : Nat} {d e : PyData} (h : Sh n d) (q : d = e) : PyData.eqv d e = true := by
  rw [← q, eqv_self d h.1]
theorem dpas_strs {K : PySem.W.Frag} {H : Hp} : ∀ l : List Str, DpAll K H (l.map V.str) (l.map PyData.str)
  | [] => .nil
  | x :: l => .cons (.str _) (dpas_strs l)
theorem dpas_ints {K : PySem.W.Frag} {H : Hp} : ∀ l : List Int, DpAll K H (l.map V.int) (l.map PyData.int)
  | [] => .nil
  | x :: l => .cons (.int _) (dpas_ints l)
theorem dp_strL {K : PySem.W.Frag} {H : Hp} {a : Addr} {l : List Str} (h : SqL K H a (l.map V.str)) : Dp K H (.ref a) (.list (l.map PyData.str)) := .lst h (dpas_strs l)
theorem dp_intL {K : PySem.W.Frag} {H : Hp} {a : Addr} {l : List Int} (h : SqL K H a (l.map V.int)) : Dp K H (.ref a) (.list (l.map PyData.int)) := .lst h (dpas_ints l)
theorem Sh.strs {n : Nat} {l : List Str} (h : ∀ x ∈ l, nameB x = true) : Sh (n + 1) (.list (l.map PyData.str)) := Sh.lst (Sh.map fun x hx => Sh.str (name_str (h x hx)))
theorem Sh.ints {n : Nat} (l : List Int) : Sh (n + 1) (.list (l.map PyData.int)) := Sh.lst (Sh.map fun x _ => Sh.int x)

theorem for_enum {K : PySem.W.Frag} {a : Addr} {xs : List V} {g : TG} {tb : TS} {D : Ends} {σ : L2.St} {H : Hp} (Pv : Nat → L2.St → Hp → Prop) (h0 : Pv 0 σ H) (hl : ∀ i σ H, i ≤ xs.length → Pv i σ H → SqL K H a xs)
    (hs : ∀ i x σ H T, xs[i]? = some x → Pv i σ H → H T = none → g (.ref T) σ (upd H T (.tup [.int (i : Nat), x])) fun σ2 H2 => tb { D with nx := Pv (i + 1), ct := Pv (i + 1), bk := D.nx } σ2 H2) (hd : ∀ σ H, Pv xs.length σ H → D.nx σ H) :
    ∃ W : Nat → Nat → L2.St → Hp → Prop, (∃ m, W 0 m σ H) ∧ ∀ i m σ H, W i m σ H →
      ((Ite K a).stop i H ∧ D.nx σ H) ∨ ((Ite K a).go i H ∧ ∃ N : L2.St → Hp → Prop, (∀ σ' H', N σ' H' → ∃ m', m' < m ∧ W (i + 1) m' σ' H') ∧ ∀ x H', (Ite K a).yld i H x H' → g x σ H' fun σ2 H2 => tb { D with nx := N, ct := N, bk := D.nx } σ2 H2) := by
  refine ⟨fun i m σ H => m = xs.length - i ∧ i ≤ xs.length ∧ Pv i σ H, ⟨xs.length, by simp, Nat.zero_le _, h0⟩, ?_⟩
  rintro i m σ H ⟨rfl, hi, p⟩
  have q := hl i σ H hi p
  by_cases hlt : i < xs.length
  · refine .inr ⟨⟨xs, xs[i], q, by simp [hlt]⟩, Pv (i + 1), fun σ' H' p' => ⟨xs.length - (i + 1), by omega, rfl, hlt, p'⟩, fun x H' y => ?_⟩
    obtain ⟨T, z, e1, e2, e3, e4⟩ := y
    subst e1 e3
    exact hs i z σ H T (e4 xs q) p e2
  · have e : i = xs.length := by omega
    subst e
    exact .inl ⟨⟨xs, q, Nat.le_refl _⟩, hd σ H p⟩

/-! ### from pail to pail, any order, nobody called away -/
/-- n meetings without a pail, then one with some -/
inductive OutN : Nat → Ch → Ch → Prop
  | last {s s' : Ch} {rows : List Rw} (it : ItR s (meetS s) s' rows) (ne : rows ≠ []) (r4 : rows.length ≤ 4) : OutN 0 s s'
  | skip {n : Nat} {s s1 s' : Ch} (it : ItR s (meetS s) s1 []) (h : OutN n s1 s') : OutN (n + 1) s s'
/-- what holds at any meeting ahead of the (i+1)-th moment of pails -/
structure LgI (ns : List Str) (ps : List Int) (L : Int) (W : List Am) (i : Nat) (s : Ch) : Prop where
  ex : ∃ D : Int, Gn ns ps L W D s ∧ 0 < D ∧ D.natAbs < 2 ^ (16 * i + 4 * stkN ps s.spots + 1)
  now : s.now ≤ 54 * (((4 * i + stkN ps s.spots : Nat) : Int) : Rat)
  pl : s.poured.length ≤ 4 * i
section
variable {ns : List Str} {ps : List Int} {L : Int} {W : List Am} {i : Nat} {s s' : Ch}
theorem LgI.one (h : LgI ns ps L W i s) (hs : Hg ns ps L) (h4 : ns.length ≤ 4) (hL : L ≤ 54) {rows : List Rw} (it : ItR s (meetS s) s' rows) :
    s'.poured.length = s.poured.length + rows.length ∧ (rows = [] → LgI ns ps L W i s') ∧ (rows ≠ [] → rows.length ≤ 4 → LgI ns ps L W (i + 1) s') := by
  obtain ⟨D, gn, hD, hb⟩ := h.ex
  obtain ⟨k, k1, k12, mf, m0, _⟩ := gn.meet_fr hs hD
  have mL : meetS s ≤ 54 := by
    have hn : 0 < ps.length := by rw [hs.lp]; exact hs.n1
    obtain ⟨_, _, _, _, _, k5⟩ := meetF_ok (gn.wk hs) (by omega) hn (Nat.le_refl _)
    rw [gn.meet]
    exact Rat.le_trans k5 (Rat.intCast_le_intCast (b := 54) |>.mpr hL)
  obtain ⟨g', pl, st, nw⟩ := (gn.scale hD k1).step hs (Int.mul_pos hD (by omega)) mf (Rat.le_of_lt m0) Rat.le_refl it
  have s3 : ∀ xs, stkN ps xs ≤ 3 := fun xs => by have := stk_le ps xs; have := hs.lp; omega
  have hDk : 0 < D * k := Int.mul_pos hD (by omega)
  have hn := h.now
  have hp := h.pl
  have up : ∀ e, 16 * i + 4 * stkN ps s.spots + 1 + 4 ≤ e → (D * k).natAbs < 2 ^ e := fun e he => pw4_le (pw4_mul hb k1 k12) he
  have cst : ∀ a b : Nat, a + 1 ≤ b → (54 * ((a : Int) : Rat) + 54 : Rat) ≤ 54 * ((b : Int) : Rat) := fun a b hab => by
    have : ((a : Int) : Rat) + 1 ≤ ((b : Int) : Rat) := by
      have : ((a : Int) + 1) ≤ (b : Int) := by omega
      have := Rat.intCast_le_intCast.mpr this
      rw [Rat.intCast_add] at this
      exact this
    grind
  refine ⟨pl, fun z => ?_, fun z r4 => ?_⟩
  · subst z
    have lt : stkN ps s.spots < stkN ps s'.spots := (st rfl).resolve_left (by show ¬ 1 ≤ 0; decide)
    refine ⟨⟨D * k, g', hDk, up _ (by omega)⟩, ?_, by rw [pl]; exact hp⟩
    have := cst (4 * i + stkN ps s.spots) (4 * i + stkN ps s'.spots) (by omega)
    rw [nw]
    grind
  · refine ⟨⟨D * k, g', hDk, up _ (by have := s3 s.spots; omega)⟩, ?_, by rw [pl]; omega⟩
    have := cst (4 * i + stkN ps s.spots) (4 * (i + 1) + stkN ps s'.spots) (by have := s3 s.spots; omega)
    rw [nw]
    grind
theorem LgI.on (h : LgI ns ps L W i s) (hs : Hg ns ps L) (h4 : ns.length ≤ 4) (hL : L ≤ 54) {n : Nat} (o : OutN n s s') : LgI ns ps L W (i + 1) s' ∧ s.poured.length < s'.poured.length := by
  induction o with
  | last it ne r4 =>
    obtain ⟨a, _, c⟩ := h.one hs h4 hL it
    refine ⟨c ne r4, ?_⟩
    have := List.length_pos_iff.mpr ne
    omega
  | skip it o ih =>
    obtain ⟨a, b, _⟩ := h.one hs h4 hL it
    obtain ⟨c, d⟩ := ih (b rfl)
    refine ⟨c, ?_⟩
    rw [a] at d
    exact d
theorem cntF_row {s : Ch} (h : s.spots.length = s.row.length) : cntF s ≤ s.row.length := by
  have a := List.countP_le_length (p := fun x => decide (x = (s.fire : Rat))) (l := s.spots)
  unfold cntF
  omega
theorem itr_ex4 {s : Ch} (sd : Side s) (hf : 1 ≤ s.fire) (hp : (My.pcs s).length = s.row.length) (h4 : s.row.length ≤ 4) (t : Rat) : ∃ s' rows, ItR s t s' rows ∧ rows.length ≤ 4 := by
  have sd1 : Side (walkS s t) := ⟨sd.ll, by show (walkM (My.pcs s) s.spots t).length = s.row.length; rw [walkM_len, hp], sd.n8, sd.ld⟩
  obtain ⟨s', rows, t', hl, he⟩ := tn_ex _ (Tn.refl (s := walkS s t)) sd1 hf rfl
  have a : cntF (walkS s t) ≤ s.row.length := cntF_row (s := walkS s t) sd1.ls
  rw [List.length_nil] at hl
  exact ⟨s', rows, ⟨t', by omega, he⟩, by omega⟩
theorem out_ex (hs : Hg ns ps L) (h4 : ns.length ≤ 4) (hL : L ≤ 54) : ∀ (m : Nat) {s : Ch}, LgI ns ps L W i s → 4 - stkN ps s.spots ≤ m → ∃ n s', OutN n s s'
  | 0, s, h, hm => by
    have := stk_le ps s.spots
    have := hs.lp
    omega
  | m + 1, s, h, hm => by
    obtain ⟨D, gn, hD, hb⟩ := h.ex
    obtain ⟨s', rows, it, r4⟩ := itr_ex4 gn.sd (by rw [gn.fire]; exact hs.l1) (by rw [gn.pc, gn.row]; exact hs.lp) (by rw [gn.row]; exact h4) (meetS s)
    by_cases z : rows = []
    · subst z
      have h' := (h.one hs h4 hL it).2.1 rfl
      obtain ⟨k, k1, k12, mf, m0, _⟩ := gn.meet_fr hs hD
      have lt := ((gn.scale hD k1).step hs (Int.mul_pos hD (by omega)) mf (Rat.le_of_lt m0) Rat.le_refl it).2.2.1 rfl
      have lt : stkN ps s.spots < stkN ps s'.spots := lt.resolve_left (by show ¬ 1 ≤ 0; decide)
      obtain ⟨n, s2, o⟩ := out_ex hs h4 hL m h' (by omega)
      exact ⟨n + 1, s2, .skip it o⟩
    · exact ⟨0, s', .last it z r4⟩
/-- all moments of pails, one behind the other -/
theorem logs_ex (hs : Hg ns ps L) (h4 : ns.length ≤ 4) (hL : L ≤ 54) (h0 : LgI ns ps L W 0 s) : ∃ f : Nat → Ch, f 0 = s ∧ (∀ i, LgI ns ps L W i (f i)) ∧ ∀ i, ∃ n, OutN n (f i) (f (i + 1)) := by
  have nx : ∀ (i : Nat) (s : Ch), LgI ns ps L W i s → ∃ s', LgI ns ps L W (i + 1) s' ∧ ∃ n, OutN n s s' := fun i s h => by
    obtain ⟨n, s', o⟩ := out_ex hs h4 hL 4 h (by omega)
    exact ⟨s', (h.on hs h4 hL o).1, n, o⟩
  let g : (i : Nat) → { s : Ch // LgI ns ps L W i s } := fun i => Nat.rec (motive := fun i => { s : Ch // LgI ns ps L W i s }) ⟨s, h0⟩ (fun i x => ⟨Classical.choose (nx i x.1 x.2), (Classical.choose_spec (nx i x.1 x.2)).1⟩) i
  refine ⟨fun i => (g i).1, rfl, fun i => (g i).2, fun i => ?_⟩
  exact (Classical.choose_spec (nx i (g i).1 (g i).2)).2
end
theorem lgi_bg {L : Int} {zs : List Int} (w1 : ordW L zs = none) : LgI (nmO zs.length) zs L (wayF L) 0 (bgO L zs) ∧ Hg (nmO zs.length) zs L ∧ (nmO zs.length).length ≤ 4 ∧ L ≤ 54 := by
  obtain ⟨o1, o2, o3, o4, o5, o6, o7⟩ := ord_facts w1
  have en := en_bg w1
  have hg : Hg (nmO zs.length) zs L := ⟨by rw [nmO_len]; exact o3, by rw [nmO_len]; omega, nmO_nd, by rw [nmO_len], o5, o1, by omega⟩
  have gn := en.ri.gn (by decide) (by rw [nmO_len]) o5
  refine ⟨⟨⟨1, gn, by decide, ?_⟩, ?_, by rw [en.pl]; exact Nat.zero_le _⟩, hg, by rw [nmO_len]; exact o4, by omega⟩
  · exact Nat.lt_of_lt_of_le (show (1 : Int).natAbs < 2 ^ 1 by decide) (Nat.pow_le_pow_right (by decide) (by omega))
  · rw [en.now]
    have : (0 : Rat) ≤ (((4 * 0 + stkN zs (bgO L zs).spots : Nat) : Int) : Rat) := Rat.intCast_nonneg.mpr (by omega)
    grind
section
variable {ns : List Str} {ps : List Int} {L : Int} {W : List Am} {i : Nat} {s s' : Ch}
theorem LgI.fit (h : LgI ns ps L W i s) (hs : Hg ns ps L) (h4 : ns.length ≤ 4) (hi : i ≤ 40) : ∃ D : Int, Gn ns ps L W D s ∧ 0 < D ∧ D.natAbs < 2 ^ 3890 ∧ s.now ≤ 70000 ∧ s.poured.length ≤ 300 := by
  obtain ⟨D, gn, hD, hb⟩ := h.ex
  have s3 : stkN ps s.spots ≤ 3 := by have := stk_le ps s.spots; have := hs.lp; omega
  refine ⟨D, gn, hD, pw4_le hb (by omega), ?_, by have := h.pl; omega⟩
  have hn := h.now
  have : (((4 * i + stkN ps s.spots : Nat) : Int) : Rat) ≤ 1000 := Rat.intCast_le_intCast (b := 1000) |>.mpr (by omega)
  grind
theorem out_lg {K : PySem.W.Frag} {T : Tb} {CC : Addr} {H : Hp} {c : Addr} {A : Ad} {Q : VK} {n : Nat} (g : LgI ns ps L W i s) (hs : Hg ns ps L) (h4 : ns.length ≤ 4) (hL : L ≤ 54) (hi : i ≤ 30) (o : OutN n s s')
    (kT : ∀ H' A' p us, Sx T (ownC c A) H H' → ChAt K CC H' c A' s' → (∀ x ∈ ownC c A', x ∈ ownC c A ∨ H x = none) → p ∉ ownC c A' → H p = none → H' p = some (.lst us) → Q (.ref p) H') : OutP K T CC H c A s 1 Q := by
  unfold OutP
  refine ⟨fun t rows m => (∃ nn, m = nn + 1 ∧ rows = [] ∧ LgI ns ps L W i t ∧ t.poured.length = s.poured.length ∧ OutN nn t s') ∨ (m = 0 ∧ t = s' ∧ LgI ns ps L W (i + 1) t ∧ s.poured.length < t.poured.length ∧ rows.length ≤ 8), n + 1, .inl ⟨n, rfl, rfl, g, rfl, o⟩, ?_, ?_, ?_, ?_⟩
  · rintro t rows m (⟨nn, _, rfl, gt, _, _⟩ | ⟨_, rfl, gt, _, r8⟩)
    · obtain ⟨_, _, _, _, _, p3⟩ := gt.fit hs h4 (by omega)
      exact ⟨Nat.zero_le _, by omega⟩
    · obtain ⟨_, _, _, _, _, p3⟩ := gt.fit hs h4 (by omega)
      exact ⟨by omega, by omega⟩
  · rintro t rows m (⟨nn, _, rfl, gt, _, _⟩ | ⟨_, rfl, gt, hlt, r8⟩) _ hc
    · obtain ⟨D, gn, hD, hb, hn, p3⟩ := gt.fit hs h4 (by omega)
      exact ⟨D, gn.rdy hs ⟨hD, hb⟩ hn p3 ⟨Fr.zero (by omega), Rat.le_refl, by decide⟩⟩
    · omega
  · rintro t rows m (⟨nn, rfl, rfl, gt, ept, ot⟩ | ⟨_, rfl, gt, hlt, r8⟩) _ hc t2 rows' it
    · obtain ⟨a, b, d⟩ := gt.one hs h4 hL it
      cases ot with
      | last it2 ne r4 =>
        obtain rfl := itr_det it it2
        obtain ⟨a2, _, d2⟩ := gt.one hs h4 hL it2
        have := List.length_pos_iff.mpr ne
        exact ⟨0, by omega, .inr ⟨rfl, rfl, d2 ne r4, by omega, by show ([] ++ rows').length ≤ 8; exact it.2.1⟩⟩
      | skip it2 o2 =>
        obtain rfl := itr_det it it2
        obtain ⟨a2, b2, _⟩ := gt.one hs h4 hL it2
        have hz : rows' = [] := List.length_eq_zero_iff.mp (by have : ([] : List Rw).length = 0 := rfl; omega)
        subst hz
        exact ⟨_, by omega, .inl ⟨_, rfl, rfl, b2 rfl, by rw [a2]; exact ept, o2⟩⟩
    · omega
  · rintro t rows m (⟨nn, rfl, rfl, gt, ept, ot⟩ | ⟨_, rfl, gt, hlt, r8⟩) hz H' A' p us x h' fr np hp ep du
    · rcases hz with hz | hz
      · obtain ⟨D, gn, _⟩ := gt.fit hs h4 (by omega)
        exact absurd hz (gn.ne hs)
      · omega
    · exact kT H' A' p us x h' fr np hp ep
end

theorem sqT_lst {K : PySem.W.Frag} {H : Hp} {a D : Addr} {xs us vs : List V} (e : H D = some (.lst us)) (h : SqT K H a xs) : SqT K (upd H D (.lst vs)) a xs := by
  rcases h with (h | ⟨o, h⟩) | h
  · refine .inl (.inl ?_)
    rw [upd_ne fun z => by rw [z, e] at h; cases h]
    exact h
  · refine .inl (.inr ⟨o, ?_⟩)
    rw [upd_ne fun z => by rw [z, e] at h; cases h]
    exact h
  · exact .inr h
theorem dpa_lst {K : PySem.W.Frag} {H : Hp} {D : Addr} {ws vs : List V} (e : H D = some (.lst ws)) : ∀ {ps : List (Int × Int)} {us : List V}, DpAll K H us (ps.map amD) → DpAll K (upd H D (.lst vs)) us (ps.map amD)
  | [], _, .nil => .nil
  | p :: r, _, .cons h t => by
    obtain ⟨q, rfl, sq⟩ := pd_at h
    exact .cons (amD_dp (sqT_lst e sq)) (dpa_lst e t)


/-! ### rows of a log, looked at -/
def rowW (x : Am × List Am) : PyData := .tuple [amD x.1, .list (x.2.map amD)]
theorem eqvs_am : ∀ q q' : List Am, PyData.eqvAll (q.map amD) (q'.map amD) = decide (q = q')
  | [], [] => by simp [PyData.eqvAll]
  | [], _ :: _ => by simp [PyData.eqvAll]
  | _ :: _, [] => by simp [PyData.eqvAll]
  | x :: q, y :: q' => by
    have e : PyData.eqv (amD x) (amD y) = decide (x = y) := eqv_am x y
    rw [List.map_cons, List.map_cons]
    simp only [PyData.eqvAll]
    rw [e, eqvs_am q q', ← Bool.decide_and]
    exact decide_eq_decide.mpr (by rw [List.cons.injEq])
theorem eqv_row (x y : Am × List Am) : PyData.eqv (rowW x) (rowW y) = decide (x = y) := by
  have e : PyData.eqv (amD x.1) (amD y.1) = decide (x.1 = y.1) := eqv_am x.1 y.1
  have e2 : PyData.eqv (.list (x.2.map amD)) (.list (y.2.map amD)) = decide (x.2 = y.2) := by simp only [PyData.eqv]; exact eqvs_am _ _
  unfold rowW
  rw [show PyData.eqv (.tuple [amD x.1, .list (x.2.map amD)]) (.tuple [amD y.1, .list (y.2.map amD)]) = PyData.eqvAll [amD x.1, .list (x.2.map amD)] [amD y.1, .list (y.2.map amD)] by simp only [PyData.eqv]]
  simp only [PyData.eqvAll]
  rw [e, e2, Bool.and_true, ← Bool.decide_and]
  exact decide_eq_decide.mpr ⟨fun h => Prod.ext h.1 h.2, fun h => by rw [h]; exact ⟨rfl, rfl⟩⟩
theorem shp_row (x : Am × List Am) : SeqAt.shaped (rowW x) = true := by
  refine Sh.ok (n := 3) (Sh.tup fun d hd => ?_) (by decide)
  simp only [List.mem_cons, List.not_mem_nil, or_false] at hd
  rcases hd with rfl | rfl
  · exact Sh.am _
  · exact Sh.lst (Sh.map fun y _ => Sh.am y)
/-- a row in the heap -/
def RowAt (K : PySem.W.Frag) (H : Hp) (r : Addr) (x : Am × List Am) : Prop := ∃ ha la us, SqT K H r [.ref ha, .ref la] ∧ SqT K H ha (tv x.1) ∧ H la = some (.lst us) ∧ DpAll K H us (x.2.map amD)
section
variable {K : PySem.W.Frag} {T : Tb} {H H' : Hp} {r : Addr} {x : Am × List Am}
theorem RowAt.sm (h : RowAt K H r x) (s : Sm T H H') : RowAt K H' r x := by
  obtain ⟨ha, la, us, h1, h2, h3, h4⟩ := h
  exact ⟨ha, la, us, same_tup s h1, same_tup s h2, s.k h3, dpa_same s _ _ h4⟩
theorem RowAt.dp (h : RowAt K H r x) : Dp K H (.ref r) (rowW x) := by
  obtain ⟨ha, la, us, h1, h2, h3, h4⟩ := h
  exact .tup h1 (.cons (amD_dp h2) (.cons (.lst (SqL.of h3) h4) .nil))
end
def rowOf (s : Ch) : Am × List Am := (am s.now, s.spots.map am)
def sp_p_is_told (K : PySem.W.Frag) (T : Tb) : Sp := fun vs H Q _ => ∃ (r k : Addr) (x y : Am × List Am), vs = [.ref r, .ref k] ∧ RowAt K H r x ∧ RowAt K H k y ∧ x.2.length ≤ 1000 ∧ Ok T H ∧ ∀ H', Sm T H H' → Q (.bl (decide (x = y))) H'
theorem ok_p_is_told {f : Addr} {fd : FuncData} {c PT : Addr} (F : FunC K "is_told" "is_told" s_p_is_told f fd c) (hnT : (T.map (·.1)).Nodup) (hPT : (PT, (none : Option Str)) ∈ T) (TB : GxR.TabB base mg c PT) (B : Bn mg) {fN : Addr} (N : NumAt K fN) (kN : PySem.W.keepIn K (.ref fN) = true) (gN : mg "is_number" = some (.ref fN)) : FnOk P w K mg base CX0 1 f fd ["row", "known"] (sp_p_is_told K T) := by
  refine F.ok sc_p_is_told (fun vs H Q E h => ?_) (fun A outer s H vs Q E hr h => ?_)
  · obtain ⟨r, k, x, y, rfl, _⟩ := h
    rfl
  · obtain ⟨r, k, x, y, rfl, hx, hy, hl, hok, q⟩ := h
    refine ⟨_, (pss_cons (ps_if (pt_cmpR (op_neD hr.units) (pv 0) (pv 1) (nomark _)) (pss_one (ps_ret pe_bl)) pss_nil)
      (pss_one (ps_ret (pe_all2 hnT hPT hr (by rfl) B.all_ (by decide +kernel) TB rfl (gens_by (by decide +kernel)) rfl (pe_op op_cat (pe_lst (pa_cons (pe_ix ix_tup (pv 0) pe_int (fun _ _ => rfl)) pa_nil)) (pe_ix ix_tup (pv 0) pe_int (fun _ _ => rfl))) (elt_isn hr N kN gN rfl B.isinstance_ B.int_ B.bool_ rfl rfl rfl) (fun _ => rfl))))), ?_⟩
    refine ⟨_, rfl, _, rfl, rowW x, rowW y, hx.dp, hy.dp, shp_row x, shp_row y, _, rfl, ?_⟩
    rw [eqv_row]
    by_cases e : x = y
    · rw [decide_eq_true e] at q ⊢
      obtain ⟨ha, la, us, h1, h2, h3, h4⟩ := hx
      have lus : us.length = x.2.length := by rw [dpa_len h4, List.length_map]
      refine iteF ⟨_, rfl, r, _, _, .ref ha, rfl, rfl, h1, at_of (j := 0) rfl rfl, by show 1 ≤ sizeLine; decide, fun p1 n1 => ?_⟩
      have u1 := same_upd (T := T) (o := HO.lst [V.ref ha]) n1
      refine ⟨_, rfl, r, _, _, .ref la, rfl, rfl, same_tup u1 h1, at_of (j := 1) rfl rfl, ?_⟩
      refine ⟨p1, la, [.ref ha], us, rfl, rfl, upd_same, u1.k h3, sz (by show 1 + us.length ≤ _; omega), fun p2 n2 => ?_⟩
      have u2 := same_upd (T := T) (o := HO.lst ([V.ref ha] ++ us)) n2
      have sA := u1.trans u2
      have ok2 := sA.ok hok
      refine ⟨p2, x.1 :: x.2, rfl, ⟨_, SqL.of upd_same, by show us.length + 1 = _; rw [lus]; rfl, fun i p hp => ?_⟩, ok2 _ hPT, ok2, fun H' s' => q H' (sA.trans s')⟩
      cases i with
      | zero =>
        cases hp
        exact ⟨ha, rfl, same_tup sA h2⟩
      | succ i =>
        have hp : x.2[i]? = some p := hp
        obtain ⟨u, gu, du⟩ := dpa_get h4 (i := i) (d := amD p) (by rw [List.getElem?_map, hp]; rfl)
        obtain ⟨q9, rfl, sq⟩ := pd_at du
        exact ⟨q9, gu, same_tup sA sq⟩
    · rw [decide_eq_false e] at q ⊢
      exact iteT (q H Sm.refl)
def sp_p_row_now (K : PySem.W.Frag) (T : Tb) (CC : Addr) : Sp := fun vs H Q _ => ∃ (c : Addr) (A : Ad) (s : Ch), vs = [.ref c] ∧ ChAt K CC H c A s ∧ s.row.Nodup ∧ s.spots.length = s.row.length ∧ s.row.length ≤ 8 ∧ ∀ r H', Sm T H H' → RowAt K H' r (rowOf s) → Q (.ref r) H'
theorem ok_p_row_now {f : Addr} {fd : FuncData} (F : Fun K "row_now" "row_now" s_p_row_now f fd) {CP : Addr} {CC : Addr} (TC : Kl K CC) (M_hands : Mt P w K mg base CC 1 "hands" ["self"] (sp_p_Chain_hands K T CC)) (M_place : Mx P w K mg base CC 5 "place" ["self", "name"] (sp_p_Chain_place K T CP CC)) (M_hour : Mt P w K mg base CC 1 "hour" ["self"] (sp_p_Chain_hour K T CC)) : FnOk P w K mg base CX0 6 f fd ["chain"] (sp_p_row_now K T CC) := by
  refine F.ok sc_p_row_now (fun vs H Q E h => ?_) (fun cdv A outer s H vs Q E hr h => ?_)
  · obtain ⟨c, A, s, rfl, _⟩ := h
    rfl
  · obtain ⟨c, A, s, rfl, h, nd, hl, h8, q⟩ := h
    refine ⟨_, (pss_one (ps_ret (pe_tup (pa_cons (pe_mt0 M_hour TC.cl (hr.mono (by decide)) (pv 0) ) (pa_cons (pe_lc (own := [("name", 1)]) (g := (gName 1)) (tt := tYes) (by rfl) sc_p_row_now.nd (pi_list (pe_mt0 M_hands TC.cl (hr.mono (by decide)) (pv 0) )) (blkOk_by (own := [("name", 1)]) (N := ["chain", "name"]) (sc := (defScope s_p_row_now)) (by decide +kernel)) (fun _ _ _ _ _ => (pg_name (i := 1) sc_p_row_now.nd rfl (.inl rfl))) (fun _ _ _ _ _ => pts_nil) (fun _ _ _ _ _ => (pe_mx_ M_place TC.cl (hr.mono (by decide)) (pv 0) (pa_cons (pv 1) pa_nil)))) pa_nil))))), ?_⟩
    refine ⟨_, rfl, c, _, _, rfl, h.ins, fl_no (by decide +kernel), c, A, s, rfl, h, fun ph hh => ?_⟩
    refine ⟨_, rfl, c, _, _, rfl, h.ins, fl_no (by decide +kernel), c, A, s, rfl, h, fun pn H1 s1 n1 e1 => ⟨pn, rfl, ⟨_, SqL.of e1⟩, fun D hD => lc_list (K := K) (a := pn) (xs := s.row.map V.str) (Qd := _) (fun i H' => Sm T H1 H' ∧ ∃ us, H' D = some (.lst us) ∧ DpAll K H' us (((s.spots.take i).map am).map amD)) ⟨same_upd hD, [], upd_same, .nil⟩ (fun i H' _ z => SqL.of (z.1.k e1)) ?_ ?_⟩⟩
    · rintro i v H2 hi ⟨s2, us, eD, du⟩
      rw [List.getElem?_map] at hi
      obtain ⟨n, hn, rfl⟩ : ∃ n, s.row[i]? = some n ∧ V.str n = v := Option.map_eq_some_iff.mp hi
      have hil := (List.getElem?_eq_some_iff.mp hn).1
      have en : s.row[i] = n := (List.getElem?_eq_some_iff.mp hn).2
      have hx : s.row.idxOf n = i := by rw [← en]; exact nd.idxOf_getElem i hil
      have h2 := h.sm (s1.trans s2)
      have lus : us.length = i := by rw [dpa_len du, List.length_map, List.length_map, List.length_take]; omega
      refine ⟨rfl, tyes_i ?_⟩
      refine ⟨_, rfl, c, _, _, rfl, h2.ins, fl_no (by decide +kernel), _, rfl, c, A, s, n, rfl, h2, hl, fun _ q9 hq => ?_, fun z => absurd (List.mem_of_getElem? hn) z⟩
      rw [hx] at hq
      refine ⟨us, eD, szl (by omega), same_mut s2 hD eD, us ++ [.ref q9], upd_same, ?_⟩
      have ei : s.spots[i]? = some (s.spots.getD i 0) := by rw [List.getD_eq_getElem?_getD, List.getElem?_eq_getElem (by omega)]; rfl
      rw [List.take_add_one, ei, List.map_append, List.map_append]
      exact dpa_app (dpa_lst eD du) (.cons (amD_dp (sqT_lst eD hq)) .nil)
    · rintro H2 ⟨s2, us, eD, du⟩
      rw [List.length_map, ← hl, List.take_length] at du
      refine ⟨by show 2 ≤ sizeLine; decide, fun t nt => ?_⟩
      have u3 := same_upd (T := T) (o := HO.tup [V.ref ph, V.ref D]) nt
      exact q t _ (s1.trans (s2.trans u3)) ⟨ph, D, us, SqT.of upd_same, same_tup (s1.trans (s2.trans u3)) hh, u3.k eD, dpa_same u3 _ _ du⟩
/-- the rows given, in the heap -/
def RowsAt (K : PySem.W.Frag) (H : Hp) (vs : List V) (xs : List (Am × List Am)) : Prop := vs.length = xs.length ∧ ∀ (i : Nat) (x : Am × List Am), xs[i]? = some x → ∃ b, vs[i]? = some (.ref b) ∧ RowAt K H b x
theorem RowsAt.sm {K : PySem.W.Frag} {T : Tb} {H H' : Hp} {vs : List V} {xs : List (Am × List Am)} (h : RowsAt K H vs xs) (s : Sm T H H') : RowsAt K H' vs xs := ⟨h.1, fun i x e => by obtain ⟨b, e1, e2⟩ := h.2 i x e; exact ⟨b, e1, e2.sm s⟩⟩
/-- is the i-th row given another than the i-th of the log f? -/
def offB (xs : List (Am × List Am)) (f : Nat → Ch) (i : Nat) : Bool := !decide (xs[i]? = some (rowOf (f (i + 1))))
def faultV (xs : List (Am × List Am)) (f : Nat → Ch) : V := match (List.range xs.length).find? (offB xs f) with
  | some i => .int i
  | none => .non
theorem find_first {n i : Nat} {p : Nat → Bool} (hi : i < n) (hp : p i = true) (h : ∀ j, j < i → p j = false) : (List.range n).find? p = some i := by
  rw [List.find?_range_eq_some]
  exact ⟨hp, List.mem_range.mpr hi, fun j hj => by rw [h j hj]; rfl⟩
def sp_p_log_fault (K : PySem.W.Frag) (T : Tb) (CP CC : Addr) : Sp := fun vs H Q E => ∃ (L : Int) (a : Addr) (zs : List Int) (r : Addr) (us : List V) (xs : List (Am × List Am)), vs = [.int L, .ref a, .ref r] ∧ SqL K H a (zs.map V.int) ∧ SqL K H r us ∧ RowsAt K H us xs ∧ xs.length ≤ 21 ∧ (∀ x ∈ xs, x.2.length ≤ 1000) ∧ Ok T H ∧
  (ordW L zs = none → ∃ f : Nat → Ch, f 0 = bgO L zs ∧ (∀ i, LgI (nmO zs.length) zs L (wayF L) i (f i)) ∧ (∀ i, ∃ n, OutN n (f i) (f (i + 1))) ∧ ∀ H', Sm T H H' → Q (faultV xs f) H') ∧ (∀ wd, ordW L zs = some wd → ∀ cls d H', Sm T H H' → Rf K CP wd cls d H' → E cls d H')
theorem ok_p_log_fault {f : Addr} {fd : FuncData} (F : Fun K "log_fault" "log_fault" s_p_log_fault f fd) (B : Bn mg) {CP : Addr} {CC : Addr} (TC : Kl K CC) (M_outs : Mx P w K mg base CC 7 "outs" ["self", "count"] (sp_p_Chain_outs K T CP CC)) (F_p_check_ordered : Fx P w K mg base 6 "check_ordered" ["labour", "paces"] (sp_p_check_ordered K T CP)) (F_p_begun : Fx P w K mg base 8 "begun" ["labour", "paces"] (sp_p_begun K T CP CC)) (F_p_is_told : Fn P w K mg base 1 "is_told" ["row", "known"] (sp_p_is_told K T)) (F_p_row_now : Fn P w K mg base 6 "row_now" ["chain"] (sp_p_row_now K T CC)) : FnOk P w K mg base (L2.CX P w) 9 f fd ["labour", "paces", "rows"] (sp_p_log_fault K T CP CC) := by
  refine F.okX sc_p_log_fault (fun vs H Q E h => ?_) (fun cdv A outer s H vs Q E hr h => ?_)
  · obtain ⟨L, a, zs, r, us, xs, rfl, _⟩ := h
    rfl
  · obtain ⟨L, a, zs, r, us, xs, rfl, ha, hr', hrows, hl, hlx, hok, k1, k2⟩ := h
    refine ⟨_, (pss_cons (ps_expr (pe_fx F_p_check_ordered (hr.mono (by decide)) (takes_of rfl rfl rfl rfl) (pa_cons (pv 0) (pa_cons (pv 1) pa_nil))))
      (pss_cons (ps_set (i := 3) sc_p_log_fault.nd rfl (.inl rfl) (pe_fx F_p_begun (hr.mono (by decide)) (takes_of rfl rfl rfl rfl) (pa_cons (pv 0) (pa_cons (pv 1) pa_nil))))
      (pss_cons (ps_for (passes_of rfl) rfl (pi_enum (by rfl) B.enumerate_ (pa_cons (pv 2) pa_nil)) (pg_tup rfl (pgs_cons (pg_name (i := 4) sc_p_log_fault.nd rfl (.inl rfl)) (pgs_cons (pg_name (i := 5) sc_p_log_fault.nd rfl (.inl rfl)) pgs_nil)))
      (pss_cons (ps_expr (pe_mx M_outs TC.cl (hr.mono (by decide)) (takes_of rfl rfl rfl rfl) (pv 3) (pa_cons pe_int pa_nil)))
      (pss_one (ps_if (pt_not (pt_val (pe_fn F_p_is_told (hr.mono (by decide)) (pa_cons (pv 5) (pa_cons (pe_fn F_p_row_now (hr.mono (by decide)) (pa_cons (pv 3) pa_nil)) pa_nil))))) (pss_one (ps_ret (pv 4))) pss_nil))))
      (pss_one (ps_ret pe_non))))), ?_⟩
    refine ⟨_, rfl, _, rfl, L, a, zs, rfl, ha, fun z => ?_, k2⟩
    obtain ⟨g0, hg, h4, hL⟩ := lgi_bg z
    obtain ⟨f, f0, fi, fo, k1⟩ := k1 z
    refine ⟨_, rfl, _, rfl, L, a, zs, rfl, ha, hok, z, fun c H1 A1 s1 sm1 ch1 own1 es en => ?_⟩
    have lus : us.length = xs.length := hrows.1
    refine ⟨_, rfl, r, us, rfl, sm1.seq hr', for_enum (K := K) (a := r) (xs := us) (fun i σ H3 => Sm T H H3 ∧ ∃ (A : Ad) (x4 x5 : Option V), ChAt K CC H3 c A (f i) ∧ (∀ x ∈ ownC c A, H x = none) ∧ (∀ j, j < i → offB xs f j = false) ∧ σ = [some (.int L), some (.ref a), some (.ref r), some (.ref c), x4, x5]) ⟨sm1, A1, _, _, by rw [f0, ← es]; exact ch1, own1, fun j hj => absurd hj (Nat.not_lt_zero _), rfl⟩ (fun i σ H3 _ z => z.1.seq hr') ?_ ?_⟩
    · rintro i v σ H2 t0 hi ⟨s2, A, x4, x5, ch, own, off, rfl⟩ nt0
      have hil : i < xs.length := by rw [← lus]; exact (List.getElem?_eq_some_iff.mp hi).1
      obtain ⟨b, eb, rb⟩ := hrows.2 i xs[i] (List.getElem?_eq_getElem hil)
      rw [hi] at eb
      cases eb
      have u0 := same_upd (T := T) (o := HO.tup [V.int (i : Nat), V.ref b]) nt0
      refine ⟨t0, _, rfl, SqT.of upd_same, rfl, _, _, rfl, _, _, rfl, rfl, ?_⟩
      dsimp only [gName, List.set]
      have ch2 := ch.sm u0
      have s02 := s2.trans u0
      obtain ⟨n, on⟩ := fo i
      refine ⟨_, rfl, c, _, _, rfl, ch2.ins, fl_no (by decide +kernel), c, A, f i, 1, rfl, ch2, fun z => absurd z (by decide), fun _ z => ?_, fun _ _ => out_lg (fi i) hg h4 hL (by omega) on fun H3 A3 p3 us3 x3 ch3 fr3 _ _ _ => ?_⟩
      · obtain ⟨D, gn, _⟩ := (fi i).ex
        exact absurd z (gn.ne hg)
      · have s3 : Sm T H H3 := Sx.sm ((s02.sx (S := [])).trans x3 fun y hy => .inr (own y hy))
        have own3 : ∀ x ∈ ownC c A3, H x = none := fun x hx => (fr3 x hx).elim (own x) fun z => s02.free _ z
        obtain ⟨D, gn, _⟩ := (fi (i + 1)).ex
        have hls : (f (i + 1)).spots.length = (f (i + 1)).row.length := by rw [gn.ls, gn.row]
        refine ⟨_, rfl, _, rfl, c, A3, f (i + 1), rfl, ch3, by rw [gn.row]; exact hg.nd, hls, by rw [gn.row]; omega, fun k H4 s4 rk => ?_⟩
        refine ⟨b, k, xs[i], rowOf (f (i + 1)), rfl, rb.sm (s3.trans s4), rk, hlx _ (List.getElem_mem hil), (s3.trans s4).ok hok, fun H5 s5 => ?_⟩
        have s35 := s3.trans (s4.trans s5)
        refine ⟨_, rfl, ?_⟩
        by_cases e : xs[i] = rowOf (f (i + 1))
        · rw [decide_eq_true e]
          refine iteF ⟨s35, A3, _, _, ch3.sm (s4.trans s5), own3, fun j hj => ?_, rfl⟩
          rcases Nat.lt_or_ge j i with z | z
          · exact off j z
          · obtain rfl : j = i := by omega
            unfold offB
            rw [List.getElem?_eq_getElem hil, decide_eq_true (congrArg some e)]
            rfl
        · rw [decide_eq_false e]
          have ef : faultV xs f = .int i := by
            have ei : offB xs f i = true := by
              unfold offB
              rw [List.getElem?_eq_getElem hil, decide_eq_false fun z => e (Option.some.inj z)]
              rfl
            unfold faultV
            rw [find_first hil ei off]
          have := k1 H5 s35
          rw [ef] at this
          exact iteT ⟨_, rfl, this⟩
    · rintro σ H2 ⟨s2, A, x4, x5, ch, own, off, rfl⟩
      have e : faultV xs f = .non := by
        unfold faultV
        rw [List.find?_eq_none.mpr fun i hi => by rw [off i (by rw [lus]; exact List.mem_range.mp hi)]; decide]
      have := k1 H2 s2
      rw [e] at this
      exact this

def sp_l_way (K : PySem.W.Frag) (T : Tb) : Sp := fun vs H Q _ => ∃ c : Int, vs = [.int c] ∧ ∀ o H' us qs, Sm T H H' → H o = none → H' o = some (.lst us) → DpAll K H' us (qs.map amD) → wayB qs = true → Q (.ref o) H'
theorem ok_l_way {f : Addr} {fd : FuncData} (F : Fun K "_law_way" "_law_way" s_l_way f fd) (B : Bn mg) (F_l_draws : Fn P w K mg base 1 "_law_draws" ["_law_cell_here", "_law_parts"] (sp_l_draws K T)) : FnOk P w K mg base CX0 2 f fd ["_law_cell_here"] (sp_l_way K T) := by
  refine F.ok sc_l_way (fun vs H Q E h => ?_) (fun cdv A outer s H vs Q E hr h => ?_)
  · obtain ⟨c, rfl, _⟩ := h
    rfl
  · obtain ⟨c, rfl, q⟩ := h
    refine ⟨_, (pss_cons (ps_set (i := 1) sc_l_way.nd rfl (.inr rfl) (pe_fn F_l_draws (hr.mono (by decide)) (pa_cons (pv 0) (pa_cons (pe_op op_cat (pe_lst (pa_cons pe_int (pa_cons pe_int (pa_cons pe_int pa_nil)))) (pe_lc (own := [("_law_k", 4)]) (g := (gName 4)) (tt := tYes) (by rfl) sc_l_way.nd (pi_range1 (by rfl) B.range_ (pa_cons pe_int pa_nil)) (blkOk_by (own := [("_law_k", 4)]) (N := ["_law_cell_here", "_law_drawn", "_law_cap", "_law_many_here", "_law_k"]) (sc := (defScope s_l_way)) (by decide +kernel)) (fun _ _ _ _ _ => (pg_name (i := 4) sc_l_way.nd rfl (.inl rfl))) (fun _ _ _ _ _ => pts_nil) (fun _ _ _ _ _ => pe_int))) pa_nil))))
      (pss_cons (ps_set (i := 2) sc_l_way.nd rfl (.inr rfl) (pe_ix ix_list (pe_lst (pa_cons pe_int (pa_cons pe_int (pa_cons pe_int pa_nil)))) (pe_ix ix_list (pv 1) pe_int (fun _ _ => rfl)) (fun _ _ => rfl)))
      (pss_cons (ps_set (i := 3) sc_l_way.nd rfl (.inl rfl) (pe_ix ix_list (pe_lst (pa_cons (pe_op op_add (pe_ix ix_list (pv 1) pe_int (fun _ _ => rfl)) pe_int) (pa_cons pe_int (pa_cons (pe_op op_add pe_int (pe_op op_mod (pe_ix ix_list (pv 1) pe_int (fun _ _ => rfl)) pe_int)) pa_nil)))) (pe_ix ix_list (pv 1) pe_int (fun _ _ => rfl)) (fun _ _ => rfl)))
      (pss_one (ps_ret (pe_lc (own := [("_law_k", 4)]) (g := (gName 4)) (tt := tYes) (by rfl) sc_l_way.nd (pi_range1 (by rfl) B.range_ (pa_cons (pv 3) pa_nil)) (blkOk_by (own := [("_law_k", 4)]) (N := ["_law_cell_here", "_law_drawn", "_law_cap", "_law_many_here", "_law_k"]) (sc := (defScope s_l_way)) (by decide +kernel)) (fun _ _ _ _ _ => (pg_name (i := 4) sc_l_way.nd rfl (.inl rfl))) (fun _ _ _ _ _ => pts_nil) (fun _ _ _ _ _ => (pe_tup (pa_cons (pe_op op_add pe_int (pe_op op_mod (pe_ix (r := rIxL K) ix_list (pv 1) (pe_op op_add pe_int (pe_op op_mul pe_int (pv 4))) (fun _ _ => rfl)) (pv 2))) (pa_cons (pe_op op_add pe_int (pe_op op_mod (pe_ix (r := rIxL K) ix_list (pv 1) (pe_op op_add pe_int (pe_op op_mul pe_int (pv 4))) (fun _ _ => rfl)) (pv 2))) pa_nil)))))))))), ?_⟩
    refine ⟨_, rfl, by show 3 ≤ sizeLine; decide, fun l1 nl1 => ?_⟩
    refine ⟨_, rfl, by decide, by decide, fun D hD => lc_range (lo := 0) (n := 12) (Qd := _) (fun i H' => Sm T (upd H l1 (.lst [.int 6, .int 3, .int 3])) H' ∧ H' D = some (.lst (List.replicate i (V.int 9)))) ⟨same_upd hD, upd_same⟩ ?_ ?_⟩
    · rintro i H' hi ⟨sm, eD⟩
      refine ⟨rfl, tyes_i ?_⟩
      refine ⟨_, eD, by rw [List.length_replicate]; exact szl (by omega), same_mut sm hD eD, ?_⟩
      rw [upd_same, ← List.replicate_succ']
    · rintro H1 ⟨s1, e1⟩
      refine ⟨l1, D, _, _, rfl, rfl, s1.k upd_same, e1, by show 15 ≤ sizeLine; decide, fun l2 nl2 => ?_⟩
      refine ⟨c, l2, [6, 3, 3, 9, 9, 9, 9, 9, 9, 9, 9, 9, 9, 9, 9], rfl, SqL.of upd_same, by decide, by decide, fun p3 H3 ds s3 np3 e3 hd => ?_⟩
      have s03 : Sm T H H3 := (same_upd nl1).trans (s1.trans ((same_upd nl2).trans s3))
      obtain ⟨d0, g0, h00, h01⟩ := hd.get (i := 0) rfl
      obtain ⟨d1, g1, h10, h11⟩ := hd.get (i := 1) rfl
      obtain ⟨d2, g2, h20, h21⟩ := hd.get (i := 2) rfl
      refine ⟨by show 3 ≤ sizeLine; decide, fun l4 nl4 => ?_⟩
      have e4 := (same_upd (T := T) (o := HO.lst [V.int 9, V.int 3, V.int 5]) nl4).k e3
      have hcap : ∃ cap : Int, 1 ≤ cap ∧ cap ≤ 9 ∧ atI [V.int 9, V.int 3, V.int 5] d1 = some (.int cap) := by
        rcases (by omega : d1 = 0 ∨ d1 = 1 ∨ d1 = 2) with rfl | rfl | rfl
        · exact ⟨9, by omega, by omega, atI_nat (j := 0) rfl⟩
        · exact ⟨3, by omega, by omega, atI_nat (j := 1) rfl⟩
        · exact ⟨5, by omega, by omega, atI_nat (j := 2) rfl⟩
      obtain ⟨cap, c1, c9, hcap⟩ := hcap
      refine ⟨_, rfl, p3, _, 1, .int d1, rfl, rfl, SqL.of e4, at_map (i := 1) rfl g1, l4, _, _, _, rfl, rfl, SqL.of upd_same, hcap, ?_⟩
      refine ⟨_, rfl, p3, _, 0, .int d0, rfl, rfl, SqL.of e4, at_map (i := 0) rfl g0, _, _, rfl, rfl, ?_⟩
      refine ⟨_, rfl, p3, _, 0, .int d0, rfl, rfl, SqL.of e4, at_map (i := 0) rfl g0, _, _, rfl, rfl, (by show (0 : Int) < 3; decide), _, _, rfl, rfl, ?_⟩
      refine ⟨by show 3 ≤ sizeLine; decide, fun l5 nl5 => ?_⟩
      have e5 := (same_upd (T := T) (o := HO.lst [V.int (d0 + 1), V.int 1, V.int (1 + d0 % 3)]) nl5).k e4
      have hm : ∃ m : Nat, 1 ≤ m ∧ m ≤ 6 ∧ atI [V.int (d0 + 1), V.int 1, V.int (1 + d0 % 3)] d2 = some (.int (m : Int)) := by
        rcases (by omega : d2 = 0 ∨ d2 = 1 ∨ d2 = 2) with rfl | rfl | rfl
        · refine ⟨(d0 + 1).toNat, by omega, by omega, ?_⟩
          rw [Int.toNat_of_nonneg (by omega)]
          exact atI_nat (j := 0) rfl
        · exact ⟨1, by omega, by omega, atI_nat (j := 1) rfl⟩
        · refine ⟨(1 + d0 % 3).toNat, by omega, by omega, ?_⟩
          rw [Int.toNat_of_nonneg (by omega)]
          exact atI_nat (j := 2) rfl
      obtain ⟨m, m1, m6, hm⟩ := hm
      refine ⟨_, rfl, p3, _, 2, .int d2, rfl, rfl, SqL.of e5, at_map (i := 2) rfl g2, l5, _, _, _, rfl, rfl, SqL.of upd_same, hm, ?_⟩
      have s05 : Sm T H (upd (upd H3 l4 (.lst [V.int 9, V.int 3, V.int 5])) l5 (.lst [V.int (d0 + 1), V.int 1, V.int (1 + d0 % 3)])) := s03.trans ((same_upd nl4).trans (same_upd nl5))
      refine ⟨_, rfl, m, rfl, by omega, by omega, fun D2 hD2 => lc_range (lo := 0) (n := m) (Qd := _) (fun i H' => Sm T (upd (upd H3 l4 (.lst [V.int 9, V.int 3, V.int 5])) l5 (.lst [V.int (d0 + 1), V.int 1, V.int (1 + d0 % 3)])) H' ∧ ∃ us qs, H' D2 = some (.lst us) ∧ DpAll K H' us (qs.map amD) ∧ qs.length = i ∧ qs.all wOk = true) ⟨same_upd hD2, [], [], upd_same, .nil, rfl, rfl⟩ ?_ ?_⟩
      · rintro i H' hi ⟨sm, us, qs, eD2, hd2, hl, ha⟩
        have e6 : H' p3 = some (.lst (ds.map V.int)) := sm.k e5
        have hx : ∃ x, ds[3 + 2 * i]? = some x ∧ 0 ≤ x ∧ x < 9 := hd.get (q := 9) (by rcases (by omega : i = 0 ∨ i = 1 ∨ i = 2 ∨ i = 3 ∨ i = 4 ∨ i = 5) with rfl | rfl | rfl | rfl | rfl | rfl <;> rfl)
        have hy : ∃ x, ds[4 + 2 * i]? = some x ∧ 0 ≤ x ∧ x < 9 := hd.get (q := 9) (by rcases (by omega : i = 0 ∨ i = 1 ∨ i = 2 ∨ i = 3 ∨ i = 4 ∨ i = 5) with rfl | rfl | rfl | rfl | rfl | rfl <;> rfl)
        obtain ⟨x, gx, x0, x9⟩ := hx
        obtain ⟨y, gy, y0, y9⟩ := hy
        have hx0 := Int.emod_nonneg x (show cap ≠ 0 by omega)
        have hx1 := Int.emod_lt_of_pos x (show 0 < cap by omega)
        have hy0 := Int.emod_nonneg y (show cap ≠ 0 by omega)
        have hy1 := Int.emod_lt_of_pos y (show 0 < cap by omega)
        refine ⟨rfl, tyes_i ?_⟩
        refine ⟨_, rfl, _, rfl, _, _, rfl, rfl, .inl ⟨by decide, by decide⟩, _, _, rfl, rfl, p3, _, _, .int x, rfl, rfl, SqL.of e6, at_map (i := 3 + 2 * i) (by omega) gx, _, rfl, _, _, rfl, rfl, (by omega), _, _, rfl, rfl, ?_⟩
        refine ⟨_, rfl, _, rfl, _, _, rfl, rfl, .inl ⟨by decide, by decide⟩, _, _, rfl, rfl, p3, _, _, .int y, rfl, rfl, SqL.of e6, at_map (i := 4 + 2 * i) (by omega) gy, _, rfl, _, _, rfl, rfl, (by omega), _, _, rfl, rfl, ?_⟩
        refine ⟨by show 2 ≤ sizeLine; decide, fun t nt => ?_⟩
        have st := same_upd (T := T) (o := HO.tup (tv (1 + x % cap, 1 + y % cap))) nt
        have eD3 := st.k eD2
        have lu : us.length = i := by rw [dpa_len hd2, List.length_map, hl]
        refine ⟨us, eD3, szl (by omega), same_mut (sm.trans st) hD2 eD3, us ++ [.ref t], qs ++ [(1 + x % cap, 1 + y % cap)], upd_same, ?_, ?_, ?_⟩
        · refine pds_mut eD3 ?_
          rw [List.map_append]
          exact dpa_app (dpa_same st _ _ hd2) (.cons (tup_dp upd_same) .nil)
        · rw [List.length_append, hl]
          rfl
        · rw [List.all_append, ha, Bool.true_and, List.all_cons, List.all_nil, Bool.and_true]
          unfold wOk
          simp only [Bool.and_eq_true, decide_eq_true_eq]
          omega
      · rintro H6 ⟨s6, us, qs, eD2, hd2, hl, ha⟩
        have free : H D2 = none := s05.free _ hD2
        refine q D2 H6 us qs (s05.trans s6) free eD2 hd2 ?_
        unfold wayB
        rw [ha, hl, Bool.and_true, Bool.and_eq_true]
        exact ⟨decide_eq_true m1, decide_eq_true m6⟩

def sp_l_labour (K : PySem.W.Frag) (T : Tb) : Sp := fun vs H Q _ => ∃ a us qs, vs = [.ref a] ∧ SqL K H a us ∧ DpAll K H us (qs.map amD) ∧ (∀ q ∈ qs, wOk q = true) ∧ Q (.int (labourM qs)) H
theorem ok_l_labour {f : Addr} {fd : FuncData} (F : Fun K "_law_labour" "_law_labour" s_l_labour f fd) (B : Bn mg) : FnOk P w K mg base CX0 1 f fd ["_law_way_here"] (sp_l_labour K T) := by
  refine F.ok sc_l_labour (fun vs H Q E h => ?_) (fun cdv A outer s H vs Q E hr h => ?_)
  · obtain ⟨a, us, qs, rfl, _⟩ := h
    rfl
  · obtain ⟨a, us, qs, rfl, hS, hd, hw, q⟩ := h
    refine ⟨_, (pss_cons (ps_set (i := 1) sc_l_labour.nd rfl (.inl rfl) pe_int)
      (pss_cons (ps_for PassesOwn.never rfl (pi_list (pv 0)) (pg_tup rfl (pgs_cons (pg_name (i := 2) sc_l_labour.nd rfl (.inl rfl)) (pgs_cons (pg_name (i := 3) sc_l_labour.nd rfl (.inl rfl)) pgs_nil)))
      (pss_one (ps_for PassesOwn.never rfl (pi_range1 (by rfl) B.range_ (pa_cons (pv 2) pa_nil)) (pg_name (i := 4) sc_l_labour.nd rfl (.inl rfl))
      (pss_one (ps_set (i := 1) sc_l_labour.nd rfl (.inl rfl) (pe_op op_add (pv 1) (pv 3)))))))
      (pss_one (ps_ret (pv 1))))), ?_⟩
    have el : us.length = qs.length := by rw [dpa_len hd, List.length_map]
    refine ⟨_, rfl, a, rfl, ⟨_, hS⟩, for_list (K := K) (a := a) (xs := us) (fun i σ H3 => H3 = H ∧ ∃ x1 x2 x3, σ = [some (.ref a), some (.int (labourM (qs.take i))), x1, x2, x3]) ⟨rfl, _, _, _, rfl⟩ (fun i σ H3 _ ⟨e, _⟩ => by rw [e]; exact hS) ?_ ?_⟩
    · rintro i v σ H3 hi ⟨rfl, x1, x2, x3, rfl⟩
      have hil : i < qs.length := by rw [← el]; exact (List.getElem?_eq_some_iff.mp hi).1
      obtain ⟨v', e1, e2⟩ := dpa_get hd (i := i) (d := amD qs[i]) (by rw [List.getElem?_map, List.getElem?_eq_getElem hil]; rfl)
      rw [hi] at e1
      cases e1
      obtain ⟨b, rfl, hb⟩ := pd_at e2
      have c := wOk_b (hw qs[i] (List.getElem_mem hil))
      have et : labourM (qs.take (i + 1)) = labourM (qs.take i) + qs[i].1 * qs[i].2 := by
        unfold labourM
        rw [List.take_add_one, List.getElem?_eq_getElem hil, List.map_append, List.sum_append]
        simp
      refine ⟨b, _, rfl, hb, rfl, _, _, rfl, _, _, rfl, rfl, ?_⟩
      refine ⟨_, rfl, qs[i].1.toNat, by rw [Int.toNat_of_nonneg (by omega)], by omega, by omega, for_range (lo := 0) (n := qs[i].1.toNat) (fun j σ H4 => H4 = H3 ∧ ∃ x1, σ = [some (.ref a), some (.int (labourM (qs.take i) + (j : Int) * qs[i].2)), some (.int qs[i].1), some (.int qs[i].2), x1]) ⟨rfl, x3, by simp⟩ ?_ ?_⟩
      · rintro j σ H4 hj ⟨rfl, x1, rfl⟩
        refine ⟨_, rfl, _, rfl, _, _, rfl, rfl, rfl, some (.int (0 + (j : Int))), ?_⟩
        have : labourM (qs.take i) + (j : Int) * qs[i].2 + qs[i].2 = labourM (qs.take i) + ((j + 1 : Nat) : Int) * qs[i].2 := by
          rw [Int.natCast_add, Int.add_mul]
          simp [Int.add_assoc]
        rw [← this]
        rfl
      · rintro σ H4 ⟨rfl, x1, rfl⟩
        refine ⟨rfl, some (.int qs[i].1), some (.int qs[i].2), x1, ?_⟩
        rw [et, Int.toNat_of_nonneg (by omega)]
    · rintro σ H3 ⟨rfl, x1, x2, x3, rfl⟩
      refine ⟨_, rfl, ?_⟩
      rw [el, List.take_length]
      exact q

def mixF (c : Int) : Int := if c < 10 ^ 18 then
    (let one := (c * 48271 + 11) % 2147483647
     let two := (one * one + 40692 * one + c) % 2147483399
     let six := (two * 69621 + one) % 1000000007
     two + 2147483399 * (six + 1000000007 * one)) else c - 10 ^ 18
def drF : Int → List Int → List Int
  | _, [] => []
  | c, q :: qs => c % q :: drF (c / q) qs
def cuF : Int → List Int → Int
  | c, [] => c
  | c, q :: qs => cuF (c / q) qs
theorem drF_snoc : ∀ (c : Int) (qs : List Int) (q : Int), drF c (qs ++ [q]) = drF c qs ++ [cuF c qs % q]
  | _, [], _ => rfl
  | c, a :: qs, q => by
    show c % a :: drF (c / a) (qs ++ [q]) = c % a :: drF (c / a) qs ++ [_]
    rw [drF_snoc]
    rfl
theorem cuF_snoc : ∀ (c : Int) (qs : List Int) (q : Int), cuF c (qs ++ [q]) = cuF c qs / q
  | _, [], _ => rfl
  | c, a :: qs, q => cuF_snoc (c / a) qs q
theorem drF_len : ∀ (c : Int) (qs : List Int), (drF c qs).length = qs.length
  | _, [] => rfl
  | c, _ :: qs => congrArg (· + 1) (drF_len _ qs)
theorem drF_drawn : ∀ (c : Int) (qs : List Int), (∀ q ∈ qs, 0 < q) → Drawn (drF c qs) qs
  | _, [], _ => trivial
  | c, a :: qs, h => ⟨⟨Int.emod_nonneg _ (by have := h a List.mem_cons_self; omega), Int.emod_lt_of_pos _ (h a List.mem_cons_self)⟩, drF_drawn _ qs fun q hq => h q (List.mem_cons_of_mem _ hq)⟩
def sp_l_draws_f (K : PySem.W.Frag) (T : Tb) : Sp := fun vs H Q _ => ∃ (c : Int) (a : Addr) (qs : List Int), vs = [.int c, .ref a] ∧ SqL K H a (qs.map V.int) ∧ qs.length ≤ 1000 ∧ (∀ q ∈ qs, 0 < q ∧ q.natAbs < 2 ^ 100) ∧
  ∀ p H', Sm T H H' → H p = none → H' p = some (.lst ((drF (mixF c) qs).map V.int)) → Q (.ref p) H'
theorem ok_l_draws_f {f : Addr} {fd : FuncData} (F : Fun K "_law_draws" "_law_draws" s_l_draws_f f fd) : FnOk P w K mg base CX0 1 f fd ["_law_cell_here", "_law_parts"] (sp_l_draws_f K T) := by
  refine F.ok sc_l_draws_f (fun vs H Q E h => ?_) (fun cdv A outer s H vs Q E hr h => ?_)
  · obtain ⟨c, a, qs, rfl, _⟩ := h
    rfl
  · obtain ⟨c, a, qs, rfl, hS, hlen, hpos, q⟩ := h
    refine ⟨_, (pss_cons (ps_if (pt_cmpR op_lt (pv 0) (pe_op op_pow pe_int pe_int) (nomark _)) (pss_cons (ps_set (i := 2) sc_l_draws_f.nd rfl (.inl rfl) (pe_op op_mod (pe_op op_add (pe_op op_mul (pv 0) pe_int) pe_int) pe_int))
      (pss_cons (ps_set (i := 3) sc_l_draws_f.nd rfl (.inl rfl) (pe_op op_mod (pe_op op_add (pe_op op_add (pe_op op_mul (pv 2) (pv 2)) (pe_op op_mul pe_int (pv 2))) (pv 0)) pe_int))
      (pss_cons (ps_set (i := 4) sc_l_draws_f.nd rfl (.inl rfl) (pe_op op_mod (pe_op op_add (pe_op op_mul (pv 3) pe_int) (pv 2)) pe_int))
      (pss_one (ps_set (i := 0) sc_l_draws_f.nd rfl (.inl rfl) (pe_op op_add (pv 3) (pe_op op_mul pe_int (pe_op op_add (pv 4) (pe_op op_mul pe_int (pv 2)))))))))) (pss_one (ps_set (i := 0) sc_l_draws_f.nd rfl (.inl rfl) (pe_op op_sub (pv 0) (pe_op op_pow pe_int pe_int)))))
      (pss_cons (ps_set (i := 5) sc_l_draws_f.nd rfl (.inl rfl) (pe_lst pa_nil))
      (pss_cons (ps_for PassesOwn.never rfl (pi_list (pv 1)) (pg_name (i := 6) sc_l_draws_f.nd rfl (.inl rfl))
      (pss_cons (ps_expr (pe_bm PySem.F.plainAttrs_list PySem.F.slot_list_append PySem.F.type_list_append mt_append (pv 5) (pa_cons (pe_op op_mod (pv 0) (pv 6)) pa_nil)))
      (pss_one (ps_set (i := 0) sc_l_draws_f.nd rfl (.inl rfl) (pe_op op_fdivW (pv 0) (pv 6))))))
      (pss_one (ps_ret (pv 5)))))), ?_⟩
    refine seq_if (fun σ' H' => H' = H ∧ ∃ (c1 : Int) (x2 x3 x4 : Option V), σ' = [some (.int c1), some (.ref a), x2, x3, x4, none, none] ∧ mixF c = c1) (fun σ' H' p => ?_) (fun k => ?_)
    · obtain ⟨rfl, c1, x2, x3, x4, rfl, ec⟩ := p
      rw [ec] at q
      refine ⟨Nat.zero_le _, fun o no => ?_⟩
      refine ⟨_, rfl, a, rfl, ⟨_, (same_upd (T := T) no).seq hS⟩, for_list (K := K) (a := a) (xs := qs.map V.int)
        (fun i σ H3 => ∃ (x6 : Option V), σ = [some (.int (cuF c1 (qs.take i))), some (.ref a), x2, x3, x4, some (.ref o), x6] ∧ Sm T H' H3 ∧ H3 o = some (.lst ((drF c1 (qs.take i)).map V.int)))
        ⟨none, rfl, same_upd no, upd_same⟩ (fun i σ H3 _ ⟨_, _, sm, _⟩ => sm.seq hS) ?_ ?_⟩
      · rintro i y σ H3 hi ⟨x6, rfl, sm, eo⟩
        rw [List.getElem?_map] at hi
        obtain ⟨qi, hq, rfl⟩ : ∃ qi, qs[i]? = some qi ∧ V.int qi = y := Option.map_eq_some_iff.mp hi
        have hqm := hpos qi (List.mem_of_getElem? hq)
        have hil : i < qs.length := (List.getElem?_eq_some_iff.mp hq).1
        refine ⟨_, rfl, .inl ⟨rfl, _, SqL.of eo⟩, _, rfl, _, rfl, _, _, rfl, rfl, hqm.1, o, _, _, rfl, rfl, eo, ?_, ?_⟩
        · rw [List.length_map, drF_len, List.length_take]
          exact szl (by omega)
        · refine ⟨_, rfl, _, rfl, _, _, rfl, rfl, wide_div hqm.1 hqm.2 (by decide) (by decide), ?_⟩
          refine ⟨some (.int qi), ?_, same_mut sm no eo, ?_⟩
          · rw [List.take_add_one, hq]
            show _ = [some (V.int (cuF c1 (qs.take i ++ [qi]))), _, _, _, _, _, _]
            rw [cuF_snoc]
            rfl
          · rw [upd_same, List.take_add_one, hq]
            show _ = some (HO.lst ((drF c1 (qs.take i ++ [qi])).map V.int))
            rw [drF_snoc, List.map_append]
            rfl
      · rintro σ H3 ⟨x6, rfl, sm, eo⟩
        rw [List.length_map, List.take_length] at eo
        exact ⟨_, rfl, q o H3 sm no eo⟩
    · have b1 := Int.emod_nonneg (c * 48271 + 11) (show (2147483647 : Int) ≠ 0 by decide)
      have b2 := Int.emod_lt_of_pos (c * 48271 + 11) (show (0 : Int) < 2147483647 by decide)
      refine ⟨_, rfl, _, _, rfl, rfl, ⟨by decide, by decide, by decide⟩, _, _, rfl, rfl, _, rfl, ite2 (fun e => ?_) (fun e => ?_)⟩
      · have ec : c < 10 ^ 18 := of_decide_eq_true e
        refine ⟨_, rfl, _, _, rfl, rfl, .inr ⟨by decide, by decide⟩, _, _, rfl, rfl, _, _, rfl, rfl, (by show (0 : Int) < 2147483647; decide), ?_⟩
        refine ⟨_, rfl, _, rfl, _, _, rfl, rfl, .inl ⟨by omega, by omega⟩, ?_⟩
        refine ⟨_, rfl, _, _, rfl, rfl, .inl ⟨by decide, by decide⟩, _, _, rfl, rfl, _, rfl, _, _, rfl, rfl, _, _, rfl, rfl, (by show (0 : Int) < 2147483399; decide), ?_⟩
        refine ⟨_, rfl, _, _, rfl, rfl, .inr ⟨by decide, by decide⟩, _, rfl, _, _, rfl, rfl, _, _, rfl, rfl, (by show (0 : Int) < 1000000007; decide), ?_⟩
        refine ⟨_, rfl, _, rfl, _, rfl, _, _, rfl, rfl, .inl ⟨by decide, by decide⟩, _, _, rfl, rfl, _, _, rfl, rfl, .inl ⟨by decide, by decide⟩, _, _, rfl, rfl, ?_⟩
        refine k _ _ ⟨rfl, _, _, _, _, rfl, ?_⟩
        unfold mixF
        rw [if_pos ec]
      · have ec : ¬ c < 10 ^ 18 := fun z => e (decide_eq_true z)
        refine ⟨_, rfl, _, _, rfl, rfl, ⟨by decide, by decide, by decide⟩, _, _, rfl, rfl, ?_⟩
        refine k _ _ ⟨rfl, _, _, _, _, rfl, ?_⟩
        unfold mixF
        rw [if_neg ec]
        rfl

def ABC : Str := "abcdefghijklmnopqrstuvwxyz"
def chF (i : Int) : Str := ⟨#[97 + i.toNat]⟩
theorem abc_at {i : Int} (h0 : 0 ≤ i) (h1 : i < 26) : atI ABC.cps.toList i = some (97 + i.toNat) := by
  have h : ∀ n : Fin 26, atI ABC.cps.toList ((n.val : Nat) : Int) = some (97 + n.val) := by decide +kernel
  have := h ⟨i.toNat, by omega⟩
  rw [show (((⟨i.toNat, by omega⟩ : Fin 26).val : Nat) : Int) = i from by show ((i.toNat : Nat) : Int) = i; omega] at this
  exact this
theorem abc_len : ABC.length ≤ sizeLine := by decide +kernel
theorem ch_len (i : Int) : (chF i).length = 1 := rfl
theorem mul_ok {i n : Int} (h0 : 0 ≤ n) (h1 : n < 4) : MulOk (chF i) n := by
  refine ⟨by rw [decide_eq_false (by omega), decide_eq_false (by omega)]; rfl, fun h _ z => ?_, fun h _ => ?_⟩
  · rw [ch_len] at z
    rcases (by omega : n = 1 ∨ n = 2 ∨ n = 3) with rfl | rfl | rfl <;> exact absurd z (by decide)
  · rw [ch_len]
    rcases (by omega : n = 1 ∨ n = 2 ∨ n = 3) with rfl | rfl | rfl <;> decide
theorem mul_cps {i n : Int} (h0 : 0 ≤ n) (h1 : n < 4) : (Txt.mul (chF i) n).cps.toList = List.replicate n.toNat (97 + i.toNat) := by
  rcases (by omega : n = 0 ∨ n = 1 ∨ n = 2 ∨ n = 3) with rfl | rfl | rfl | rfl <;> rfl
def nmF (a b c d : Int) (k : Nat) : Str := Txt.mul (chF c) a ++ (chF ((7 * (k : Int) + d) % 26) ++ chF ((d + (k : Int) / 26) % 26)) ++ Txt.mul (chF c) b
def nameF (k : Nat) (salt : Int) : Str := match drF (mixF salt) [4, 4, 26, 26] with
  | [a, b, c, d] => nmF a b c d k
  | _ => ""
theorem name_dr (salt : Int) : ∃ a b c d, drF (mixF salt) [4, 4, 26, 26] = [a, b, c, d] ∧ (0 ≤ a ∧ a < 4) ∧ (0 ≤ b ∧ b < 4) ∧ (0 ≤ c ∧ c < 26) ∧ (0 ≤ d ∧ d < 26) := by
  have hd := drF_drawn (mixF salt) [4, 4, 26, 26] (by decide)
  generalize drF (mixF salt) [4, 4, 26, 26] = ds at hd
  obtain ⟨d1, r1, rfl, h10, h11, hd⟩ := hd.cons
  obtain ⟨d2, r2, rfl, h20, h21, hd⟩ := hd.cons
  obtain ⟨d3, r3, rfl, h30, h31, hd⟩ := hd.cons
  obtain ⟨d4, r4, rfl, h40, h41, hd⟩ := hd.cons
  obtain rfl := hd.nil
  exact ⟨d1, d2, d3, d4, rfl, ⟨h10, h11⟩, ⟨h20, h21⟩, ⟨h30, h31⟩, ⟨h40, h41⟩⟩
theorem str_app (x y : Str) : (x ++ y).cps.toList = x.cps.toList ++ y.cps.toList := by
  show (x.cps ++ y.cps).toList = _
  exact Array.toList_append
theorem nm_cps {a b c d : Int} {k : Nat} (ha : 0 ≤ a ∧ a < 4) (hb : 0 ≤ b ∧ b < 4) : (nmF a b c d k).cps.toList = List.replicate a.toNat (97 + c.toNat) ++ ([97 + ((7 * (k : Int) + d) % 26).toNat, 97 + ((d + (k : Int) / 26) % 26).toNat] ++ List.replicate b.toNat (97 + c.toNat)) := by
  unfold nmF
  rw [str_app, str_app, str_app, mul_cps ha.1 ha.2, mul_cps hb.1 hb.2, List.append_assoc]
  rfl
theorem str_len (x : Str) : x.length = x.cps.toList.length := rfl
theorem name_ok (k : Nat) (salt : Int) : nameB (nameF k salt) = true ∧ (nameF k salt).length ≤ 8 := by
  obtain ⟨a, b, c, d, e, ha, hb, hc, hd⟩ := name_dr salt
  unfold nameF
  rw [e]
  show nameB (nmF a b c d k) = true ∧ (nmF a b c d k).length ≤ 8
  have hl : (nmF a b c d k).length = a.toNat + (2 + b.toNat) := by
    rw [str_len, nm_cps ha hb, List.length_append, List.length_append, List.length_replicate, List.length_replicate]
    rfl
  have let_ : ∀ n : Fin 26, letB (97 + n.val) = true := by decide +kernel
  have l1 : ∀ z : Int, 0 ≤ z → z < 26 → letB (97 + z.toNat) = true := fun z h0 h1 => let_ ⟨z.toNat, by omega⟩
  refine ⟨?_, by omega⟩
  unfold nameB
  rw [decide_eq_true (by omega), decide_eq_true (by omega), nm_cps ha hb, List.all_append, List.all_append, List.all_replicate, List.all_replicate, l1 c hc.1 hc.2]
  have m1 := l1 _ (Int.emod_nonneg (7 * (k : Int) + d) (show (26 : Int) ≠ 0 by decide)) (Int.emod_lt_of_pos _ (by decide))
  have m2 := l1 _ (Int.emod_nonneg (d + (k : Int) / 26) (show (26 : Int) ≠ 0 by decide)) (Int.emod_lt_of_pos _ (by decide))
  simp [m1, m2]
theorem name_inj {k l : Nat} {salt : Int} (hk : k < 26) (hl : l < 26) (h : nameF k salt = nameF l salt) : k = l := by
  obtain ⟨a, b, c, d, e, ha, hb, hc, hd⟩ := name_dr salt
  unfold nameF at h
  rw [e] at h
  have h : nmF a b c d k = nmF a b c d l := h
  have h2 : (nmF a b c d k).cps.toList = (nmF a b c d l).cps.toList := by rw [h]
  rw [nm_cps ha hb, nm_cps ha hb] at h2
  have h3 := List.append_cancel_left h2
  have h4 : 97 + ((7 * (k : Int) + d) % 26).toNat = 97 + ((7 * (l : Int) + d) % 26).toNat := (List.cons.inj h3).1
  omega
def sp_l_name (K : PySem.W.Frag) (T : Tb) : Sp := fun vs H Q _ => ∃ (k : Nat) (salt : Int), vs = [.int k, .int salt] ∧ k ≤ 1000 ∧ ∀ H', Sm T H H' → Q (.str (nameF k salt)) H'
theorem ok_l_name {f : Addr} {fd : FuncData} (F : Fun K "_law_name" "_law_name" s_l_name f fd) (F_l_draws_f : Fn P w K mg base 1 "_law_draws" ["_law_cell_here", "_law_parts"] (sp_l_draws_f K T)) : FnOk P w K mg base CX0 2 f fd ["_law_k", "_law_salt"] (sp_l_name K T) := by
  refine F.ok sc_l_name (fun vs H Q E h => ?_) (fun cdv A outer s H vs Q E hr h => ?_)
  · obtain ⟨k, salt, rfl, _⟩ := h
    rfl
  · obtain ⟨k, salt, rfl, hk, q⟩ := h
    refine ⟨_, (pss_cons (ps_set (i := 2) sc_l_name.nd rfl (.inl rfl) pe_str)
      (pss_cons (ps_asg (pe_fn F_l_draws_f (hr.mono (by decide)) (pa_cons (pv 1) (pa_cons (pe_lst (pa_cons pe_int (pa_cons pe_int (pa_cons pe_int (pa_cons pe_int pa_nil))))) pa_nil))) (pg_unl rfl (pgs_cons (pg_name (i := 3) sc_l_name.nd rfl (.inl rfl)) (pgs_cons (pg_name (i := 4) sc_l_name.nd rfl (.inl rfl)) (pgs_cons (pg_name (i := 5) sc_l_name.nd rfl (.inl rfl)) (pgs_cons (pg_name (i := 6) sc_l_name.nd rfl (.inl rfl)) pgs_nil))))))
      (pss_cons (ps_set (i := 7) sc_l_name.nd rfl (.inl rfl) (pe_op op_add_str (pe_ix ix_str (pv 2) (pe_op op_mod (pe_op op_add (pe_op op_mul pe_int (pv 0)) (pv 6)) pe_int) (fun _ _ => rfl)) (pe_ix ix_str (pv 2) (pe_op op_mod (pe_op op_add (pv 6) (pe_op op_fdivW (pv 0) pe_int)) pe_int) (fun _ _ => rfl))))
      (pss_one (ps_ret (pe_op op_add_str (pe_op op_add_str (pe_op op_repS (pe_ix ix_str (pv 2) (pv 5) (fun _ _ => rfl)) (pv 3)) (pv 7)) (pe_op op_repS (pe_ix ix_str (pv 2) (pv 5) (fun _ _ => rfl)) (pv 4)))))))), ?_⟩
    obtain ⟨a, b, c, d, ed, ha, hb, hc, hd⟩ := name_dr salt
    refine ⟨_, rfl, by show 4 ≤ sizeLine; decide, fun l1 n1 => ?_⟩
    have u1 := same_upd (T := T) (o := .lst [.int 4, .int 4, .int 26, .int 26]) n1
    refine ⟨salt, l1, [4, 4, 26, 26], rfl, SqL.of upd_same, by decide, by decide, fun p2 H2 s2 np2 e2 => ?_⟩
    rw [ed] at e2
    refine ⟨p2, _, rfl, SqL.of e2, rfl, _, _, rfl, _, _, rfl, _, _, rfl, _, _, rfl, rfl, ?_⟩
    have m1 := Int.emod_nonneg (7 * (k : Int) + d) (show (26 : Int) ≠ 0 by decide)
    have m2 := Int.emod_lt_of_pos (7 * (k : Int) + d) (show (0 : Int) < 26 by decide)
    have m3 := Int.emod_nonneg (d + (k : Int) / 26) (show (26 : Int) ≠ 0 by decide)
    have m4 := Int.emod_lt_of_pos (d + (k : Int) / 26) (show (0 : Int) < 26 by decide)
    have q' : Q (.str (nmF a b c d k)) H2 := by
      have := q H2 (u1.trans s2)
      unfold nameF at this
      rw [ed] at this
      exact this
    have z1 : (Txt.mul (chF c) a).length ≤ 3 := by rw [str_len, mul_cps ha.1 ha.2, List.length_replicate]; omega
    have z2 : (Txt.mul (chF c) b).length ≤ 3 := by rw [str_len, mul_cps hb.1 hb.2, List.length_replicate]; omega
    have z3 : ∀ x y : Str, (x ++ y).length = x.length + y.length := fun x y => by rw [str_len, str_app, List.length_append]; rfl
    refine ⟨_, rfl, _, rfl, _, _, rfl, rfl, .inl ⟨by decide, by decide⟩, _, rfl, _, _, rfl, rfl, _, _, rfl, rfl, (by show (0 : Int) < 26; decide), ABC, _, _, rfl, rfl, abc_len, abc_at m1 m2, ?_⟩
    refine ⟨_, rfl, _, rfl, _, rfl, _, _, rfl, rfl, wide_div (b := 100) (by decide) (by decide) (by decide) (by decide), _, _, rfl, rfl, _, _, rfl, rfl, (by show (0 : Int) < 26; decide), ABC, _, _, rfl, rfl, abc_len, abc_at m3 m4, _, _, rfl, rfl, by show 2 ≤ sizeLine; decide, ?_⟩
    refine ⟨_, rfl, _, rfl, ABC, _, _, rfl, rfl, abc_len, abc_at hc.1 hc.2, _, rfl, chF c, a, rfl, rfl, mul_ok ha.1 ha.2, _, rfl, _, _, rfl, rfl, sz (by rw [z3]; show (Txt.mul (chF c) a).length + 2 ≤ _; omega), ?_⟩
    refine ⟨_, rfl, _, rfl, ABC, _, _, rfl, rfl, abc_len, abc_at hc.1 hc.2, _, rfl, chF c, b, rfl, rfl, mul_ok hb.1 hb.2, _, _, rfl, rfl, sz (by rw [z3, z3]; show (Txt.mul (chF c) a).length + 2 + (Txt.mul (chF c) b).length ≤ _; omega), q'⟩

theorem sm_sx1 {T : Tb} {H H1 H2 : Hp} {c : Addr} (s : Sm T H H1) (x : Sx T [c] H1 H2) (hc : H c = none) : Sm T H H2 :=
  Sx.sm ((s.sx (S := [])).trans x fun y hy => .inr (by rw [List.mem_singleton.mp hy]; exact hc))
theorem sm_own {T : Tb} {H H1 H2 : Hp} {S : List Addr} (s : Sm T H H1) (x : Sx T S H1 H2) (hc : ∀ y ∈ S, H y = none) : Sm T H H2 :=
  Sx.sm ((s.sx (S := [])).trans x fun y hy => .inr (hc y hy))
theorem ne_i {a b : Int} (h : a = b) : (!decide (V.int a = V.int b)) = false := by rw [h, decide_eq_true rfl]; rfl
/-! ### names, from the well to the fire -/
def nmU (salt : Int) (m : Nat) : List Str := (List.range m).map fun k => nameF k salt
theorem nmU_len (salt : Int) (m : Nat) : (nmU salt m).length = m := by unfold nmU; rw [List.length_map, List.length_range]
theorem nmU_get {salt : Int} {m i : Nat} (h : i < m) : (nmU salt m)[i]'(by rw [nmU_len]; exact h) = nameF i salt := by unfold nmU; rw [List.getElem_map, List.getElem_range]
theorem nmU_nd {salt : Int} {m : Nat} (h : m ≤ 26) : (nmU salt m).Nodup := by
  unfold List.Nodup
  rw [List.pairwise_iff_getElem]
  intro i j hi hj hij z
  rw [nmU_len] at hi hj
  rw [nmU_get hi, nmU_get hj] at z
  have := name_inj (by omega) (by omega) z
  omega
theorem nmU_drop {salt : Int} {m i : Nat} (h : i < m) : (nmU salt m).drop i = nameF i salt :: (nmU salt m).drop (i + 1) := by
  rw [List.drop_eq_getElem_cons (by rw [nmU_len]; exact h), nmU_get h]
theorem nmU_new {salt : Int} {m i : Nat} (h : i < m) (hm : m ≤ 26) : nameF i salt ∉ (nmU salt m).drop (i + 1) := by
  have := (nmU_nd (salt := salt) hm).sublist (List.drop_sublist i _)
  rw [nmU_drop h] at this
  exact (List.nodup_cons.mp this).1

/-! ### what a law holds while a chain goes its way -/
structure LS (K : PySem.W.Frag) (T : Tb) (CC : Addr) (H : Hp) (c : Addr) (ls : List (Addr × List V)) (us : List V) (ds : List PyData) (H' : Hp) (A : Ad) (s : Ch) : Prop where
  sm : Sm T H H'
  ch : ChAt K CC H' c A s
  own : ∀ y ∈ ownC c A, H y = none
  keep : ∀ p ∈ ls, H' p.1 = some (.lst p.2)
  out : ∀ p ∈ ls, p.1 ∉ ownC c A
  dp : DpAll K H' us ds
  nl : ds.all (noL 3) = true
theorem noL_amD (qs : List Am) : (qs.map amD).all (noL 3) = true := by
  rw [List.all_map]
  exact List.all_eq_true.mpr fun _ _ => rfl
section
variable {K : PySem.W.Frag} {T : Tb} {CC : Addr} {H : Hp} {c : Addr} {ls : List (Addr × List V)} {us : List V} {ds : List PyData} {H' H2 : Hp} {A A2 : Ad} {s s2 : Ch}
theorem LS.go (h : LS K T CC H c ls us ds H' A s) (e : Sm T H' H2) : LS K T CC H c ls us ds H2 A s :=
  ⟨h.sm.trans e, h.ch.sm e, h.own, fun p hp => e.k (h.keep p hp), h.out, dpa_same e _ _ h.dp, h.nl⟩
theorem LS.on (h : LS K T CC H c ls us ds H' A s) (e : Sx T (ownC c A) H' H2) (h2 : ChAt K CC H2 c A2 s2) (fr : ∀ x ∈ ownC c A2, x ∈ ownC c A ∨ H' x = none) : LS K T CC H c ls us ds H2 A2 s2 :=
  ⟨sm_own h.sm e h.own, h2, fun y hy => (fr y hy).elim (h.own y) fun z => h.sm.free _ z, fun p hp => e.lst (h.keep p hp) (h.out p hp), fun p hp hy => (fr _ hy).elim (h.out p hp) fun z => (by rw [h.keep p hp] at z; cases z), e.dps 3 _ _ h.nl h.dp, h.nl⟩
theorem LS.on1 (h : LS K T CC H c ls us ds H' A s) (e : Sx T [c] H' H2) (h2 : ChAt K CC H2 c A2 s2) (fr : ∀ x ∈ ownC c A2, x = c ∨ H' x = none) : LS K T CC H c ls us ds H2 A2 s2 :=
  h.on (e.mono fun x hx => .inl (by rw [List.mem_singleton.mp hx]; simp [ownC])) h2 fun x hx => (fr x hx).imp (fun z => by rw [z]; simp [ownC]) id
end

/-! ### the log speaks of the paces and the labour alone -/
theorem itr_same {s u s' u' : Ch} {t : Rat} {rows rows' : List Rw} (it : ItR s t s' rows) (iu : ItR u t u' rows') (hne : s.row ≠ []) (hls : s.spots.length = s.row.length) (hps : (My.pcs s).length = s.row.length) (e1 : My.pcs u = My.pcs s) (e2 : u.spots = s.spots) (e3 : u.fire = s.fire) (e4 : u.row.length = s.row.length) :
    s'.spots = u'.spots ∧ rows.length = rows'.length := by
  have hne' : u.row ≠ [] := fun z => by
    rw [z] at e4
    exact hne (List.length_eq_zero_iff.mp e4.symm)
  obtain ⟨a1, _, a3, a4⟩ := itr_rot it hne hls hps
  obtain ⟨b1, _, b3, b4⟩ := itr_rot iu hne' (by rw [e2, e4]; exact hls) (by rw [e1, e4]; exact hps)
  rw [e1, e2] at b1
  rw [e1, e2, e3, e4] at b3 b4
  have el : rows.length = rows'.length := by
    rcases Nat.lt_trichotomy rows.length rows'.length with c | c | c
    · exact absurd (b3 _ c) a4
    · exact c
    · exact absurd (a3 _ c) b4
  exact ⟨by rw [a1, b1, el], el⟩
theorem out_same {ns ns' : List Str} {ps : List Int} {L : Int} {W W' : List Am} (hs : Hg ns ps L) (hs' : Hg ns' ps L) (h4 : ns.length ≤ 4) (h4' : ns'.length ≤ 4) (hL : L ≤ 54) {n : Nat} {s s' : Ch} (o : OutN n s s') : ∀ {m i j : Nat} {u u' : Ch}, OutN m u u' → LgI ns ps L W i s → LgI ns' ps L W' j u → u.spots = s.spots → u.now = s.now → s'.spots = u'.spots ∧ s'.now = u'.now := by
  have base : ∀ {i j : Nat} {s u s1 u1 : Ch} {r r' : List Rw}, LgI ns ps L W i s → LgI ns' ps L W' j u → u.spots = s.spots → u.now = s.now → ItR s (meetS s) s1 r → ItR u (meetS u) u1 r' → s1.spots = u1.spots ∧ r.length = r'.length ∧ s1.now = u1.now := fun {i j s u s1 u1 r r'} g g' e1 e2 it iu => by
    obtain ⟨D, gn, hD, _⟩ := g.ex
    obtain ⟨D', gn', hD', _⟩ := g'.ex
    have em : meetS u = meetS s := by rw [gn.meet, gn'.meet, e1]
    rw [em] at iu
    obtain ⟨a, b⟩ := itr_same it iu (gn.ne hs) (by rw [gn.ls, gn.row]) (by rw [gn.pc, gn.row]; exact hs.lp) (by rw [gn.pc, gn'.pc]) e1 (by rw [gn.fire, gn'.fire]) (by rw [gn.row, gn'.row, ← hs.lp, ← hs'.lp])
    refine ⟨a, b, ?_⟩
    obtain ⟨k, k1, k12, mf, m0, _⟩ := gn.meet_fr hs hD
    have n1 := ((gn.scale hD k1).step hs (Int.mul_pos hD (by omega)) mf (Rat.le_of_lt m0) Rat.le_refl it).2.2.2
    obtain ⟨k', k1', k12', mf', m0', _⟩ := gn'.meet_fr hs' hD'
    rw [← em] at iu
    have n2 := ((gn'.scale hD' k1').step hs' (Int.mul_pos hD' (by omega)) mf' (Rat.le_of_lt m0') Rat.le_refl iu).2.2.2
    rw [n1, n2, em, e2]
  induction o with
  | last it ne r4 =>
    intro m i j u u' ou g g' e1 e2
    cases ou with
    | last iu _ _ =>
      obtain ⟨a, _, c⟩ := base g g' e1 e2 it iu
      exact ⟨a, c⟩
    | skip iu _ =>
      obtain ⟨_, b, _⟩ := base g g' e1 e2 it iu
      exact absurd (List.length_eq_zero_iff.mp b) ne
  | skip it o ih =>
    intro m i j u u' ou g g' e1 e2
    cases ou with
    | last iu ne' _ =>
      obtain ⟨_, b, _⟩ := base g g' e1 e2 it iu
      exact absurd (List.length_eq_zero_iff.mp b.symm) ne'
    | skip iu ou2 =>
      obtain ⟨a, _, c⟩ := base g g' e1 e2 it iu
      exact ih ou2 ((g.one hs h4 hL it).2.1 rfl) ((g'.one hs' h4' hL iu).2.1 rfl) a.symm c.symm
theorem logs_same {ns ns' : List Str} {ps : List Int} {L : Int} {W W' : List Am} (hs : Hg ns ps L) (hs' : Hg ns' ps L) (h4 : ns.length ≤ 4) (h4' : ns'.length ≤ 4) (hL : L ≤ 54) {f g : Nat → Ch} (fi : ∀ i, LgI ns ps L W i (f i)) (fo : ∀ i, ∃ n, OutN n (f i) (f (i + 1))) (gi : ∀ i, LgI ns' ps L W' i (g i)) (go : ∀ i, ∃ n, OutN n (g i) (g (i + 1))) (e1 : (g 0).spots = (f 0).spots) (e2 : (g 0).now = (f 0).now) : ∀ i, (f i).spots = (g i).spots ∧ (f i).now = (g i).now
  | 0 => ⟨e1.symm, e2.symm⟩
  | i + 1 => by
    obtain ⟨a, b⟩ := logs_same hs hs' h4 h4' hL fi fo gi go e1 e2 i
    obtain ⟨n, o⟩ := fo i
    obtain ⟨m, ou⟩ := go i
    exact out_same hs hs' h4 h4' hL o ou (fi i) (gi i) a.symm b.symm

/-! ### the law's own log -/
/-- a row in the heap, its list none of S -/
def RowS (K : PySem.W.Frag) (H : Hp) (S : List Addr) (r : Addr) (x : Am × List Am) : Prop := ∃ ha la us, SqT K H r [.ref ha, .ref la] ∧ SqT K H ha (tv x.1) ∧ H la = some (.lst us) ∧ DpAll K H us (x.2.map amD) ∧ la ∉ S
theorem RowS.sx {K : PySem.W.Frag} {T : Tb} {H H' : Hp} {S : List Addr} {r : Addr} {x : Am × List Am} (h : RowS K H S r x) (s : Sx T S H H') : RowS K H' S r x := by
  obtain ⟨ha, la, us, h1, h2, h3, h4, h5⟩ := h
  exact ⟨ha, la, us, s.tup h1, s.tup h2, s.lst h3 h5, s.dps 3 _ _ (noL_way _) h4, h5⟩
theorem RowS.at {K : PySem.W.Frag} {H : Hp} {S : List Addr} {r : Addr} {x : Am × List Am} (h : RowS K H S r x) : RowAt K H r x := by
  obtain ⟨ha, la, us, h1, h2, h3, h4, _⟩ := h
  exact ⟨ha, la, us, h1, h2, h3, h4⟩
def RowsS (K : PySem.W.Frag) (H : Hp) (S : List Addr) (vs : List V) (xs : List (Am × List Am)) : Prop := vs.length = xs.length ∧ ∀ (i : Nat) (x : Am × List Am), xs[i]? = some x → ∃ b, vs[i]? = some (.ref b) ∧ RowS K H S b x
section
variable {K : PySem.W.Frag} {T : Tb} {H H' : Hp} {S : List Addr} {vs : List V} {xs : List (Am × List Am)}
theorem RowsS.sx (h : RowsS K H S vs xs) (s : Sx T S H H') : RowsS K H' S vs xs := ⟨h.1, fun i x e => by obtain ⟨b, e1, e2⟩ := h.2 i x e; exact ⟨b, e1, e2.sx s⟩⟩
theorem RowsS.at (h : RowsS K H S vs xs) : RowsAt K H vs xs := ⟨h.1, fun i x e => by obtain ⟨b, e1, e2⟩ := h.2 i x e; exact ⟨b, e1, e2.at⟩⟩
theorem RowsS.push (h : RowsS K H S vs xs) {b : Addr} {x : Am × List Am} (hb : RowS K H S b x) : RowsS K H S (vs ++ [.ref b]) (xs ++ [x]) := by
  refine ⟨by rw [List.length_append, List.length_append, h.1]; rfl, fun i y e => ?_⟩
  rcases Nat.lt_or_ge i xs.length with c | c
  · rw [List.getElem?_append_left c] at e
    obtain ⟨b2, e1, e2⟩ := h.2 i y e
    exact ⟨b2, by rw [List.getElem?_append_left (by rw [h.1]; exact c)]; exact e1, e2⟩
  · have hi := (List.getElem?_eq_some_iff.mp e).1
    rw [List.length_append] at hi
    obtain rfl : i = xs.length := by have : i < xs.length + 1 := hi; omega
    rw [List.getElem?_append_right (Nat.le_refl _), Nat.sub_self] at e
    cases e
    exact ⟨b, by rw [← h.1, List.getElem?_append_right (Nat.le_refl _), Nat.sub_self]; rfl, hb⟩
theorem RowsS.mono {S2 : List Addr} (h : RowsS K H S vs xs) (hs : ∀ x ∈ S2, x ∈ S) : RowsS K H S2 vs xs := ⟨h.1, fun i x e => by
  obtain ⟨b, e1, ha, la, us, h1, h2, h3, h4, h5⟩ := h.2 i x e
  exact ⟨b, e1, ha, la, us, h1, h2, h3, h4, fun z => h5 (hs _ z)⟩⟩
theorem RowsS.nil : RowsS K H S [] [] := ⟨rfl, fun i x e => by simp at e⟩
end

theorem or_h40 {L : Int} {zs : List Int} {x : Int × Int} (e : orW L zs x = none) : ordW L zs = none := by
  unfold orW at e
  cases c : ordW L zs with
  | some wd => rw [c] at e; cases e
  | none => rfl
theorem dpa_dropN {K : PySem.W.Frag} {H : Hp} : ∀ {vs : List V} {ds : List PyData} (k : Nat), DpAll K H vs ds → DpAll K H (vs.drop k) (ds.drop k)
  | _, _, 0, h => h
  | _, _, _ + 1, .nil => .nil
  | _, _, k + 1, .cons _ h => dpa_dropN k h
theorem cut_negK (us : List V) (k : Nat) (hk : 1 ≤ k) : cutV us (some (-(k : Int))) none = us.drop (us.length - k) := by
  unfold cutV
  have e : HT.sIx us.length 0 (some (-(k : Int))) = us.length - k := by
    show (if (-(k : Int)) < 0 then ((-(k : Int)) + (us.length : Int)).toNat else min (-(k : Int)).toNat us.length) = _
    rw [if_pos (by omega)]
    omega
  rw [e, HT.sIx_none]
  exact List.take_of_length_le (by rw [List.length_drop]; omega)
/-- the law's way: short stretches of one to nine, and one more -/
def wy (qs : List Am) : List Am := qs.filter (fun q => decide (q.1 * q.2 < 10)) ++ [(1, 5)]
def wz (qs : List Am) : List Am := (wy qs).drop ((wy qs).length - 6)
theorem wz_ok {qs : List Am} (h : wayB qs = true) : wayB (wz qs) = true ∧ 1 ≤ labourM (wz qs) ∧ labourM (wz qs) ≤ 54 := by
  obtain ⟨l1, l2, l3⟩ := wayB_b h
  have hy : ∀ q ∈ wy qs, (1 ≤ q.1 ∧ q.1 ≤ 9 ∧ 1 ≤ q.2 ∧ q.2 ≤ 9) ∧ q.1 * q.2 ≤ 9 := fun q hq => by
    rcases List.mem_append.mp hq with hq | hq
    · obtain ⟨a, b⟩ := List.mem_filter.mp hq
      have := of_decide_eq_true b
      exact ⟨l3 q a, by omega⟩
    · rw [List.mem_singleton.mp hq]
      decide
  have ly : 1 ≤ (wy qs).length := by unfold wy; rw [List.length_append]; show 1 ≤ _ + 1; omega
  have lz : 1 ≤ (wz qs).length ∧ (wz qs).length ≤ 6 := by unfold wz; rw [List.length_drop]; omega
  have hz : ∀ q ∈ wz qs, (1 ≤ q.1 ∧ q.1 ≤ 9 ∧ 1 ≤ q.2 ∧ q.2 ≤ 9) ∧ q.1 * q.2 ≤ 9 := fun q hq => hy q (List.mem_of_mem_drop hq)
  have sb := sum_bd (c := 9) (by decide) ((wz qs).map fun (q : Int × Int) => q.1 * q.2) fun z hz' => by
    obtain ⟨q, hq, rfl⟩ := List.mem_map.mp hz'
    have := hz q hq
    exact ⟨Int.mul_nonneg (by omega) (by omega), this.2⟩
  rw [List.length_map] at sb
  refine ⟨?_, ?_, ?_⟩
  · unfold wayB
    rw [decide_eq_true lz.1, decide_eq_true lz.2, Bool.true_and, Bool.true_and, List.all_eq_true]
    intro q hq
    have := (hz q hq).1
    unfold wOk
    simp only [Bool.and_eq_true, decide_eq_true_eq]
    omega
  · -- the last stretch
    have e : ∃ r, wz qs = r ++ [(1, 5)] := by
      refine ⟨(qs.filter (fun q => decide (q.1 * q.2 < 10))).drop ((wy qs).length - 6), ?_⟩
      unfold wz
      have : (wy qs).length - 6 ≤ (qs.filter (fun q => decide (q.1 * q.2 < 10))).length := by unfold wy; rw [List.length_append]; show _ + 1 - 6 ≤ _; omega
      conv => lhs; arg 2; unfold wy
      rw [List.drop_append_of_le_length this]
    obtain ⟨r, er⟩ := e
    have sr := sum_bd (c := 9) (by decide) (r.map fun (q : Int × Int) => q.1 * q.2) fun z hz' => by
      obtain ⟨q, hq, rfl⟩ := List.mem_map.mp hz'
      have := hz q (by rw [er]; exact List.mem_append_left _ hq)
      exact ⟨Int.mul_nonneg (by omega) (by omega), this.2⟩
    unfold labourM
    rw [er, List.map_append, List.sum_append]
    show 1 ≤ (r.map fun (q : Int × Int) => q.1 * q.2).sum + (1 * 5 + 0)
    omega
  · unfold labourM
    omega
theorem fault_no {xs : List (Am × List Am)} {g : Nat → Ch} (h : ∀ i, i < xs.length → xs[i]? = some (rowOf (g (i + 1)))) : faultV xs g = .non := by
  unfold faultV
  rw [List.find?_eq_none.mpr fun i hi => by unfold offB; rw [decide_eq_true (h i (List.mem_range.mp hi))]; decide]
theorem fault_set {xs : List (Am × List Am)} {g : Nat → Ch} (h : ∀ i, i < xs.length → xs[i]? = some (rowOf (g (i + 1)))) {j : Nat} (hj : j < xs.length) {x : Am × List Am} (hx : x ≠ rowOf (g (j + 1))) : faultV (xs.set j x) g = .int j := by
  unfold faultV
  rw [find_first (i := j) (by rw [List.length_set]; exact hj) (by unfold offB; rw [List.getElem?_set_self hj, decide_eq_false fun z => hx (Option.some.inj z)]; rfl) fun i hi => by
    unfold offB
    rw [List.getElem?_set_ne (by omega), decide_eq_true (h i (by omega))]
    rfl]
theorem set_cut {α : Type} {l : List α} {j : Nat} (hj : j < l.length) (x : α) : l.take j ++ [x] ++ l.drop (j + 1) = l.set j x := by
  rw [List.set_eq_take_append_cons_drop, if_pos hj, List.append_assoc]
  rfl
theorem sum_zero : ∀ {xs : List Rat}, (∀ x ∈ xs, 0 ≤ x) → xs.sum = 0 → ∀ x ∈ xs, x = 0
  | [], _, _, x, hx => (nomatch hx)
  | y :: ys, h, hs, x, hx => by
    rw [List.sum_cons] at hs
    have h1 := h y List.mem_cons_self
    have h2 : 0 ≤ ys.sum := by
      clear hs hx
      induction ys with
      | nil => decide
      | cons z zs ih =>
        rw [List.sum_cons]
        have := ih (fun x hx => h x ((List.mem_cons.mp hx).elim (fun e => by rw [e]; exact List.mem_cons_self) fun e => List.mem_cons_of_mem _ (List.mem_cons_of_mem _ e)))
        have := h z (List.mem_cons_of_mem _ List.mem_cons_self)
        grind
    have ih := sum_zero (xs := ys) (fun x hx => h x (List.mem_cons_of_mem _ hx)) (by grind)
    rcases List.mem_cons.mp hx with e | e
    · rw [e]; grind
    · exact ih x e
theorem En.zero {ns : List Str} {ps : List Int} {L : Int} {W : List Am} {s : Ch} (h : En ns ps L W s) : ∀ x ∈ s.spots, x = 0 := by
  refine sum_zero (fun x hx => (h.ri.sp x hx).1) ?_
  have := h.ri.sum
  rw [h.now, h.pl] at this
  have e : (((0 : Nat) : Int) : Rat) = 0 := rfl
  rw [e] at this
  grind
theorem En.spots0 {ns : List Str} {ps : List Int} {L : Int} {W : List Am} {s : Ch} (h : En ns ps L W s) (hl : ps.length = ns.length) : s.spots = ps.map fun _ => 0 := by
  have ls : s.spots.length = ps.length := by rw [h.ri.sd.ls, h.ri.row, hl]
  refine List.ext_getElem (by rw [ls, List.length_map]) fun i h1 h2 => ?_
  rw [List.getElem_map]
  exact h.zero _ (List.getElem_mem h1)
theorem RowS.on {K : PySem.W.Frag} {T : Tb} {H H' : Hp} {S S' : List Addr} {R r : Addr} {x : Am × List Am} (h : RowS K H (R :: S) r x) (s : Sx T S H H') (fr : ∀ y ∈ S', y ∈ S ∨ H y = none) : RowS K H' (R :: S') r x := by
  obtain ⟨ha, la, us, h1, h2, h3, h4, h5⟩ := h
  refine ⟨ha, la, us, s.tup h1, s.tup h2, s.lst h3 fun z => h5 (List.mem_cons_of_mem _ z), s.dps 3 _ _ (noL_way _) h4, fun z => ?_⟩
  rcases List.mem_cons.mp z with z | z
  · exact h5 (by rw [z]; exact List.mem_cons_self)
  · rcases fr la z with y | y
    · exact h5 (List.mem_cons_of_mem _ y)
    · rw [h3] at y; cases y
theorem RowsS.on {K : PySem.W.Frag} {T : Tb} {H H' : Hp} {S S' : List Addr} {R : Addr} {vs : List V} {xs : List (Am × List Am)} (h : RowsS K H (R :: S) vs xs) (s : Sx T S H H') (fr : ∀ y ∈ S', y ∈ S ∨ H y = none) : RowsS K H' (R :: S') vs xs := ⟨h.1, fun i x e => by obtain ⟨b, e1, e2⟩ := h.2 i x e; exact ⟨b, e1, e2.on s fr⟩⟩
/-- the log's rows are such that they may be bent -/
theorem LgI.row {ns : List Str} {ps : List Int} {L : Int} {W : List Am} {i : Nat} {s : Ch} (h : LgI ns ps L W i s) (hs : Hg ns ps L) (h4 : ns.length ≤ 4) (hL : L ≤ 54) (hi : i ≤ 40) : (rowOf s).2 ≠ [] ∧ (rowOf s).2.length ≤ 4 ∧ (Bd 4000 (rowOf s).1 ∧ 0 < (rowOf s).1.2) ∧ ∀ y ∈ (rowOf s).2, Bd 4000 y ∧ 0 < y.2 := by
  obtain ⟨D, gn, hD, hb, hn, _⟩ := h.fit hs h4 hi
  have ll : (rowOf s).2.length = ns.length := by show (s.spots.map am).length = _; rw [List.length_map, gn.ls]
  have hb9 : D.natAbs < 2 ^ 3900 := Nat.lt_trans hb (Nat.pow_lt_pow_right (by decide) (by decide))
  refine ⟨fun z => by rw [z] at ll; have := hs.n1; simp at ll; omega, by omega, ⟨bdL hD hb9 gn.fn gn.n0 (Rat.le_trans hn (by decide +kernel)), am_pos _⟩, fun y hy => ?_⟩
  obtain ⟨r, hr, rfl⟩ := List.mem_map.mp (show y ∈ s.spots.map am from hy)
  obtain ⟨r0, rL, rf⟩ := gn.sp r hr
  have l54 : (L : Rat) ≤ 54 := Rat.intCast_le_intCast (b := 54) |>.mpr hL
  exact ⟨bdL hD hb9 rf r0 (by grind), am_pos _⟩
theorem bd4 {a b : Int} (ha : a.natAbs < 2 ^ 60) (hb : b.natAbs < 2 ^ 60) : Bd 4000 (a, b) :=
  ⟨Nat.lt_trans ha (Nat.pow_lt_pow_right (by decide) (by decide)), Nat.lt_trans hb (Nat.pow_lt_pow_right (by decide) (by decide))⟩
theorem ixn {n j : Nat} (h : j < n) : ixN n (j : Int) = some j := by
  unfold ixN
  rw [if_pos (by omega), if_pos (by omega)]
  simp
theorem dpa_setA {K : PySem.W.Frag} {H : Hp} {v : V} {w : Am} : ∀ {vs : List V} {ps : List Am}, DpAll K H vs (ps.map amD) → Dp K H v (amD w) → ∀ i, DpAll K H (vs.set i v) ((ps.set i w).map amD)
  | [], [], .nil, _, _ => .nil
  | _ :: _, _ :: _, .cons _ t, hv, 0 => .cons hv t
  | _ :: _, _ :: _, .cons h t, hv, i + 1 => .cons h (dpa_setA t hv i)
theorem plus_ne (r : Rat) {q : Rat} {c : Am} (hc : c = am q) (hq : 0 < q) : plusA (am r) c ≠ am r := fun z => by
  rw [hc, plus_am] at z
  have := am_inj z
  grind
theorem RowsAt.set {K : PySem.W.Frag} {H : Hp} {vs : List V} {xs : List (Am × List Am)} (h : RowsAt K H vs xs) {b : Addr} {x : Am × List Am} (hb : RowAt K H b x) (j : Nat) : RowsAt K H (vs.set j (.ref b)) (xs.set j x) := by
  refine ⟨by rw [List.length_set, List.length_set]; exact h.1, fun i y e => ?_⟩
  by_cases c : i = j
  · subst c
    have hi := (List.getElem?_eq_some_iff.mp e).1
    rw [List.length_set] at hi
    rw [List.getElem?_set_self hi] at e
    cases e
    exact ⟨b, List.getElem?_set_self (by rw [h.1]; exact hi), hb⟩
  · rw [List.getElem?_set_ne (Ne.symm c)] at e ⊢
    exact h.2 i y e
theorem bad13 {zs : List Int} (h4 : zs.length ≤ 4) (h : ∀ z ∈ zs, 1 ≤ z ∧ z ≤ 12) : ordW 1 (zs.drop 1 ++ [13]) = some ("bad pace" : Str) := by
  unfold ordW
  rw [if_pos (by decide)]
  unfold pcW
  have l : (zs.drop 1 ++ [13]).length = zs.length - 1 + 1 := by rw [List.length_append, List.length_drop]; rfl
  have hn : ¬ ((zs.drop 1 ++ [13]).all paceB = true) := fun z => by
    have := List.all_eq_true.mp z 13 (List.mem_append_right _ (by simp))
    exact absurd this (by decide)
  rw [if_neg (by rw [l]; omega), if_neg hn]
def sp_LAW (K : PySem.W.Frag) (T : Tb) (CP CC : Addr) : Sp := fun vs H Q _ => ∃ (a : Addr) (ns : List Int), vs = [.ref a] ∧ SqL K H a (ns.map V.int) ∧ ns.length ≤ 63 ∧ (∀ z ∈ ns, Builtin.Int.intBits z ≤ 1048576) ∧ Ok T H ∧ ∀ H', Q (.bl true) H'
theorem ok_LAW {f : Addr} {fd : FuncData} {c PT : Addr} (F : FunC K "law" "law" s_LAW f fd c) (hnT : (T.map (·.1)).Nodup) (hPT : (PT, some (("law" : Str) ++ ".<locals>." ++ "<lambda>")) ∈ T) (TB : LamX.TabB base mg c PT) (B : Bn mg) {CP : Addr} (W : Word K mg CP) {CC : Addr} (TC : Kl K CC) (F_l_cell : Fn P w K mg base 1 "_law_cell" ["_law_script", "_law_k"] (sp_l_cell K T)) (F_l_draws : Fn P w K mg base 1 "_law_draws" ["_law_cell_here", "_law_parts"] (sp_l_draws K T)) (F_l_many : Fn P w K mg base 1 "_law_many" ["_law_script", "_law_few"] (sp_l_many K T)) (F_l_split : Fn P w K mg base 1 "_law_split" ["_law_cell_here", "_law_many_here"] (sp_l_split K T)) (M_enter : Mx P w K mg base CC 5 "enter" ["self", "name", "pace"] (sp_p_Chain_enter K T CP CC)) (M_place : Mx P w K mg base CC 5 "place" ["self", "name"] (sp_p_Chain_place K T CP CC)) (M_hour : Mt P w K mg base CC 1 "hour" ["self"] (sp_p_Chain_hour K T CC)) (M_init : Mnx P w K mg base CC 6 "Chain" ["self", "way"] (sp_p_Chain___init__ K T CP CC)) (M_outs : Mx P w K mg base CC 7 "outs" ["self", "count"] (sp_p_Chain_outs K T CP CC)) (F_l_same : Fn P w K mg base 6 "_law_same" ["_law_found", "_law_due"] (sp_l_same K T)) (F_l_task : Fn P w K mg base 4 "_law_task" ["_law_cell_here", "_law_most"] (sp_l_task K T)) (F_l_add : Fn P w K mg base 3 "_law_add" ["_law_one", "_law_other"] (sp_l_add K T)) (F_p_log_fault : Fx P w K mg base 9 "log_fault" ["labour", "paces", "rows"] (sp_p_log_fault K T CP CC)) (F_l_way : Fn P w K mg base 2 "_law_way" ["_law_cell_here"] (sp_l_way K T)) (F_l_labour : Fn P w K mg base 1 "_law_labour" ["_law_way_here"] (sp_l_labour K T)) (F_l_name : Fn P w K mg base 2 "_law_name" ["_law_k", "_law_salt"] (sp_l_name K T)) : FnOk P w K mg base (L2.CX P w) 24 f fd ["_law_script"] (sp_LAW K T CP CC) := by
  refine F.okX sc_LAW (fun vs H Q E h => ?_) (fun A outer s H vs Q E hr h => ?_)
  · obtain ⟨a, ns, rfl, _⟩ := h
    rfl
  · obtain ⟨a, script, rfl, hS, hlen, hbits, hok, q⟩ := h
    refine ⟨_, (pss_cons (ps_asg (pe_fn F_l_split (hr.mono (by decide)) (pa_cons (pe_fn F_l_cell (hr.mono (by decide)) (pa_cons (pv 0) (pa_cons pe_int pa_nil))) (pa_cons pe_int pa_nil))) (pg_unl rfl (pgs_cons (pg_name (i := 1) sc_LAW.nd rfl (.inl rfl)) (pgs_cons (pg_name (i := 2) sc_LAW.nd rfl (.inl rfl)) (pgs_cons (pg_name (i := 3) sc_LAW.nd rfl (.inr rfl)) pgs_nil)))))
      (pss_cons (ps_asg (pe_fn F_l_task (hr.mono (by decide)) (pa_cons (pv 1) (pa_cons pe_int pa_nil))) (pg_tup rfl (pgs_cons (pg_name (i := 4) sc_LAW.nd rfl (.inl rfl)) (pgs_cons (pg_name (i := 19) sc_LAW.nd rfl (.inr rfl)) (pgs_cons (pg_name (i := 5) sc_LAW.nd rfl (.inl rfl)) pgs_nil)))))
      (pss_cons (ps_set (i := 6) sc_LAW.nd rfl (.inl rfl) (pe_op op_cat (pe_slice sl_list (pe_lc (own := [("_law_pair", 21)]) (g := (gName 21)) (by rfl) sc_LAW.nd (pi_list (pe_fn F_l_way (hr.mono (by decide)) (pa_cons (pv 2) pa_nil))) (blkOk_by (own := [("_law_pair", 21)]) (N := ["_law_script", "_law_first", "_law_second", "_law_third", "_law_length", "_law_hours", "_law_way_here", "_law_line", "_law_k", "_law_names", "_law_whole", "_law_at", "_law_spot", "_law_hour", "_law_places", "_law_off", "_law_bent", "_law_found", "_law_due", "_law_paces", "_law_rows", "_law_pair", "_law_name_here"]) (sc := (defScope s_LAW)) (by decide +kernel)) (fun _ _ _ _ _ => (pg_name (i := 21) sc_LAW.nd rfl (.inl rfl))) (fun _ _ _ _ _ => (pts_one (pt_cmpR op_lt (pe_op op_mul (pe_ix (r := rIxT K) ix_tup (pv 21) pe_int (fun _ _ => rfl)) (pe_ix (r := rIxT K) ix_tup (pv 21) pe_int (fun _ _ => rfl))) pe_int (nomark _)))) (fun _ _ _ _ _ => (pv 21))) po_none (po_some pe_int)) (pe_lst (pa_cons (pe_tup (pa_cons pe_int (pa_cons pe_int pa_nil))) pa_nil))))
      (pss_cons (ps_set (i := 6) sc_LAW.nd rfl (.inl rfl) (pe_slice sl_list (pv 6) (po_some (pe_un un_neg pe_int)) po_none))
      (pss_cons (ps_set (i := 7) sc_LAW.nd rfl (.inr rfl) (pe_mnx M_init (hr.mono (by decide)) (takes_of rfl rfl rfl rfl) (pa_cons (pv 6) pa_nil)))
      (pss_cons (ps_setLc (i := 9) (own := [("_law_k", 8)]) (g := (gName 8)) (tt := tYes) (by rfl) sc_LAW.nd rfl rfl (sw_true rfl rfl rfl (by decide +kernel)) (pi_range1 (by rfl) B.range_ (pa_cons (pe_callB call_len_seq (by rfl) B.len_ (by decide +kernel) (pa_cons (pv 19) pa_nil)) pa_nil)) (blkOk_by (own := [("_law_k", 8)]) (N := ["_law_script", "_law_first", "_law_second", "_law_third", "_law_length", "_law_hours", "_law_way_here", "_law_line", "_law_k", "_law_names", "_law_whole", "_law_at", "_law_spot", "_law_hour", "_law_places", "_law_off", "_law_bent", "_law_found", "_law_due", "_law_paces", "_law_rows", "_law_pair", "_law_name_here"]) (sc := (defScope s_LAW)) (by decide +kernel)) (fun _ _ _ _ _ => (pg_name (i := 8) sc_LAW.nd rfl (.inl rfl))) (fun _ _ _ _ _ => pts_nil) (fun _ _ _ _ _ => (pe_fn F_l_name (hr.mono (by decide)) (pa_cons (pv 8) (pa_cons (pv 3) pa_nil)))))
      (pss_cons (ps_for (passes_of rfl) rfl (pi_range3 (by rfl) B.range_ (pa_cons (pe_op op_sub (pe_callB call_len_seq (by rfl) B.len_ (by decide +kernel) (pa_cons (pv 19) pa_nil)) pe_int) (pa_cons (pe_un un_neg pe_int) (pa_cons (pe_un un_neg pe_int) pa_nil)))) (pg_name (i := 8) sc_LAW.nd rfl (.inl rfl))
      (pss_one (ps_expr (pe_mx M_enter TC.cl (hr.mono (by decide)) (takes_of rfl rfl rfl rfl) (pv 7) (pa_cons (pe_ix ix_list (pv 9) (pv 8) (fun _ _ => rfl)) (pa_cons (pe_ix ix_list (pv 19) (pv 8) (fun _ _ => rfl)) pa_nil))))))
      (pss_cons (ps_set (i := 20) sc_LAW.nd rfl (.inr rfl) (pe_lst pa_nil))
      (pss_cons (ps_for (passes_of rfl) rfl (pi_range1 (by rfl) B.range_ (pa_cons (pe_callB (call_min2 rfl) (by rfl) B.min_ (by decide +kernel) (pa_cons pe_int (pa_cons (pe_fn F_l_many (hr.mono (by decide)) (pa_cons (pv 0) (pa_cons pe_int pa_nil))) pa_nil))) pa_nil)) (pg_name (i := 8) sc_LAW.nd rfl (.inl rfl))
      (pss_cons (ps_expr (pe_mx M_outs TC.cl (hr.mono (by decide)) (takes_of rfl rfl rfl rfl) (pv 7) (pa_cons pe_int pa_nil)))
      (pss_one (ps_expr (pe_bm PySem.F.plainAttrs_list PySem.F.slot_list_append PySem.F.type_list_append mt_append (pv 20) (pa_cons (pe_tup (pa_cons (pe_mt0 M_hour TC.cl (hr.mono (by decide)) (pv 7) ) (pa_cons (pe_lc (own := [("_law_name_here", 22)]) (g := (gName 22)) (tt := tYes) (by rfl) sc_LAW.nd (pi_list (pv 9)) (blkOk_by (own := [("_law_name_here", 22)]) (N := ["_law_script", "_law_first", "_law_second", "_law_third", "_law_length", "_law_hours", "_law_way_here", "_law_line", "_law_k", "_law_names", "_law_whole", "_law_at", "_law_spot", "_law_hour", "_law_places", "_law_off", "_law_bent", "_law_found", "_law_due", "_law_paces", "_law_rows", "_law_pair", "_law_name_here"]) (sc := (defScope s_LAW)) (by decide +kernel)) (fun _ _ _ _ _ => (pg_name (i := 22) sc_LAW.nd rfl (.inl rfl))) (fun _ _ _ _ _ => pts_nil) (fun _ _ _ _ _ => (pe_mx_ M_place TC.cl (hr.mono (by decide)) (pv 7) (pa_cons (pv 22) pa_nil)))) pa_nil))) pa_nil))))))
      (pss_cons (ps_set (i := 10) sc_LAW.nd rfl (.inl rfl) (pe_fn F_l_labour (hr.mono (by decide)) (pa_cons (pv 6) pa_nil)))
      (pss_cons (ps_if (pt_cmpR op_notN (pe_fx F_p_log_fault (hr.mono (by decide)) (takes_of rfl rfl rfl rfl) (pa_cons (pv 10) (pa_cons (pv 19) (pa_cons (pv 20) pa_nil)))) pe_non (nomark _)) (pss_one (ps_ret pe_bl)) pss_nil)
      (pss_cons (ps_asg (pe_fn F_l_draws (hr.mono (by decide)) (pa_cons (pv 3) (pa_cons (pe_lst (pa_cons pe_int (pa_cons pe_int pa_nil))) pa_nil))) (pg_unl rfl (pgs_cons (pg_name (i := 11) sc_LAW.nd rfl (.inl rfl)) (pgs_cons (pg_name (i := 12) sc_LAW.nd rfl (.inl rfl)) pgs_nil))))
      (pss_cons (ps_set (i := 11) sc_LAW.nd rfl (.inl rfl) (pe_op op_mod (pv 11) (pe_callB call_len_seq (by rfl) B.len_ (by decide +kernel) (pa_cons (pv 20) pa_nil))))
      (pss_cons (ps_asg (pe_ix ix_list (pv 20) (pv 11) (fun _ _ => rfl)) (pg_tup rfl (pgs_cons (pg_name (i := 13) sc_LAW.nd rfl (.inl rfl)) (pgs_cons (pg_name (i := 14) sc_LAW.nd rfl (.inl rfl)) pgs_nil))))
      (pss_cons (ps_set (i := 15) sc_LAW.nd rfl (.inl rfl) (pe_callTy call_list_of (by rfl) B.list_ (by decide +kernel) (pa_cons (pv 14) pa_nil)))
      (pss_cons (ps_asg (pe_fn F_l_add (hr.mono (by decide)) (pa_cons (pe_ix ix_list (pv 15) (pe_op op_mod (pv 12) (pe_callB call_len_seq (by rfl) B.len_ (by decide +kernel) (pa_cons (pv 15) pa_nil))) (fun _ _ => rfl)) (pa_cons (pe_tup (pa_cons pe_int (pa_cons pe_int pa_nil))) pa_nil))) (pg_sub (pv 15) (pe_op op_mod (pv 12) (pe_callB call_len_seq (by rfl) B.len_ (by decide +kernel) (pa_cons (pv 15) pa_nil))) set_list))
      (pss_cons (ps_for (passes_of rfl) rfl (pi_list (pe_lst (pa_cons (pe_tup (pa_cons (pe_fn F_l_add (hr.mono (by decide)) (pa_cons (pv 13) (pa_cons (pe_tup (pa_cons pe_int (pa_cons pe_int pa_nil))) pa_nil))) (pa_cons (pv 14) pa_nil))) (pa_cons (pe_tup (pa_cons (pv 13) (pa_cons (pv 15) pa_nil))) (pa_cons (pe_tup (pa_cons (pv 13) (pa_cons (pe_slice sl_list (pv 14) (po_some pe_int) po_none) pa_nil))) pa_nil))))) (pg_name (i := 16) sc_LAW.nd rfl (.inl rfl))
      (pss_one (ps_if (pt_not (pt_val (pe_fn F_l_same (hr.mono (by decide)) (pa_cons (pe_fx F_p_log_fault (hr.mono (by decide)) (takes_of rfl rfl rfl rfl) (pa_cons (pv 10) (pa_cons (pv 19) (pa_cons (pe_op op_cat (pe_op op_cat (pe_slice sl_list (pv 20) po_none (po_some (pv 11))) (pe_lst (pa_cons (pv 16) pa_nil))) (pe_slice sl_list (pv 20) (po_some (pe_op op_add (pv 11) pe_int)) po_none)) pa_nil)))) (pa_cons (pv 11) pa_nil))))) (pss_one (ps_ret pe_bl)) pss_nil)))
      (pss_cons (ps_set (i := 17) sc_LAW.nd rfl (.inl rfl) (pe_lst (pa_cons (pe_word (k := 16) W hnT (by rfl) TB rfl hPT (hr.mono (by decide)) (LamX.lamS_by (sc := defScope s_LAW) (by decide +kernel)) rfl (fun _ _ _ _ _ => rfl) (fun A outer s H E f c' hr => (pe_fx (E := E) F_p_log_fault (hr.mono (by decide)) (takes_of rfl rfl rfl rfl) (pa_cons pe_int (pa_cons (pv 19) (pa_cons (pe_lst pa_nil) pa_nil)))))) pa_nil)))
      (pss_cons (ps_expr (pe_bm PySem.F.plainAttrs_list PySem.F.slot_list_append PySem.F.type_list_append mt_append (pv 17) (pa_cons (pe_word (k := 16) W hnT (by rfl) TB rfl hPT (hr.mono (by decide)) (LamX.lamS_by (sc := defScope s_LAW) (by decide +kernel)) rfl (fun _ _ _ _ _ => rfl) (fun A outer s H E f c' hr => (pe_fx (E := E) F_p_log_fault (hr.mono (by decide)) (takes_of rfl rfl rfl rfl) (pa_cons pe_int (pa_cons (pv 19) (pa_cons (pv 20) pa_nil)))))) pa_nil)))
      (pss_cons (ps_expr (pe_bm PySem.F.plainAttrs_list PySem.F.slot_list_append PySem.F.type_list_append mt_append (pv 17) (pa_cons (pe_word (k := 16) W hnT (by rfl) TB rfl hPT (hr.mono (by decide)) (LamX.lamS_by (sc := defScope s_LAW) (by decide +kernel)) rfl (fun _ _ _ _ _ => rfl) (fun A outer s H E f c' hr => (pe_fx (E := E) F_p_log_fault (hr.mono (by decide)) (takes_of rfl rfl rfl rfl) (pa_cons pe_int (pa_cons (pe_lst pa_nil) (pa_cons (pv 20) pa_nil)))))) pa_nil)))
      (pss_cons (ps_expr (pe_bm PySem.F.plainAttrs_list PySem.F.slot_list_append PySem.F.type_list_append mt_append (pv 17) (pa_cons (pe_word (k := 16) W hnT (by rfl) TB rfl hPT (hr.mono (by decide)) (LamX.lamS_by (sc := defScope s_LAW) (by decide +kernel)) rfl (fun _ _ _ _ _ => rfl) (fun A outer s H E f c' hr => (pe_fx (E := E) F_p_log_fault (hr.mono (by decide)) (takes_of rfl rfl rfl rfl) (pa_cons pe_int (pa_cons (pe_lst (pa_cons pe_int (pa_cons pe_int (pa_cons pe_int (pa_cons pe_int (pa_cons pe_int pa_nil)))))) (pa_cons (pe_lst pa_nil) pa_nil)))))) pa_nil)))
      (pss_cons (ps_expr (pe_bm PySem.F.plainAttrs_list PySem.F.slot_list_append PySem.F.type_list_append mt_append (pv 17) (pa_cons (pe_word (k := 16) W hnT (by rfl) TB rfl hPT (hr.mono (by decide)) (LamX.lamS_by (sc := defScope s_LAW) (by decide +kernel)) rfl (fun _ _ _ _ _ => rfl) (fun A outer s H E f c' hr => (pe_fx (E := E) F_p_log_fault (hr.mono (by decide)) (takes_of rfl rfl rfl rfl) (pa_cons pe_int (pa_cons (pe_op op_cat (pe_slice (r := rSlL K) sl_list (pv 19) (po_some pe_int) po_none) (pe_lst (pa_cons pe_int pa_nil))) (pa_cons (pe_lst pa_nil) pa_nil)))))) pa_nil)))
      (pss_cons (ps_set (i := 18) sc_LAW.nd rfl (.inl rfl) (pe_lst (pa_cons (pe_tup (pa_cons pe_str pa_nil)) (pa_cons (pe_tup (pa_cons pe_str pa_nil)) (pa_cons (pe_tup (pa_cons pe_str pa_nil)) (pa_cons (pe_tup (pa_cons pe_str pa_nil)) (pa_cons (pe_tup (pa_cons pe_str pa_nil)) pa_nil)))))))
      (pss_one (ps_ret (pe_fn F_l_same (hr.mono (by decide)) (pa_cons (pv 17) (pa_cons (pv 18) pa_nil)))))))))))))))))))))))))))), ?_⟩
    refine ⟨_, rfl, a, script, 0, rfl, hS, by decide, fun c0 => ⟨c0, 3, rfl, by decide, fun p1 H1 zs0 s1 np1 e1 hl1 => ?_⟩⟩
    obtain ⟨z1, z2, z3, rfl⟩ : ∃ z1 z2 z3, zs0 = [z1, z2, z3] := match zs0, hl1 with | [z1, z2, z3], _ => ⟨z1, z2, z3, rfl⟩
    refine ⟨p1, _, rfl, SqL.of e1, rfl, _, _, rfl, _, _, rfl, _, _, rfl, rfl, ?_⟩
    dsimp only [gName, List.set]
    refine ⟨_, rfl, z1, 4, rfl, by decide, by decide, fun t pa hp H2 L0 zs h s2 et epa hhp hmz ho => ?_⟩
    refine ⟨t, _, rfl, SqT.of et, rfl, _, _, rfl, _, _, rfl, _, _, rfl, rfl, ?_⟩
    dsimp only [gName, List.set]
    have w0 := or_h40 ho
    refine ⟨_, rfl, z2, rfl, fun o2 H3 us2 qs s3 no2 e2 du2 hwB => ?_⟩
    have s03 := s1.trans (s2.trans s3)
    have epa3 := s3.k epa
    clear et hhp ho
    obtain ⟨lw1, lw2, lw3⟩ := wayB_b hwB
    have lus2 : us2.length = qs.length := by rw [dpa_len du2, List.length_map]
    refine ⟨o2, rfl, ⟨_, SqL.of e2⟩, fun D hD => lc_list (K := K) (a := o2) (xs := us2) (Qd := _) (fun i H' => Sm T H3 H' ∧ ∃ vs, H' D = some (.lst vs) ∧ vs.length ≤ i ∧ DpAll K H' vs (((qs.take i).filter (fun q => decide (q.1 * q.2 < 10))).map amD)) ⟨same_upd hD, [], upd_same, Nat.le_refl _, .nil⟩ (fun i H' _ z => SqL.of (z.1.k e2)) ?_ ?_⟩
    · rintro i v H4 hi ⟨s4, vs, eD, lv, dv⟩
      have hil : i < qs.length := by rw [← lus2]; exact (List.getElem?_eq_some_iff.mp hi).1
      obtain ⟨u, gu, dd⟩ := dpa_get (dpa_same s4 _ _ du2) (i := i) (d := amD qs[i]) (by rw [List.getElem?_map, List.getElem?_eq_getElem hil]; rfl)
      rw [hi] at gu
      cases gu
      obtain ⟨b, rfl, sq⟩ := pd_at dd
      have hq := lw3 _ (List.getElem_mem hil)
      refine ⟨rfl, ?_⟩
      refine ⟨_, rfl, b, _, _, .int qs[i].1, rfl, rfl, sq, at_of (j := 0) rfl rfl, _, rfl, b, _, _, .int qs[i].2, rfl, rfl, sq, at_of (j := 1) rfl rfl, _, _, rfl, rfl, .inl ⟨by omega, by omega⟩, _, _, rfl, rfl, _, rfl, ?_⟩
      rw [List.take_add_one, List.getElem?_eq_getElem hil, List.filter_append]
      by_cases c : qs[i].1 * qs[i].2 < 10
      · rw [decide_eq_true c]
        refine iteT ⟨_, rfl, vs, eD, szl (by omega), same_mut s4 hD eD, vs ++ [.ref b], upd_same, by rw [List.length_append]; show vs.length + 1 ≤ _; omega, ?_⟩
        rw [show (Option.toList (some qs[i])).filter (fun q => decide (q.1 * q.2 < 10)) = [qs[i]] by show [qs[i]].filter _ = _; rw [List.filter_cons_of_pos (by rw [decide_eq_true c]), List.filter_nil], List.map_append]
        exact dpa_app (dpa_lst eD dv) (.cons (amD_dp (sqT_lst eD sq)) .nil)
      · rw [decide_eq_false c]
        refine iteF ⟨s4, vs, eD, by omega, ?_⟩
        rw [show (Option.toList (some qs[i])).filter (fun q => decide (q.1 * q.2 < 10)) = [] by show [qs[i]].filter _ = _; rw [List.filter_cons_of_neg (by rw [decide_eq_false c]; decide), List.filter_nil], List.append_nil]
        exact dv
    · rintro H4 ⟨s4, vf, eD, lv, dv⟩
      rw [lus2, List.take_length] at dv
      rw [lus2] at lv
      refine ⟨6, rfl, D, _, rfl, SqL.of eD, fun p5 n5 => ?_⟩
      have c6 : cutV vf none (some 6) = vf := by rw [cut_take (z := 6) vf 6 rfl]; exact List.take_of_length_le (by omega)
      rw [c6]
      have u5 := same_upd (T := T) (o := HO.lst vf) n5
      refine ⟨by show 2 ≤ sizeLine; decide, fun p6 n6 => ⟨by show 1 ≤ sizeLine; decide, fun p7 n7 => ?_⟩⟩
      have u6 := same_upd (T := T) (o := HO.tup [V.int 1, V.int 5]) n6
      have u7 := same_upd (T := T) (o := HO.lst [V.ref p6]) n7
      refine ⟨p5, p7, vf, [.ref p6], rfl, rfl, u7.k (u6.k upd_same), upd_same, sz (by show vf.length + 1 ≤ _; omega), fun p8 n8 => ?_⟩
      have u8 := same_upd (T := T) (o := HO.lst (vf ++ [V.ref p6])) n8
      dsimp only [gName, List.set]
      refine ⟨_, rfl, 6, rfl, -6, rfl, p8, _, rfl, SqL.of upd_same, fun p9 n9 => ?_⟩
      have u9 := same_upd (T := T) (o := HO.lst (cutV (vf ++ [V.ref p6]) (some (-6)) none)) n9
      have s59 := u5.trans (u6.trans (u7.trans (u8.trans u9)))
      have e9 : upd (upd (upd (upd (upd H4 p5 (.lst vf)) p6 (.tup [V.int 1, V.int 5])) p7 (.lst [V.ref p6])) p8 (.lst (vf ++ [V.ref p6]))) p9 (.lst (cutV (vf ++ [V.ref p6]) (some (-6)) none)) p9 = some (.lst (cutV (vf ++ [V.ref p6]) (some (-6)) none)) := upd_same
      have q6 : SqT K (upd (upd (upd (upd (upd H4 p5 (.lst vf)) p6 (.tup [V.int 1, V.int 5])) p7 (.lst [V.ref p6])) p8 (.lst (vf ++ [V.ref p6]))) p9 (.lst (cutV (vf ++ [V.ref p6]) (some (-6)) none))) p6 (tv (1, 5)) := same_tup (u7.trans (u8.trans u9)) (SqT.of upd_same)
      have d4 := dpa_same s59 _ _ dv
      generalize upd (upd (upd (upd (upd H4 p5 (.lst vf)) p6 (.tup [V.int 1, V.int 5])) p7 (.lst [V.ref p6])) p8 (.lst (vf ++ [V.ref p6]))) p9 (.lst (cutV (vf ++ [V.ref p6]) (some (-6)) none)) = H9 at *
      have d1 : DpAll K H9 (vf ++ [V.ref p6]) ((wy qs).map amD) := by
        unfold wy
        rw [List.map_append]
        exact dpa_app d4 (.cons (amD_dp q6) .nil)
      have lz : (vf ++ [V.ref p6]).length = (wy qs).length := by rw [dpa_len d1, List.length_map]
      obtain ⟨us9, eus9⟩ : ∃ us9, us9 = cutV (vf ++ [V.ref p6]) (some (-6)) none := ⟨_, rfl⟩
      have d9 := dpa_dropN ((wy qs).length - 6) d1
      rw [← List.map_drop, ← lz, ← cut_negK _ 6 (by decide), show (-((6 : Nat) : Int)) = -6 from rfl, ← eus9, lz] at d9
      have d9 : DpAll K H9 us9 ((wz qs).map amD) := d9
      rw [← eus9] at e9
      have s09 := s03.trans (s4.trans s59)
      have epa9 := (s4.trans s59).k epa3
      clear d1 d4 q6 lz eus9 s59 e2 du2 epa epa3 e1 eD dv n5 n6 n7 n8 n9 no2
      clear s1 s2 s3 s03 s4
      dsimp only [gName, List.set]
      obtain ⟨wzb, lab1, lab54⟩ := wz_ok hwB
      generalize wz qs = ws at *
      obtain ⟨ww1, ww2, ww3⟩ := wayB_b wzb
      refine ⟨_, rfl, fun c dx nc ndx nex => ?_⟩
      refine ⟨_, c, dx, p9, us9, ws, rfl, rfl, nc, ndx, nex, SqL.of e9, d9, by omega, s09.ok hok, fun _ H10 A10 s10 h10 fr10 => ⟨rfl, ?_⟩, fun z => absurd z (by rw [wzb]; decide)⟩
      have own : ∀ y ∈ ownC c A10, H y = none := fun y hy => s09.free _ (fr10 y hy)
      have hc : H c = none := s09.free _ nc
      have en10 := En.new (labourM ws) ws
      have e910 := s10.k e9
      have d910 := dpa_same s10 _ _ d9
      have epa10 := s10.k epa9
      have s010 := s09.trans s10
      have no9 : p9 ∉ ownC c A10 := fun hy => by have := fr10 p9 hy; rw [e9] at this; cases this
      have nopa : pa ∉ ownC c A10 := fun hy => by have := fr10 pa hy; rw [epa9] at this; cases this
      have qw : ∀ x ∈ ws, wOk x = true := fun x hx => by
        have := ww3 x hx
        unfold wOk
        simp only [Bool.and_eq_true, decide_eq_true_eq]
        omega
      obtain ⟨L, eL⟩ : ∃ L, L = labourM ws := ⟨_, rfl⟩
      rw [← eL] at en10 h10 lab1 lab54
      generalize newS L ws = st10 at en10 h10
      clear e9 d9 epa9 s09 s10 fr10 nc ndx nex
      dsimp only [gName, List.set]
      obtain ⟨o1, o2', o3, o4, o5, o6, o7⟩ := ord_facts w0
      obtain ⟨m, em⟩ : ∃ m, m = zs.length := ⟨_, rfl⟩
      have hm4 : m ≤ 4 := by omega
      have hm1 : 1 ≤ m := by omega
      refine ⟨_, rfl, pa, _, rfl, .inl (SqL.of epa10), m, by rw [List.length_map, em], by omega, by omega, fun D2 hD2 => lc_range (lo := 0) (n := m) (Qd := _) (fun i H' => Sm T H10 H' ∧ H' D2 = some (.lst (((nmU z3 m).take i).map V.str))) ⟨same_upd hD2, upd_same⟩ ?_ ?_⟩
      · rintro i H' hi ⟨sm, eD⟩
        refine ⟨rfl, tyes_i ?_⟩
        refine ⟨_, rfl, _, rfl, i, z3, congrArg (fun z => [V.int z, V.int z3]) (Int.zero_add _), by omega, fun H2 s2 => ?_⟩
        have eD2 := s2.k eD
        refine ⟨_, eD2, ?_, same_mut (sm.trans s2) hD2 eD2, ?_⟩
        · rw [List.length_map, List.length_take, nmU_len]
          exact szl (by omega)
        · rw [upd_same, List.take_add_one, List.getElem?_eq_getElem (by rw [nmU_len]; exact hi), nmU_get hi, List.map_append]
          rfl
      · rintro H11 ⟨s11, eD⟩
        rw [List.take_of_length_le (by rw [nmU_len]; omega)] at eD
        have ls11 : LS K T CC H c [(p9, us9), (pa, zs.map V.int), (D2, (nmU z3 m).map V.str)] us9 (ws.map amD) H11 A10 st10 := by
          refine ⟨s010.trans s11, h10.sm s11, own, fun p hp => ?_, fun p hp => ?_, dpa_same s11 _ _ d910, noL_amD ws⟩
          · simp only [List.mem_cons, List.not_mem_nil, or_false] at hp
            rcases hp with rfl | rfl | rfl
            · exact s11.k e910
            · exact s11.k epa10
            · exact eD
          · simp only [List.mem_cons, List.not_mem_nil, or_false] at hp
            rcases hp with rfl | rfl | rfl
            · exact no9
            · exact nopa
            · exact h10.new hD2
        clear e910 d910 epa10 no9 nopa s010 s11 eD h10
        have epa11 := ls11.keep (pa, zs.map V.int) (by simp)
        refine ⟨_, rfl, pa, _, rfl, .inl (SqL.of epa11), _, _, rfl, rfl, 1, rfl, 1, rfl, _, _, _, m, rfl, ?_, for_rangeC (lo := ((zs.map V.int).length : Int) - 1) (c := -1) (n := m) (fun j σ H' => ∃ (s' : Ch) (y8 : Option V), En ((nmU z3 m).drop (m - j)) (zs.drop (m - j)) L ws s' ∧ LS K T CC H c [(p9, us9), (pa, zs.map V.int), (D2, (nmU z3 m).map V.str)] us9 (ws.map amD) H' A10 s' ∧ σ = [some (.ref a), some (.int z1), some (.int z2), some (.int z3), some (.int L0), some (.ref hp), some (.ref p9), some (.ref c), y8, some (.ref D2), none, none, none, none, none, none, none, none, none, some (.ref pa), none, none, none]) ⟨st10, none, ?_, ls11, rfl⟩ ?_ ?_⟩
        · have := RgC.neg (i := ((zs.map V.int).length : Int) - 1) (j := -1) (by rw [List.length_map]; omega) (by rw [List.length_map]; omega) (by omega) (by omega)
          rw [show (((zs.map V.int).length : Int) - 1 - -1).toNat = m from by rw [List.length_map]; omega] at this
          exact this
        · rw [List.drop_of_length_le (by rw [nmU_len]; omega), List.drop_of_length_le (by omega)]
          exact en10
        · rintro j σ H' hj ⟨s', y8, en, ls, rfl⟩
          have hk : m - 1 - j < m := by omega
          have ek : ((zs.map V.int).length : Int) - 1 + (j : Int) * -1 = ((m - 1 - j : Nat) : Int) := by rw [List.length_map]; omega
          have gD := ls.keep (D2, (nmU z3 m).map V.str) (by simp)
          have g7 := ls.keep (pa, zs.map V.int) (by simp)
          refine ⟨_, rfl, c, _, _, rfl, ls.ch.ins, fl_no (by decide +kernel), _, rfl, _, rfl, D2, _, ((m - 1 - j : Nat) : Int), .str (nameF (m - 1 - j) z3), rfl, congrArg V.int ek, SqL.of gD, atI_nat (by rw [List.getElem?_map, List.getElem?_eq_getElem (by rw [nmU_len]; exact hk), nmU_get hk]; rfl), ?_⟩
          refine ⟨_, rfl, _, rfl, pa, _, ((m - 1 - j : Nat) : Int), .int (zs[m - 1 - j]'(by omega)), rfl, congrArg V.int ek, SqL.of g7, atI_nat (by rw [List.getElem?_map, List.getElem?_eq_getElem (by omega)]; rfl), ?_⟩
          have nok := name_ok (m - 1 - j) z3
          have hpp := o5 _ (List.getElem_mem (show m - 1 - j < zs.length by omega))
          have nn := nmU_new (salt := z3) hk (by omega)
          rw [show m - 1 - j + 1 = m - j from by omega] at nn
          have ln : ((nmU z3 m).drop (m - j)).length = j := by rw [List.length_drop, nmU_len]; omega
          have ent := en.enter nn nok.1 (by omega) hpp.1 hpp.2 lab1
          have e1 := en.ri.ml
          have e2 := en.ri.sd.ll
          have e3 := en.ri.sd.ls
          have e4 := en.ri.row
          have e5 := en.tl
          have e6 := en.ri.lgl
          have e7 := en.pl
          have e8 : s'.row.length = j := by rw [e4, ln]
          refine ⟨c, A10, s', nameF (m - 1 - j) z3, zs[m - 1 - j]'(by omega), rfl, ls.ch, sz (by omega), ls.sm.ok hok, ⟨by omega, by omega, by omega, by omega, by omega, by omega⟩, fun _ H3 x3 h3 => ?_, fun wd hw => ?_⟩
          · refine ⟨_, _, ?_, ls.on x3 h3 fun x hx => .inl hx, rfl⟩
            have d1 := nmU_drop (salt := z3) hk
            have d2 := List.drop_eq_getElem_cons (show m - 1 - j < zs.length by omega)
            rw [show m - 1 - j + 1 = m - j from by omega] at d1 d2
            rw [show m - (j + 1) = m - 1 - j from by omega, d1, d2]
            exact ent.2
          · rw [ent.1] at hw
            cases hw
        · rintro σ H12 ⟨s12, y8, en12, ls12, rfl⟩
          rw [Nat.sub_self, List.drop_zero, List.drop_zero] at en12
          have hg : Hg (nmU z3 m) zs L := ⟨by rw [nmU_len]; omega, by rw [nmU_len]; omega, nmU_nd (by omega), by rw [nmU_len, em], o5, lab1, by omega⟩
          have h4 : (nmU z3 m).length ≤ 4 := by rw [nmU_len]; exact hm4
          have g0 : LgI (nmU z3 m) zs L ws 0 s12 := by
            refine ⟨⟨1, en12.ri.gn (by decide) (by rw [nmU_len, em]) o5, by decide, ?_⟩, ?_, by rw [en12.pl]; exact Nat.zero_le _⟩
            · exact Nat.lt_of_lt_of_le (show (1 : Int).natAbs < 2 ^ 1 by decide) (Nat.pow_le_pow_right (by decide) (by omega))
            · rw [en12.now]
              have : (0 : Rat) ≤ (((4 * 0 + stkN zs s12.spots : Nat) : Int) : Rat) := Rat.intCast_nonneg.mpr (by omega)
              grind
          obtain ⟨f, f0, fi, fo⟩ := logs_ex hg h4 lab54 g0
          have w1 : ordW L zs = none := by
            have e : ordW L0 zs = none := w0
            unfold ordW at e ⊢
            rw [if_pos ⟨lab1, lab54⟩]
            by_cases c : 1 ≤ L0 ∧ L0 ≤ 54
            · rw [if_pos c] at e; exact e
            · rw [if_neg c] at e; cases e
          obtain ⟨q0, hgb, h4b, _⟩ := lgi_bg w1
          obtain ⟨g, gg0, gi, go⟩ := logs_ex hgb h4b lab54 q0
          have sp12 : s12.spots = zs.map fun _ => 0 := en12.spots0 (by rw [nmU_len, em])
          have same := logs_same hg hgb h4 h4b lab54 fi fo gi go (by rw [f0, gg0, bgO_sp L zs, sp12]) (by rw [f0, gg0, (en_bg w1).now, en12.now])
          have rowE : ∀ i, rowOf (f i) = rowOf (g i) := fun i => by unfold rowOf; rw [(same i).1, (same i).2]
          dsimp only
          refine ⟨Nat.zero_le _, fun R nR => ?_⟩
          have uR := same_upd (T := T) (o := HO.lst []) nR
          have lsR := ls12.go uR
          have fR : H R = none := ls12.sm.free _ nR
          have nRo : R ∉ ownC c A10 := ls12.ch.new nR
          have hRk : ∀ p ∈ [(p9, us9), (pa, zs.map V.int), (D2, (nmU z3 m).map V.str)], p.1 ≠ R := fun p hp z => by have := ls12.keep p hp; rw [z, nR] at this; cases this
          clear sp12 en12 g0 q0 w0 ls11 epa11 ls12
          dsimp only [gName, List.set]
          refine ⟨_, rfl, a, script, 4, rfl, lsR.sm.seq hS, by decide, by decide, fun mm hmm => ⟨10, mm, rfl, ?_⟩⟩
          obtain ⟨N, hN⟩ : ∃ N : Nat, (if (mm : Int) < 10 then (mm : Int) else 10) = (N : Int) := ⟨(if (mm : Int) < 10 then (mm : Int) else 10).toNat, by split <;> omega⟩
          rw [hN]
          have hNb : 4 ≤ N ∧ N ≤ 10 := by split at hN <;> omega
          refine ⟨N, rfl, by omega, by omega, for_range (lo := 0) (n := N) (fun k σ H' => ∃ (A : Ad) (us : List V) (y8 : Option V), LS K T CC H c [(p9, us9), (pa, zs.map V.int), (D2, (nmU z3 m).map V.str)] us9 (ws.map amD) H' A (f k) ∧ R ∉ ownC c A ∧ H' R = some (.lst us) ∧ RowsS K H' (R :: ownC c A) us ((List.range k).map fun i => rowOf (f (i + 1))) ∧ σ = [some (.ref a), some (.int z1), some (.int z2), some (.int z3), some (.int L0), some (.ref hp), some (.ref p9), some (.ref c), y8, some (.ref D2), none, none, none, none, none, none, none, none, none, some (.ref pa), some (.ref R), none, none]) ⟨A10, [], _, by rw [f0]; exact lsR, nRo, upd_same, .nil, rfl⟩ ?_ ?_⟩
          · rintro k σ H' hk ⟨A, us, y8, ls, nR', eR', rows, rfl⟩
            have hkN : k < N := hk
            obtain ⟨n, on⟩ := fo k
            have gD := ls.keep (D2, (nmU z3 m).map V.str) (by simp)
            refine ⟨_, rfl, c, _, _, rfl, ls.ch.ins, fl_no (by decide +kernel), c, A, f k, 1, rfl, ls.ch, fun z => absurd z (by decide), fun _ z => ?_, fun _ _ => out_lg (fi k) hg h4 lab54 (by omega) on fun H3 A3 p3 us3 x3 ch3 fr3 _ _ _ => ?_⟩
            · obtain ⟨Dn, gn, _⟩ := (fi k).ex
              exact absurd z (gn.ne hg)
            · have ls3 := ls.on x3 ch3 fr3
              have eR3 := x3.lst eR' nR'
              have nR3 : R ∉ ownC c A3 := fun z => (fr3 R z).elim nR' fun y => by rw [eR'] at y; cases y
              have rows3 := rows.on x3 fr3
              have gD3 := ls3.keep (D2, (nmU z3 m).map V.str) (by simp)
              obtain ⟨Dn, gn, _⟩ := (fi (k + 1)).ex
              have hls : (f (k + 1)).spots.length = (f (k + 1)).row.length := by rw [gn.ls, gn.row]
              have hrow : (f (k + 1)).row = nmU z3 m := gn.row
              have nd : (f (k + 1)).row.Nodup := by rw [hrow]; exact hg.nd
              have ch3 := ls3.ch
              refine ⟨_, rfl, .inl ⟨rfl, _, SqL.of eR3⟩, _, rfl, c, _, _, rfl, ch3.ins, fl_no (by decide +kernel), c, A3, f (k + 1), rfl, ch3, fun ph hh => ?_⟩
              refine ⟨_, rfl, D2, rfl, ⟨_, SqL.of gD3⟩, fun Dl hDl => lc_list (K := K) (a := D2) (xs := (nmU z3 m).map V.str) (Qd := _) (fun i H4 => Sm T H3 H4 ∧ ∃ us, H4 Dl = some (.lst us) ∧ DpAll K H4 us ((((f (k + 1)).spots.take i).map am).map amD)) ⟨same_upd hDl, [], upd_same, .nil⟩ (fun i H' _ z => SqL.of (z.1.k gD3)) ?_ ?_⟩
              · rintro i v H4 hi ⟨s4, vs, eD, du⟩
                rw [List.getElem?_map] at hi
                obtain ⟨n', hn', rfl⟩ : ∃ n, (nmU z3 m)[i]? = some n ∧ V.str n = v := Option.map_eq_some_iff.mp hi
                rw [← hrow] at hn'
                have hil := (List.getElem?_eq_some_iff.mp hn').1
                have en : (f (k + 1)).row[i] = n' := (List.getElem?_eq_some_iff.mp hn').2
                have hx : (f (k + 1)).row.idxOf n' = i := by rw [← en]; exact nd.idxOf_getElem i hil
                have h2 := ch3.sm s4
                have lus : vs.length = i := by rw [dpa_len du, List.length_map, List.length_map, List.length_take]; omega
                have h8r : (f (k + 1)).row.length ≤ 4 := by rw [hrow]; exact h4
                refine ⟨rfl, tyes_i ?_⟩
                refine ⟨_, rfl, c, _, _, rfl, h2.ins, fl_no (by decide +kernel), _, rfl, c, A3, f (k + 1), n', rfl, h2, hls, fun _ q9 hq => ?_, fun z => absurd (List.mem_of_getElem? hn') z⟩
                rw [hx] at hq
                refine ⟨vs, eD, szl (by omega), same_mut s4 hDl eD, vs ++ [.ref q9], upd_same, ?_⟩
                have ei : (f (k + 1)).spots[i]? = some ((f (k + 1)).spots.getD i 0) := by rw [List.getD_eq_getElem?_getD, List.getElem?_eq_getElem (by omega)]; rfl
                rw [List.take_add_one, ei, List.map_append, List.map_append]
                exact dpa_app (dpa_lst eD du) (.cons (amD_dp (sqT_lst eD hq)) .nil)
              · rintro H4 ⟨s4, vs, eD, du⟩
                rw [List.length_map, ← hrow, ← hls, List.take_length] at du
                refine ⟨by show 2 ≤ sizeLine; decide, fun tt nt => ?_⟩
                have ut := same_upd (T := T) (o := HO.tup [V.ref ph, V.ref Dl]) nt
                have sA := s4.trans ut
                have eR5 := sA.k eR3
                have lus : us.length = k := by rw [rows.1, List.length_map, List.length_range]
                have nlR : Dl ≠ R := fun z => by rw [z, eR3] at hDl; cases hDl
                have nlc : Dl ∉ ownC c A3 := ch3.new hDl
                have row : RowS K (upd H4 tt (.tup [V.ref ph, V.ref Dl])) (R :: ownC c A3) tt (rowOf (f (k + 1))) := ⟨ph, Dl, vs, SqT.of upd_same, same_tup sA hh, ut.k eD, dpa_same ut _ _ du, fun z => by
                  rcases List.mem_cons.mp z with z | z
                  · exact nlR z
                  · exact nlc z⟩
                have x6 : Sx T [R] (upd H4 tt (.tup [V.ref ph, V.ref Dl])) (upd (upd H4 tt (.tup [V.ref ph, V.ref Dl])) R (.lst (us ++ [V.ref tt]))) := sx_upd eR5 rfl (by simp)
                have rows6 := ((rows3.sx (sA.sx (S := R :: ownC c A3))).push row).sx (x6.mono fun y hy => .inl (by rw [List.mem_singleton.mp hy]; exact List.mem_cons_self))
                have ls6 : LS K T CC H c [(p9, us9), (pa, zs.map V.int), (D2, (nmU z3 m).map V.str)] us9 (ws.map amD) (upd (upd H4 tt (.tup [V.ref ph, V.ref Dl])) R (.lst (us ++ [V.ref tt]))) A3 (f (k + 1)) := by
                  have l5 := ls3.go sA
                  refine ⟨Sx.sm ((l5.sm.sx (S := [])).trans x6 fun y hy => .inr (by rw [List.mem_singleton.mp hy]; exact fR)), l5.ch.sx x6 fun y hy z => nR3 (by rw [← List.mem_singleton.mp z]; exact hy), l5.own, fun p hp => x6.lst (l5.keep p hp) fun z => hRk p hp (List.mem_singleton.mp z), l5.out, x6.dps 3 _ _ l5.nl l5.dp, l5.nl⟩
                refine ⟨R, _, _, rfl, rfl, eR5, szl (by omega), A3, us ++ [.ref tt], _, ls6, nR3, upd_same, ?_, rfl⟩
                rw [List.range_succ, List.map_append]
                exact rows6
          · rintro σ H5 ⟨A, us, y8, ls, nR', eR', rows, rfl⟩
            obtain ⟨xs, exs⟩ : ∃ xs, xs = (List.range N).map fun i => rowOf (f (i + 1)) := ⟨_, rfl⟩
            have lxs : xs.length = N := by rw [exs, List.length_map, List.length_range]
            have rA : RowsAt K H5 us xs := by rw [exs]; exact rows.at
            have hxs : ∀ i, i < xs.length → xs[i]? = some (rowOf (g (i + 1))) := fun i hi => by
              rw [exs, List.getElem?_map, List.getElem?_range (by omega)]
              exact congrArg some (rowE (i + 1))
            have hxb : ∀ x ∈ xs, x.2 ≠ [] ∧ x.2.length ≤ 4 ∧ (Bd 4000 x.1 ∧ 0 < x.1.2) ∧ ∀ y ∈ x.2, Bd 4000 y ∧ 0 < y.2 := fun x hx => by
              rw [exs] at hx
              obtain ⟨i, hi, rfl⟩ := List.mem_map.mp hx
              have := List.mem_range.mp hi
              exact (fi (i + 1)).row hg h4 lab54 (by omega)
            have epa5 := ls.keep (pa, zs.map V.int) (by simp)
            have e95 := ls.keep (p9, us9) (by simp)
            have d95 := ls.dp
            have s05 := ls.sm
            clear rows ls nR' exs
            dsimp only
            refine ⟨_, rfl, p9, us9, ws, rfl, SqL.of e95, d95, qw, ?_⟩
            rw [← eL]
            dsimp only [gName, List.set]
            refine ⟨_, rfl, _, rfl, _, rfl, L, pa, zs, R, us, xs, rfl, SqL.of epa5, SqL.of eR', rA, by omega, fun x hx => Nat.le_trans (hxb x hx).2.1 (by decide), s05.ok hok, fun _ => ⟨g, gg0, gi, go, fun H6 s6 => ?_⟩, fun wd z => absurd z (by rw [w1]; exact fun z => nomatch z)⟩
            rw [fault_no hxs]
            refine ⟨rfl, _, rfl, ?_⟩
            rw [show (!decide (V.non = V.non)) = false from rfl]
            refine iteF ?_
            have rA6 := rA.sm s6
            have eR6 := s6.k eR'
            have epa6 := s6.k epa5
            have s06 := s05.trans s6
            clear rA eR' epa5 s05 s6 e95 d95
            dsimp only [tNext]
            refine ⟨_, rfl, by show 2 ≤ sizeLine; decide, fun l1 n1 => ⟨z3, l1, [10, 4], rfl, SqL.of upd_same, by decide, by decide, fun pd H7 ds s7 np eD hd => ?_⟩⟩
            obtain ⟨k0, r0, rfl, a0, b0, hd⟩ := hd.cons
            obtain ⟨k1, r1, rfl, a1, b1, hd⟩ := hd.cons
            obtain rfl := hd.nil
            have s67 := (same_upd (T := T) (o := HO.lst [V.int 10, V.int 4]) n1).trans s7
            have rA7 := rA6.sm s67
            have eR7 := s67.k eR6
            have epa7 := s67.k epa6
            have s07 := s06.trans s67
            clear rA6 eR6 epa6 s06 s67 s7 n1 np
            refine ⟨pd, _, rfl, SqL.of eD, rfl, _, _, rfl, _, _, rfl, rfl, ?_⟩
            dsimp only [gName, List.set]
            have lus : us.length = N := by rw [rA7.1, lxs]
            obtain ⟨j0, ej0, hj0⟩ : ∃ j0 : Nat, k0 % (us.length : Int) = (j0 : Int) ∧ j0 < N := by
              have a := Int.emod_nonneg k0 (show ((us.length : Nat) : Int) ≠ 0 by omega)
              have b := Int.emod_lt_of_pos k0 (show (0 : Int) < (us.length : Int) by omega)
              exact ⟨(k0 % (us.length : Int)).toNat, by omega, by omega⟩
            refine ⟨_, rfl, _, rfl, R, _, rfl, .inl (SqL.of eR7), _, _, rfl, rfl, (by show (0 : Int) < (us.length : Int); omega), ?_⟩
            dsimp only [gName, List.set]
            rw [ej0]
            have hjx : j0 < xs.length := by omega
            obtain ⟨b0', eb, ha, la, as, q1, q2, q3, q4⟩ := rA7.2 j0 xs[j0] (List.getElem?_eq_getElem hjx)
            have hxj := hxs j0 hjx
            rw [List.getElem?_eq_getElem hjx] at hxj
            have hx0 := hxb _ (List.getElem_mem hjx)
            obtain ⟨x0, ex0⟩ : ∃ x0, x0 = xs[j0] := ⟨_, rfl⟩
            rw [← ex0] at q2 q4 hxj hx0
            have ex1 : x0 = rowOf (g (j0 + 1)) := Option.some.inj hxj
            refine ⟨_, rfl, _, rfl, R, _, _, .ref b0', rfl, rfl, SqL.of eR7, at_of rfl eb, b0', _, rfl, q1, rfl, _, _, rfl, _, _, rfl, rfl, ?_⟩
            dsimp only [gName, List.set]
            refine ⟨_, rfl, la, _, rfl, .inl (SqL.of q3), fun lo nlo => ?_⟩
            have ulo := same_upd (T := T) (o := HO.lst as) nlo
            have elo : upd H7 lo (.lst as) lo = some (.lst as) := upd_same
            dsimp only [gName, List.set]
            have las : as.length = x0.2.length := by rw [dpa_len q4, List.length_map]
            have lp0 : 0 < as.length := by rw [las]; exact List.length_pos_iff.mpr hx0.1
            obtain ⟨sp, esp, hsp⟩ : ∃ sp : Nat, k1 % (as.length : Int) = (sp : Int) ∧ sp < as.length := by
              have a := Int.emod_nonneg k1 (show ((as.length : Nat) : Int) ≠ 0 by omega)
              have b := Int.emod_lt_of_pos k1 (show (0 : Int) < (as.length : Int) by omega)
              exact ⟨(k1 % (as.length : Int)).toNat, by omega, by omega⟩
            obtain ⟨v1, g1, d1⟩ := dpa_get (dpa_same ulo _ _ q4) (i := sp) (d := amD (x0.2[sp]'(by omega))) (by rw [List.getElem?_map, List.getElem?_eq_getElem (by omega)]; rfl)
            obtain ⟨bs, rfl, sqs⟩ := pd_at d1
            have hy0 := hx0.2.2.2 _ (List.getElem_mem (show sp < x0.2.length by omega))
            refine ⟨_, rfl, _, rfl, _, rfl, lo, _, rfl, .inl (SqL.of elo), _, _, rfl, rfl, (by show (0 : Int) < (as.length : Int); omega), lo, _, _, .ref bs, rfl, rfl, SqL.of elo, (by rw [esp]; exact at_of rfl g1), by show 2 ≤ sizeLine; decide, fun t7 n7 => ?_⟩
            have u7 := same_upd (T := T) (o := HO.tup [V.int 1, V.int 7]) n7
            refine ⟨bs, t7, _, (1, 7), rfl, same_tup u7 sqs, SqT.of upd_same, ⟨hy0.1, bd4 (by decide) (by decide)⟩, ⟨hy0.2, by decide⟩, fun p H8 s8 np8 ep8 => ?_⟩
            have s78 := ulo.trans (u7.trans s8)
            have elo8 := (u7.trans s8).k elo
            refine ⟨_, rfl, _, rfl, _, rfl, lo, _, rfl, .inl (SqL.of elo8), _, _, rfl, rfl, (by show (0 : Int) < (as.length : Int); omega), lo, as, _, sp, rfl, rfl, elo8, (by rw [esp]; exact ixn hsp), ?_⟩
            have s79 := same_mut (o := .lst (as.set sp (.ref p))) s78 nlo elo8
            have elo9 : upd H8 lo (.lst (as.set sp (.ref p))) lo = some (.lst (as.set sp (.ref p))) := upd_same
            obtain ⟨w, ew⟩ : ∃ w, w = plusA (x0.2[sp]'(by omega)) (1, 7) := ⟨_, rfl⟩
            have dlo9 : DpAll K (upd H8 lo (.lst (as.set sp (.ref p)))) (as.set sp (.ref p)) ((x0.2.set sp w).map amD) := dpa_lst elo8 (dpa_setA (dpa_same s78 _ _ q4) (amD_dp (SqT.of (by rw [ew]; exact ep8))) sp)
            have rA9 := rA7.sm s79
            have eR9 := s79.k eR7
            have epa9 := s79.k epa7
            have s09 := s07.trans s79
            have q29 := same_tup s79 q2
            have q39 := s79.k q3
            have q49 := dpa_same s79 _ _ q4
            dsimp only
            clear s79 elo8 s78 ep8 np8 s8 u7 n7 sqs g1 d1 elo ulo nlo rA7 eR7 epa7 s07 q1 q2 q3 q4 eD eb
            generalize upd H8 lo (.lst (as.set sp (.ref p))) = H9 at *
            refine ⟨_, rfl, by show 2 ≤ sizeLine; decide, fun t1 n1 => ?_⟩
            have u1 := same_upd (T := T) (o := HO.tup [V.int 1, V.int 60]) n1
            refine ⟨ha, t1, x0.1, (1, 60), rfl, same_tup u1 q29, SqT.of upd_same, ⟨hx0.2.2.1.1, bd4 (by decide) (by decide)⟩, ⟨hx0.2.2.1.2, by decide⟩, fun p60 H10 s10 np10 ep10 => ?_⟩
            refine ⟨_, rfl, by show 2 ≤ sizeLine; decide, fun r1 nr1 => ?_⟩
            have v1 := same_upd (T := T) (o := HO.tup [V.ref p60, V.ref la]) nr1
            refine ⟨_, rfl, _, rfl, by show 2 ≤ sizeLine; decide, fun r2 nr2 => ?_⟩
            have v2 := same_upd (T := T) (o := HO.tup [V.ref ha, V.ref lo]) nr2
            have s92 := u1.trans (s10.trans (v1.trans v2))
            refine ⟨_, rfl, _, rfl, 1, rfl, la, _, rfl, SqL.of (s92.k q39), fun l5 nl5 => ?_⟩
            have c5 : cutV as (some 1) none = as.drop 1 := cut_drop _ 1 rfl
            rw [c5]
            have v5 := same_upd (T := T) (o := HO.lst (as.drop 1)) nl5
            refine ⟨by show 2 ≤ sizeLine; decide, fun r3 nr3 => ?_⟩
            have v3 := same_upd (T := T) (o := HO.tup [V.ref ha, V.ref l5]) nr3
            refine ⟨by show 3 ≤ sizeLine; decide, fun lb nlb => ?_⟩
            have vb := same_upd (T := T) (o := HO.lst [V.ref r1, V.ref r2, V.ref r3]) nlb
            have s25 := v5.trans (v3.trans vb)
            have s9b := s92.trans s25
            have ra1 : RowAt K _ r1 (plusA x0.1 (1, 60), x0.2) := ⟨p60, la, as, same_tup (v2.trans s25) (SqT.of upd_same), same_tup (v1.trans (v2.trans s25)) (SqT.of ep10), s9b.k q39, dpa_same s9b _ _ q49⟩
            have ra2 : RowAt K _ r2 (x0.1, x0.2.set sp w) := ⟨ha, lo, _, same_tup s25 (SqT.of upd_same), same_tup s9b q29, s9b.k elo9, dpa_same s9b _ _ dlo9⟩
            have ra3 : RowAt K _ r3 (x0.1, x0.2.drop 1) := ⟨ha, l5, _, same_tup vb (SqT.of upd_same), same_tup s9b q29, (v3.trans vb).k upd_same, by rw [List.map_drop]; exact dpa_dropN 1 (dpa_same s9b _ _ q49)⟩
            have elb : upd _ lb (.lst [V.ref r1, V.ref r2, V.ref r3]) lb = some (.lst [V.ref r1, V.ref r2, V.ref r3]) := upd_same (H := upd (upd (upd (upd H10 r1 (.tup [V.ref p60, V.ref la])) r2 (.tup [V.ref ha, V.ref lo])) l5 (.lst (as.drop 1))) r3 (.tup [V.ref ha, V.ref l5])) (a := lb)
            have rAb := rA9.sm s9b
            have eRb := s9b.k eR9
            have epab := s9b.k epa9
            have s0b := s09.trans s9b
            have ne1 : (plusA x0.1 (1, 60), x0.2) ≠ x0 := fun z => by
              have : plusA x0.1 (1, 60) = x0.1 := congrArg Prod.fst z
              rw [ex1] at this
              exact plus_ne _ (q := (1 : Rat) / 60) (by decide +kernel) (by decide +kernel) this
            have ne2 : (x0.1, x0.2.set sp w) ≠ x0 := fun z => by
              have h2 : x0.2.set sp w = x0.2 := congrArg Prod.snd z
              have h3 : w = x0.2[sp]'(by omega) := by
                have this : (x0.2.set sp w)[sp]? = x0.2[sp]? := by rw [h2]
                rw [List.getElem?_set_self (by omega), List.getElem?_eq_getElem (by omega)] at this
                exact Option.some.inj this
              rw [ew] at h3
              have hm : ∀ y ∈ x0.2, ∃ r, am r = y := by
                rw [ex1]
                exact fun y hy => (List.mem_map.mp hy).imp fun r h => h.2
              obtain ⟨r, er⟩ := hm _ (List.getElem_mem (show sp < x0.2.length by omega))
              rw [← er] at h3
              exact plus_ne _ (q := (1 : Rat) / 7) (by decide +kernel) (by decide +kernel) h3
            have ne3 : (x0.1, x0.2.drop 1) ≠ x0 := fun z => by
              have h2 : x0.2.drop 1 = x0.2 := congrArg Prod.snd z
              have := congrArg List.length h2
              rw [List.length_drop] at this
              omega
            have b60 : x0.2.length ≤ 1000 := Nat.le_trans hx0.2.1 (by decide)
            refine ⟨lb, rfl, ⟨_, SqL.of elb⟩, ?_⟩
            have pick : ∀ (t : Nat) (v : V), ([V.ref r1, V.ref r2, V.ref r3] : List V)[t]? = some v → ∃ rr yy, v = .ref rr ∧ RowAt K (upd (upd (upd (upd (upd H10 r1 (.tup [V.ref p60, V.ref la])) r2 (.tup [V.ref ha, V.ref lo])) l5 (.lst (as.drop 1))) r3 (.tup [V.ref ha, V.ref l5])) lb (.lst [V.ref r1, V.ref r2, V.ref r3])) rr yy ∧ yy ≠ x0 ∧ yy.2.length ≤ 1000 := fun t v hv => by
              have : t < 3 := (List.getElem?_eq_some_iff.mp hv).1
              rcases (by omega : t = 0 ∨ t = 1 ∨ t = 2) with rfl | rfl | rfl
              · cases hv; exact ⟨r1, _, rfl, ra1, ne1, b60⟩
              · cases hv; exact ⟨r2, _, rfl, ra2, ne2, by show (x0.2.set sp w).length ≤ 1000; rw [List.length_set]; exact b60⟩
              · cases hv; exact ⟨r3, _, rfl, ra3, ne3, by show (x0.2.drop 1).length ≤ 1000; rw [List.length_drop]; omega⟩
            clear ra1 ra2 ra3 ne1 ne2 ne3 s9b s25 s92 u1 v1 v2 v3 v5 vb s10 q29 q39 q49 dlo9 elo9 rA9 eR9 epa9 s09
            generalize upd (upd (upd (upd (upd H10 r1 (.tup [V.ref p60, V.ref la])) r2 (.tup [V.ref ha, V.ref lo])) l5 (.lst (as.drop 1))) r3 (.tup [V.ref ha, V.ref l5])) lb (.lst [V.ref r1, V.ref r2, V.ref r3]) = Hb at *
            refine for_list (K := K) (a := lb) (xs := [V.ref r1, V.ref r2, V.ref r3]) (fun t σ H' => Sm T Hb H' ∧ ∃ y16, σ = [some (.ref a), some (.int z1), some (.int z2), some (.int z3), some (.int L0), some (.ref hp), some (.ref p9), some (.ref c), y8, some (.ref D2), some (.int L), some (.int j0), some (.int k1), some (.ref ha), some (.ref la), some (.ref lo), y16, none, none, some (.ref pa), some (.ref R), none, none]) ⟨Sm.refl, _, rfl⟩ (fun t σ H' _ z => SqL.of (z.1.k elb)) ?_ ?_
            · rintro t v σ H11 ht ⟨s11, y16, rfl⟩
              obtain ⟨rr, yy, rfl, ry, nry, lyy⟩ := pick t v ht
              have eR11 := s11.k eRb
              refine ⟨_, rfl, _, rfl, _, rfl, _, rfl, j0, rfl, R, _, rfl, SqL.of eR11, fun pA nA => ?_⟩
              rw [show cutV us none (some (j0 : Int)) = us.take j0 from cut_take _ j0 rfl]
              have uA := same_upd (T := T) (o := HO.lst (us.take j0)) nA
              refine ⟨_, rfl, by show 1 ≤ sizeLine; decide, fun pB nB => ?_⟩
              have uB := same_upd (T := T) (o := HO.lst [V.ref rr]) nB
              refine ⟨pA, pB, _, _, rfl, rfl, uB.k upd_same, upd_same, sz (by rw [List.length_take]; show _ + 1 ≤ _; omega), fun pC nC => ?_⟩
              have uC := same_upd (T := T) (o := HO.lst (us.take j0 ++ [V.ref rr])) nC
              have sAC := uA.trans (uB.trans uC)
              refine ⟨_, rfl, _, rfl, _, _, rfl, rfl, (j0 : Int) + 1, rfl, R, _, rfl, SqL.of (sAC.k eR11), fun pD nD => ?_⟩
              rw [show cutV us (some ((j0 : Int) + 1)) none = us.drop (j0 + 1) from cut_drop _ (j0 + 1) (by omega)]
              have uD := same_upd (T := T) (o := HO.lst (us.drop (j0 + 1))) nD
              refine ⟨pC, pD, _, _, rfl, rfl, uD.k upd_same, upd_same, sz (by rw [List.length_append, List.length_take, List.length_drop]; show min j0 us.length + 1 + _ ≤ _; omega), fun pE nE => ?_⟩
              have uE := same_upd (T := T) (o := HO.lst (us.take j0 ++ [V.ref rr] ++ us.drop (j0 + 1))) nE
              have eE : ∀ Hx : Hp, upd Hx pE (.lst (us.take j0 ++ [V.ref rr] ++ us.drop (j0 + 1))) pE = some (.lst (us.set j0 (.ref rr))) := fun Hx => by rw [upd_same, set_cut (by omega)]
              have sE := s11.trans (sAC.trans (uD.trans uE))
              refine ⟨L, pa, zs, pE, us.set j0 (.ref rr), xs.set j0 yy, rfl, SqL.of (sE.k epab), SqL.of (eE _), (rAb.sm sE).set (ry.sm sE) j0, by rw [List.length_set]; omega, fun x hx => ?_, (s0b.trans sE).ok hok, fun _ => ⟨g, gg0, gi, go, fun H12 s12 => ?_⟩, fun wd z => absurd z (by rw [w1]; exact fun z => nomatch z)⟩
              · rcases List.mem_or_eq_of_mem_set hx with hx | rfl
                · exact Nat.le_trans (hxb x hx).2.1 (by decide)
                · exact lyy
              · rw [fault_set hxs hjx (by rw [← ex1]; exact nry)]
                exact ⟨_, rfl, .int j0, .int j0, .int j0, rfl, .int _, .int _, rfl, fun H13 s13 => ⟨_, rfl, iteF ⟨sE.trans (s12.trans s13), _, rfl⟩⟩⟩
            · rintro σ H11 ⟨s11, y16, rfl⟩
              dsimp only
              have eR := s11.k eRb
              have epa := s11.k epab
              have rA := rAb.sm s11
              have s0 := s0b.trans s11
              have xb : ∀ x ∈ xs, x.2.length ≤ 1000 := fun x hx => Nat.le_trans (hxb x hx).2.1 (by decide)
              have nb : ∀ x ∈ ([] : List (Am × List Am)), x.2.length ≤ 1000 := fun x hx => (nomatch hx)
              have rN : ∀ Hx : Hp, RowsAt K Hx [] [] := fun Hx => ⟨rfl, fun i x e => by simp at e⟩
              have wd0 : ordW 0 zs = some ("bad labour" : Str) := if_neg (by decide)
              have wd55 : ordW 55 zs = some ("bad labour" : Str) := if_neg (by decide)
              have wdn : ordW 1 [] = some ("bad count" : Str) := rfl
              have wd5 : ordW 1 [1, 2, 3, 4, 5] = some ("bad count" : Str) := rfl
              have wd13 : ordW 1 (zs.drop 1 ++ [13]) = some ("bad pace" : Str) := bad13 o4 o5
              refine ⟨(s0.ok hok) _ hPT, fun A1 sa1 => ?_⟩
              refine ⟨_, rfl, Nat.zero_le _, fun l0 n0 => ?_⟩
              have u0 := same_upd (T := T) (o := HO.lst []) n0
              have s1 := sa1.trans u0
              refine ⟨0, pa, zs, l0, [], [], rfl, SqL.of (s1.k epa), SqL.of upd_same, rN _, Nat.zero_le _, nb, (s0.trans s1).ok hok, fun z => absurd z (by rw [wd0]; exact fun z => nomatch z), fun wd hwd cls dx B1 sb1 rf => ?_⟩
              obtain rfl : "bad labour" = wd := Option.some.inj (wd0.symm.trans hwd)
              refine ⟨"bad labour", rf, fun t1 n1 => ?_⟩
              have v1 := same_upd (T := T) (o := HO.tup [V.str "bad labour"]) n1
              refine ⟨by show 1 ≤ sizeLine; decide, fun lf nf => ?_⟩
              have v2 := same_upd (T := T) (o := HO.lst [V.ref t1]) nf
              have sA := s1.trans (sb1.trans (v1.trans v2))
              have elf : upd (upd B1 t1 (.tup [V.str "bad labour"])) lf (.lst [V.ref t1]) lf = some (.lst [V.ref t1]) := upd_same
              have dlf : DpAll K (upd (upd B1 t1 (.tup [V.str "bad labour"])) lf (.lst [V.ref t1])) [V.ref t1] [.tuple [.str "bad labour"]] := .cons (.tup (same_tup v2 (SqT.of upd_same)) (.cons (.str _) .nil)) .nil
              have fz : H11 lf = none := (s1.trans (sb1.trans v1)).free _ nf
              dsimp only [gName, List.set]
              clear v1 v2 u0 s1 sa1 sb1 n0 n1 nf rf hwd
              generalize upd (upd B1 t1 (.tup [V.str "bad labour"])) lf (.lst [V.ref t1]) = H12 at *
              have sz1 := sA
              clear sA
              refine ⟨_, rfl, .inl ⟨rfl, _, SqL.of elf⟩, ((s0.trans sz1).ok hok) _ hPT, fun A1 sa1 => ?_⟩
              refine ⟨_, rfl, _, rfl, ?_⟩
              refine ⟨55, pa, zs, R, us, xs, rfl, SqL.of ((sz1.trans sa1).k epa), SqL.of ((sz1.trans sa1).k eR), rA.sm (sz1.trans sa1), by omega, xb, (s0.trans (sz1.trans sa1)).ok hok, fun z => absurd z (by rw [wd55]; exact fun z => nomatch z), fun wd hwd cls dx B1 sb1 rf => ?_⟩
              obtain rfl : "bad labour" = wd := Option.some.inj (wd55.symm.trans hwd)
              refine ⟨"bad labour", rf, fun t2 n1 => ?_⟩
              have v1 := same_upd (T := T) (o := HO.tup [V.str "bad labour"]) n1
              have sA := (sa1).trans (sb1.trans v1)
              have elf2 := sA.k elf
              refine ⟨lf, _, _, rfl, rfl, elf2, szl (by show 1 < 10000; decide), ?_⟩
              have sz2 := same_mut (o := .lst [V.ref t1, V.ref t2]) (sz1.trans sA) fz elf2
              have x2 : Sx T [lf] _ _ := sx_upd (T := T) (S := [lf]) (o := .lst [V.ref t1, V.ref t2]) elf2 rfl (by simp)
              replace dlf : DpAll K _ [V.ref t1, V.ref t2] [.tuple [.str "bad labour"], .tuple [.str "bad labour"]] := x2.dps 3 _ _ rfl (dpa_app (dpa_same sA _ _ dlf) (.cons (.tup (SqT.of (xs := [V.str "bad labour"]) upd_same) (.cons (.str _) .nil)) .nil))
              replace elf : upd (upd B1 t2 (.tup [V.str "bad labour"])) lf (.lst [V.ref t1, V.ref t2]) lf = some (.lst [V.ref t1, V.ref t2]) := upd_same
              change tSeq _ _ _ _ (upd (upd B1 t2 (.tup [V.str "bad labour"])) lf (.lst [V.ref t1, V.ref t2]))
              clear elf2 x2 sA v1 n1 rf sb1 hwd sa1
              generalize upd (upd B1 t2 (.tup [V.str "bad labour"])) lf (.lst [V.ref t1, V.ref t2]) = G2 at *
              refine ⟨_, rfl, .inl ⟨rfl, _, SqL.of elf⟩, ((s0.trans sz2).ok hok) _ hPT, fun A1 sa1 => ?_⟩
              refine ⟨Nat.zero_le _, fun l0 n0 => ?_⟩
              have u0 := same_upd (T := T) (o := HO.lst []) n0
              refine ⟨_, rfl, ?_⟩
              refine ⟨1, l0, [], R, us, xs, rfl, SqL.of upd_same, SqL.of ((sz2.trans (sa1.trans u0)).k eR), rA.sm (sz2.trans (sa1.trans u0)), by omega, xb, (s0.trans (sz2.trans (sa1.trans u0))).ok hok, fun z => absurd z (by rw [wdn]; exact fun z => nomatch z), fun wd hwd cls dx B1 sb1 rf => ?_⟩
              obtain rfl : "bad count" = wd := Option.some.inj (wdn.symm.trans hwd)
              refine ⟨"bad count", rf, fun t3 n1 => ?_⟩
              have v1 := same_upd (T := T) (o := HO.tup [V.str "bad count"]) n1
              have sA := ((sa1.trans u0)).trans (sb1.trans v1)
              have elf2 := sA.k elf
              refine ⟨lf, _, _, rfl, rfl, elf2, szl (by show 2 < 10000; decide), ?_⟩
              have sz3 := same_mut (o := .lst [V.ref t1, V.ref t2, V.ref t3]) (sz2.trans sA) fz elf2
              have x3 : Sx T [lf] _ _ := sx_upd (T := T) (S := [lf]) (o := .lst [V.ref t1, V.ref t2, V.ref t3]) elf2 rfl (by simp)
              replace dlf : DpAll K _ [V.ref t1, V.ref t2, V.ref t3] [.tuple [.str "bad labour"], .tuple [.str "bad labour"], .tuple [.str "bad count"]] := x3.dps 3 _ _ rfl (dpa_app (dpa_same sA _ _ dlf) (.cons (.tup (SqT.of (xs := [V.str "bad count"]) upd_same) (.cons (.str _) .nil)) .nil))
              replace elf : upd (upd B1 t3 (.tup [V.str "bad count"])) lf (.lst [V.ref t1, V.ref t2, V.ref t3]) lf = some (.lst [V.ref t1, V.ref t2, V.ref t3]) := upd_same
              change tSeq _ _ _ _ (upd (upd B1 t3 (.tup [V.str "bad count"])) lf (.lst [V.ref t1, V.ref t2, V.ref t3]))
              clear elf2 x3 sA v1 n1 rf sb1 hwd sa1
              generalize upd (upd B1 t3 (.tup [V.str "bad count"])) lf (.lst [V.ref t1, V.ref t2, V.ref t3]) = G3 at *
              clear u0 n0
              refine ⟨_, rfl, .inl ⟨rfl, _, SqL.of elf⟩, ((s0.trans sz3).ok hok) _ hPT, fun A1 sa1 => ?_⟩
              refine ⟨by show 5 ≤ sizeLine; decide, fun l0 n0 => ⟨Nat.zero_le _, fun l1' n1' => ?_⟩⟩
              have u0 := same_upd (T := T) (o := HO.lst [V.int 1, V.int 2, V.int 3, V.int 4, V.int 5]) n0
              have u1 := same_upd (T := T) (o := HO.lst []) n1'
              refine ⟨1, l0, [1, 2, 3, 4, 5], l1', [], [], rfl, SqL.of (u1.k upd_same), SqL.of upd_same, rN _, Nat.zero_le _, nb, (s0.trans (sz3.trans (sa1.trans (u0.trans u1)))).ok hok, fun z => absurd z (by rw [wd5]; exact fun z => nomatch z), fun wd hwd cls dx B1 sb1 rf => ?_⟩
              obtain rfl : "bad count" = wd := Option.some.inj (wd5.symm.trans hwd)
              refine ⟨"bad count", rf, fun t4 n1 => ?_⟩
              have v1 := same_upd (T := T) (o := HO.tup [V.str "bad count"]) n1
              have sA := ((sa1.trans (u0.trans u1))).trans (sb1.trans v1)
              have elf2 := sA.k elf
              refine ⟨lf, _, _, rfl, rfl, elf2, szl (by show 3 < 10000; decide), ?_⟩
              have sz4 := same_mut (o := .lst [V.ref t1, V.ref t2, V.ref t3, V.ref t4]) (sz3.trans sA) fz elf2
              have x4 : Sx T [lf] _ _ := sx_upd (T := T) (S := [lf]) (o := .lst [V.ref t1, V.ref t2, V.ref t3, V.ref t4]) elf2 rfl (by simp)
              replace dlf : DpAll K _ [V.ref t1, V.ref t2, V.ref t3, V.ref t4] [.tuple [.str "bad labour"], .tuple [.str "bad labour"], .tuple [.str "bad count"], .tuple [.str "bad count"]] := x4.dps 3 _ _ rfl (dpa_app (dpa_same sA _ _ dlf) (.cons (.tup (SqT.of (xs := [V.str "bad count"]) upd_same) (.cons (.str _) .nil)) .nil))
              replace elf : upd (upd B1 t4 (.tup [V.str "bad count"])) lf (.lst [V.ref t1, V.ref t2, V.ref t3, V.ref t4]) lf = some (.lst [V.ref t1, V.ref t2, V.ref t3, V.ref t4]) := upd_same
              change tSeq _ _ _ _ (upd (upd B1 t4 (.tup [V.str "bad count"])) lf (.lst [V.ref t1, V.ref t2, V.ref t3, V.ref t4]))
              clear elf2 x4 sA v1 n1 rf sb1 hwd sa1
              generalize upd (upd B1 t4 (.tup [V.str "bad count"])) lf (.lst [V.ref t1, V.ref t2, V.ref t3, V.ref t4]) = G4 at *
              clear u0 n0 u1 n1'
              refine ⟨_, rfl, .inl ⟨rfl, _, SqL.of elf⟩, ((s0.trans sz4).ok hok) _ hPT, fun A1 sa1 => ?_⟩
              refine ⟨_, rfl, 1, rfl, pa, _, rfl, SqL.of ((sz4.trans sa1).k epa), fun l0 n0 => ?_⟩
              rw [show cutV (zs.map V.int) (some 1) none = (zs.map V.int).drop 1 from cut_drop _ 1 rfl]
              have u0 := same_upd (T := T) (o := HO.lst ((zs.map V.int).drop 1)) n0
              refine ⟨by show 1 ≤ sizeLine; decide, fun l2 n2 => ?_⟩
              have u2 := same_upd (T := T) (o := HO.lst [V.int 13]) n2
              refine ⟨l0, l2, _, _, rfl, rfl, u2.k upd_same, upd_same, sz (by rw [List.length_drop, List.length_map]; show _ + 1 ≤ _; omega), fun l3 n3 => ?_⟩
              have u3 := same_upd (T := T) (o := HO.lst ((zs.map V.int).drop 1 ++ [V.int 13])) n3
              refine ⟨Nat.zero_le _, fun l1' n1' => ?_⟩
              have u1 := same_upd (T := T) (o := HO.lst []) n1'
              have e3 : ∀ Hx : Hp, upd Hx l3 (.lst ((zs.map V.int).drop 1 ++ [V.int 13])) l3 = some (.lst ((zs.drop 1 ++ [13]).map V.int)) := fun Hx => by rw [upd_same, List.map_append, List.map_drop]; rfl
              have u03 := u0.trans (u2.trans u3)
              refine ⟨1, l3, zs.drop 1 ++ [13], l1', [], [], rfl, SqL.of (u1.k (e3 _)), SqL.of upd_same, rN _, Nat.zero_le _, nb, (s0.trans (sz4.trans (sa1.trans (u03.trans u1)))).ok hok, fun z => absurd z (by rw [wd13]; exact fun z => nomatch z), fun wd hwd cls dx B1 sb1 rf => ?_⟩
              obtain rfl : "bad pace" = wd := Option.some.inj (wd13.symm.trans hwd)
              refine ⟨"bad pace", rf, fun t5 n1 => ?_⟩
              have v1 := same_upd (T := T) (o := HO.tup [V.str "bad pace"]) n1
              have sA := ((sa1.trans (u03.trans u1))).trans (sb1.trans v1)
              have elf2 := sA.k elf
              refine ⟨lf, _, _, rfl, rfl, elf2, szl (by show 4 < 10000; decide), ?_⟩
              have sz5 := same_mut (o := .lst [V.ref t1, V.ref t2, V.ref t3, V.ref t4, V.ref t5]) (sz4.trans sA) fz elf2
              have x5 : Sx T [lf] _ _ := sx_upd (T := T) (S := [lf]) (o := .lst [V.ref t1, V.ref t2, V.ref t3, V.ref t4, V.ref t5]) elf2 rfl (by simp)
              replace dlf : DpAll K _ [V.ref t1, V.ref t2, V.ref t3, V.ref t4, V.ref t5] [.tuple [.str "bad labour"], .tuple [.str "bad labour"], .tuple [.str "bad count"], .tuple [.str "bad count"], .tuple [.str "bad pace"]] := x5.dps 3 _ _ rfl (dpa_app (dpa_same sA _ _ dlf) (.cons (.tup (SqT.of (xs := [V.str "bad pace"]) upd_same) (.cons (.str _) .nil)) .nil))
              replace elf : upd (upd B1 t5 (.tup [V.str "bad pace"])) lf (.lst [V.ref t1, V.ref t2, V.ref t3, V.ref t4, V.ref t5]) lf = some (.lst [V.ref t1, V.ref t2, V.ref t3, V.ref t4, V.ref t5]) := upd_same
              change tSeq _ _ _ _ (upd (upd B1 t5 (.tup [V.str "bad pace"])) lf (.lst [V.ref t1, V.ref t2, V.ref t3, V.ref t4, V.ref t5]))
              clear elf2 x5 sA v1 n1 rf sb1 hwd sa1
              generalize upd (upd B1 t5 (.tup [V.str "bad pace"])) lf (.lst [V.ref t1, V.ref t2, V.ref t3, V.ref t4, V.ref t5]) = G5 at *
              clear u0 n0 u1 n1' u2 n2 u3 n3 e3 u03
              refine ⟨by show 1 ≤ sizeLine; decide, fun d1 m1 => ⟨by show 1 ≤ sizeLine; decide, fun d2 m2 => ⟨by show 1 ≤ sizeLine; decide, fun d3 m3 => ⟨by show 1 ≤ sizeLine; decide, fun d4 m4 => ⟨by show 1 ≤ sizeLine; decide, fun d5 m5 => ⟨by show 5 ≤ sizeLine; decide, fun ld nld => ?_⟩⟩⟩⟩⟩⟩
              have y1 := same_upd (T := T) (o := HO.tup [V.str "bad labour"]) m1
              have y2 := same_upd (T := T) (o := HO.tup [V.str "bad labour"]) m2
              have y3 := same_upd (T := T) (o := HO.tup [V.str "bad count"]) m3
              have y4 := same_upd (T := T) (o := HO.tup [V.str "bad count"]) m4
              have y5 := same_upd (T := T) (o := HO.tup [V.str "bad pace"]) m5
              have yl := same_upd (T := T) (o := HO.lst [V.ref d1, V.ref d2, V.ref d3, V.ref d4, V.ref d5]) nld
              have sY := y1.trans (y2.trans (y3.trans (y4.trans (y5.trans (yl)))))
              dsimp only [gName, List.set]
              exact ⟨_, rfl, _, rfl, .ref lf, .ref ld, .list [.tuple [.str "bad labour"], .tuple [.str "bad labour"], .tuple [.str "bad count"], .tuple [.str "bad count"], .tuple [.str "bad pace"]], rfl, .lst (SqL.of (sY.k elf)) (dpa_same sY _ _ dlf), .lst (SqL.of upd_same) (.cons (.tup (same_tup (y2.trans (y3.trans (y4.trans (y5.trans yl)))) (SqT.of (xs := [V.str "bad labour"]) upd_same)) (.cons (.str _) .nil)) (.cons (.tup (same_tup (y3.trans (y4.trans (y5.trans yl))) (SqT.of (xs := [V.str "bad labour"]) upd_same)) (.cons (.str _) .nil)) (.cons (.tup (same_tup (y4.trans (y5.trans yl)) (SqT.of (xs := [V.str "bad count"]) upd_same)) (.cons (.str _) .nil)) (.cons (.tup (same_tup (y5.trans yl) (SqT.of (xs := [V.str "bad count"]) upd_same)) (.cons (.str _) .nil)) (.cons (.tup (same_tup (yl) (SqT.of (xs := [V.str "bad pace"]) upd_same)) (.cons (.str _) .nil)) (.nil)))))), rfl, fun H9 s9 => q H9⟩

end
set_option maxHeartbeats 0
abbrev hrT (K : PySem.W.Frag) : Tb := [((He.cT K (("is_name", none))).2, none), ((He.cT K (("is_stretch", none))).2, none), ((He.cT K (("labour", none))).2, none), ((He.cT K (("is_told", none))).2, none), ((He.cT K (("law", none))).2, some (("law" : Str) ++ ".<locals>." ++ "<lambda>"))]
abbrev hrCs (K : PySem.W.Frag) : List (Addr × Addr) := [((He.cT K (("is_name", none))).1, (He.cT K (("is_name", none))).2), ((He.cT K (("is_stretch", none))).1, (He.cT K (("is_stretch", none))).2), ((He.cT K (("labour", none))).1, (He.cT K (("labour", none))).2), ((He.cT K (("is_told", none))).1, (He.cT K (("is_told", none))).2), ((He.cT K (("law", none))).1, (He.cT K (("law", none))).2)]
theorem hrT_nd {w : World} {K : PySem.W.Frag} {h : Heap} {mg : Str → Option Value} (X : K.In h) (G : h.Ns mainGlobals mg) (c : HrSays hrFx hrFn hrTf hrTs w h K) : ((hrT K).map (·.1)).Nodup := hrNod_ok (c.f (f := .nod hrTf) 134 rfl)
theorem cK_TC {w : World} {K : PySem.W.Frag} {h : Heap} {mg : Str → Option Value} {P : Program} (X : K.In h) (G : h.Ns mainGlobals mg) (c : HrSays hrFx hrFn hrTf hrTs w h K) : Kl K (He.ga K "Chain") := by
  have clCC : Cls K (He.ga K "Chain") := He.cls_ok (c.g 1 rfl)
  have nFCC_fire : PySem.W.findIn K (.ref (He.ga K "Chain")) "fire" = some none := He.noat_ok (c.g 3 rfl)
  have nFCC_stretches : PySem.W.findIn K (.ref (He.ga K "Chain")) "stretches" = some none := He.noat_ok (c.g 4 rfl)
  have nFCC_now : PySem.W.findIn K (.ref (He.ga K "Chain")) "now" = some none := He.noat_ok (c.g 5 rfl)
  have nFCC_row : PySem.W.findIn K (.ref (He.ga K "Chain")) "row" = some none := He.noat_ok (c.g 6 rfl)
  have nFCC_loads : PySem.W.findIn K (.ref (He.ga K "Chain")) "loads" = some none := He.noat_ok (c.g 7 rfl)
  have nFCC_spots : PySem.W.findIn K (.ref (He.ga K "Chain")) "spots" = some none := He.noat_ok (c.g 8 rfl)
  have nFCC_tempos : PySem.W.findIn K (.ref (He.ga K "Chain")) "tempos" = some none := He.noat_ok (c.g 9 rfl)
  have nFCC_leaving : PySem.W.findIn K (.ref (He.ga K "Chain")) "leaving" = some none := He.noat_ok (c.g 10 rfl)
  have nFCC_ledgers : PySem.W.findIn K (.ref (He.ga K "Chain")) "ledgers" = some none := He.noat_ok (c.g 11 rfl)
  have nFCC_marks : PySem.W.findIn K (.ref (He.ga K "Chain")) "marks" = some none := He.noat_ok (c.g 12 rfl)
  have nFCC_poured : PySem.W.findIn K (.ref (He.ga K "Chain")) "poured" = some none := He.noat_ok (c.g 13 rfl)
  exact ⟨clCC, fun f hf => by
    simp only [FLD, List.mem_cons, List.not_mem_nil, or_false] at hf
    rcases hf with rfl | rfl | rfl | rfl | rfl | rfl | rfl | rfl | rfl | rfl | rfl <;> assumption⟩
theorem cR_BadWay {w : World} {K : PySem.W.Frag} {h : Heap} {mg : Str → Option Value} {P : Program} (X : K.In h) (G : h.Ns mainGlobals mg) (c : HrSays hrFx hrFn hrTf hrTs w h K) {base : Heap} : Err P w K mg base (He.ga K "PailError") "BadWay" "bad way" := by
  have aCP : mg "PailError" = some (.ref (He.ga K "PailError")) := (He.glo_ok X G (c.g 76 rfl))
  obtain ⟨rdP, gaP, a100, e1P, e2P, e3P, vV⟩ := hrBase_ok (C := (He.ga K "PailError")) (c.f (f := .base "PailError") 77 rfl)
  obtain ⟨fd100, T100⟩ := c.fun_ (x := "__init__") (q := "PailError.__init__") (st := s_p_PailError___init__) (p := ("PailError", some "__init__")) 63 rfl
  have b100 := T100.binds (ps := ["self", "word"]) fun _ _ _ _ _ _ us hl => match us, hl with | [_, _], _ => rfl
  have okP := ok_PailError (P := P) (w := w) (mg := mg) (base := base) T100 (He.free_ok X G (c.g 78 rfl)) vV
  have aC101 : mg "BadWay" = some (.ref (He.ga K "BadWay")) := (He.glo_ok X G (c.g 79 rfl))
  obtain ⟨xO101, xF101, xW101, xS101, xT101⟩ := hrErr_ok (CP := (He.ga K "PailError")) (C := (He.ga K "BadWay")) (c.f (f := .err "PailError" "BadWay") 80 rfl)
  have a101 : Meth K (He.ga K "BadWay") "__init__" (He.ma K (He.ga K "BadWay") "__init__") := He.meth_ok (c.g 81 rfl)
  obtain ⟨fd101, T101⟩ := c.fun_ (x := "__init__") (q := "BadWay.__init__") (st := s_p_BadWay___init__) (p := ("BadWay", some "__init__")) 64 rfl
  have b101 := T101.binds (ps := ["self"]) fun _ _ _ _ _ _ us hl => match us, hl with | [_], _ => rfl
  exact ⟨⟨(He.ga K "BadWay"), _, _, aC101, xO101, xF101, xW101, exm_of e1P e2P e3P xS101, a101.1, xT101, ok_BadWay T101 ⟨rdP, gaP⟩ a100 okP aCP T100.kp b100, b101⟩⟩
theorem cR_BadName {w : World} {K : PySem.W.Frag} {h : Heap} {mg : Str → Option Value} {P : Program} (X : K.In h) (G : h.Ns mainGlobals mg) (c : HrSays hrFx hrFn hrTf hrTs w h K) {base : Heap} : Err P w K mg base (He.ga K "PailError") "BadName" "bad name" := by
  have aCP : mg "PailError" = some (.ref (He.ga K "PailError")) := (He.glo_ok X G (c.g 76 rfl))
  obtain ⟨rdP, gaP, a100, e1P, e2P, e3P, vV⟩ := hrBase_ok (C := (He.ga K "PailError")) (c.f (f := .base "PailError") 77 rfl)
  obtain ⟨fd100, T100⟩ := c.fun_ (x := "__init__") (q := "PailError.__init__") (st := s_p_PailError___init__) (p := ("PailError", some "__init__")) 63 rfl
  have b100 := T100.binds (ps := ["self", "word"]) fun _ _ _ _ _ _ us hl => match us, hl with | [_, _], _ => rfl
  have okP := ok_PailError (P := P) (w := w) (mg := mg) (base := base) T100 (He.free_ok X G (c.g 78 rfl)) vV
  have aC102 : mg "BadName" = some (.ref (He.ga K "BadName")) := (He.glo_ok X G (c.g 82 rfl))
  obtain ⟨xO102, xF102, xW102, xS102, xT102⟩ := hrErr_ok (CP := (He.ga K "PailError")) (C := (He.ga K "BadName")) (c.f (f := .err "PailError" "BadName") 83 rfl)
  have a102 : Meth K (He.ga K "BadName") "__init__" (He.ma K (He.ga K "BadName") "__init__") := He.meth_ok (c.g 84 rfl)
  obtain ⟨fd102, T102⟩ := c.fun_ (x := "__init__") (q := "BadName.__init__") (st := s_p_BadName___init__) (p := ("BadName", some "__init__")) 65 rfl
  have b102 := T102.binds (ps := ["self"]) fun _ _ _ _ _ _ us hl => match us, hl with | [_], _ => rfl
  exact ⟨⟨(He.ga K "BadName"), _, _, aC102, xO102, xF102, xW102, exm_of e1P e2P e3P xS102, a102.1, xT102, ok_BadName T102 ⟨rdP, gaP⟩ a100 okP aCP T100.kp b100, b102⟩⟩
theorem cR_Taken {w : World} {K : PySem.W.Frag} {h : Heap} {mg : Str → Option Value} {P : Program} (X : K.In h) (G : h.Ns mainGlobals mg) (c : HrSays hrFx hrFn hrTf hrTs w h K) {base : Heap} : Err P w K mg base (He.ga K "PailError") "Taken" "taken" := by
  have aCP : mg "PailError" = some (.ref (He.ga K "PailError")) := (He.glo_ok X G (c.g 76 rfl))
  obtain ⟨rdP, gaP, a100, e1P, e2P, e3P, vV⟩ := hrBase_ok (C := (He.ga K "PailError")) (c.f (f := .base "PailError") 77 rfl)
  obtain ⟨fd100, T100⟩ := c.fun_ (x := "__init__") (q := "PailError.__init__") (st := s_p_PailError___init__) (p := ("PailError", some "__init__")) 63 rfl
  have b100 := T100.binds (ps := ["self", "word"]) fun _ _ _ _ _ _ us hl => match us, hl with | [_, _], _ => rfl
  have okP := ok_PailError (P := P) (w := w) (mg := mg) (base := base) T100 (He.free_ok X G (c.g 78 rfl)) vV
  have aC103 : mg "Taken" = some (.ref (He.ga K "Taken")) := (He.glo_ok X G (c.g 85 rfl))
  obtain ⟨xO103, xF103, xW103, xS103, xT103⟩ := hrErr_ok (CP := (He.ga K "PailError")) (C := (He.ga K "Taken")) (c.f (f := .err "PailError" "Taken") 86 rfl)
  have a103 : Meth K (He.ga K "Taken") "__init__" (He.ma K (He.ga K "Taken") "__init__") := He.meth_ok (c.g 87 rfl)
  obtain ⟨fd103, T103⟩ := c.fun_ (x := "__init__") (q := "Taken.__init__") (st := s_p_Taken___init__) (p := ("Taken", some "__init__")) 66 rfl
  have b103 := T103.binds (ps := ["self"]) fun _ _ _ _ _ _ us hl => match us, hl with | [_], _ => rfl
  exact ⟨⟨(He.ga K "Taken"), _, _, aC103, xO103, xF103, xW103, exm_of e1P e2P e3P xS103, a103.1, xT103, ok_Taken T103 ⟨rdP, gaP⟩ a100 okP aCP T100.kp b100, b103⟩⟩
theorem cR_BadPace {w : World} {K : PySem.W.Frag} {h : Heap} {mg : Str → Option Value} {P : Program} (X : K.In h) (G : h.Ns mainGlobals mg) (c : HrSays hrFx hrFn hrTf hrTs w h K) {base : Heap} : Err P w K mg base (He.ga K "PailError") "BadPace" "bad pace" := by
  have aCP : mg "PailError" = some (.ref (He.ga K "PailError")) := (He.glo_ok X G (c.g 76 rfl))
  obtain ⟨rdP, gaP, a100, e1P, e2P, e3P, vV⟩ := hrBase_ok (C := (He.ga K "PailError")) (c.f (f := .base "PailError") 77 rfl)
  obtain ⟨fd100, T100⟩ := c.fun_ (x := "__init__") (q := "PailError.__init__") (st := s_p_PailError___init__) (p := ("PailError", some "__init__")) 63 rfl
  have b100 := T100.binds (ps := ["self", "word"]) fun _ _ _ _ _ _ us hl => match us, hl with | [_, _], _ => rfl
  have okP := ok_PailError (P := P) (w := w) (mg := mg) (base := base) T100 (He.free_ok X G (c.g 78 rfl)) vV
  have aC104 : mg "BadPace" = some (.ref (He.ga K "BadPace")) := (He.glo_ok X G (c.g 88 rfl))
  obtain ⟨xO104, xF104, xW104, xS104, xT104⟩ := hrErr_ok (CP := (He.ga K "PailError")) (C := (He.ga K "BadPace")) (c.f (f := .err "PailError" "BadPace") 89 rfl)
  have a104 : Meth K (He.ga K "BadPace") "__init__" (He.ma K (He.ga K "BadPace") "__init__") := He.meth_ok (c.g 90 rfl)
  obtain ⟨fd104, T104⟩ := c.fun_ (x := "__init__") (q := "BadPace.__init__") (st := s_p_BadPace___init__) (p := ("BadPace", some "__init__")) 67 rfl
  have b104 := T104.binds (ps := ["self"]) fun _ _ _ _ _ _ us hl => match us, hl with | [_], _ => rfl
  exact ⟨⟨(He.ga K "BadPace"), _, _, aC104, xO104, xF104, xW104, exm_of e1P e2P e3P xS104, a104.1, xT104, ok_BadPace T104 ⟨rdP, gaP⟩ a100 okP aCP T100.kp b100, b104⟩⟩
theorem cR_Full {w : World} {K : PySem.W.Frag} {h : Heap} {mg : Str → Option Value} {P : Program} (X : K.In h) (G : h.Ns mainGlobals mg) (c : HrSays hrFx hrFn hrTf hrTs w h K) {base : Heap} : Err P w K mg base (He.ga K "PailError") "Full" "full" := by
  have aCP : mg "PailError" = some (.ref (He.ga K "PailError")) := (He.glo_ok X G (c.g 76 rfl))
  obtain ⟨rdP, gaP, a100, e1P, e2P, e3P, vV⟩ := hrBase_ok (C := (He.ga K "PailError")) (c.f (f := .base "PailError") 77 rfl)
  obtain ⟨fd100, T100⟩ := c.fun_ (x := "__init__") (q := "PailError.__init__") (st := s_p_PailError___init__) (p := ("PailError", some "__init__")) 63 rfl
  have b100 := T100.binds (ps := ["self", "word"]) fun _ _ _ _ _ _ us hl => match us, hl with | [_, _], _ => rfl
  have okP := ok_PailError (P := P) (w := w) (mg := mg) (base := base) T100 (He.free_ok X G (c.g 78 rfl)) vV
  have aC105 : mg "Full" = some (.ref (He.ga K "Full")) := (He.glo_ok X G (c.g 91 rfl))
  obtain ⟨xO105, xF105, xW105, xS105, xT105⟩ := hrErr_ok (CP := (He.ga K "PailError")) (C := (He.ga K "Full")) (c.f (f := .err "PailError" "Full") 92 rfl)
  have a105 : Meth K (He.ga K "Full") "__init__" (He.ma K (He.ga K "Full") "__init__") := He.meth_ok (c.g 93 rfl)
  obtain ⟨fd105, T105⟩ := c.fun_ (x := "__init__") (q := "Full.__init__") (st := s_p_Full___init__) (p := ("Full", some "__init__")) 68 rfl
  have b105 := T105.binds (ps := ["self"]) fun _ _ _ _ _ _ us hl => match us, hl with | [_], _ => rfl
  exact ⟨⟨(He.ga K "Full"), _, _, aC105, xO105, xF105, xW105, exm_of e1P e2P e3P xS105, a105.1, xT105, ok_Full T105 ⟨rdP, gaP⟩ a100 okP aCP T100.kp b100, b105⟩⟩
theorem cR_NoHand {w : World} {K : PySem.W.Frag} {h : Heap} {mg : Str → Option Value} {P : Program} (X : K.In h) (G : h.Ns mainGlobals mg) (c : HrSays hrFx hrFn hrTf hrTs w h K) {base : Heap} : Err P w K mg base (He.ga K "PailError") "NoHand" "no hand" := by
  have aCP : mg "PailError" = some (.ref (He.ga K "PailError")) := (He.glo_ok X G (c.g 76 rfl))
  obtain ⟨rdP, gaP, a100, e1P, e2P, e3P, vV⟩ := hrBase_ok (C := (He.ga K "PailError")) (c.f (f := .base "PailError") 77 rfl)
  obtain ⟨fd100, T100⟩ := c.fun_ (x := "__init__") (q := "PailError.__init__") (st := s_p_PailError___init__) (p := ("PailError", some "__init__")) 63 rfl
  have b100 := T100.binds (ps := ["self", "word"]) fun _ _ _ _ _ _ us hl => match us, hl with | [_, _], _ => rfl
  have okP := ok_PailError (P := P) (w := w) (mg := mg) (base := base) T100 (He.free_ok X G (c.g 78 rfl)) vV
  have aC106 : mg "NoHand" = some (.ref (He.ga K "NoHand")) := (He.glo_ok X G (c.g 94 rfl))
  obtain ⟨xO106, xF106, xW106, xS106, xT106⟩ := hrErr_ok (CP := (He.ga K "PailError")) (C := (He.ga K "NoHand")) (c.f (f := .err "PailError" "NoHand") 95 rfl)
  have a106 : Meth K (He.ga K "NoHand") "__init__" (He.ma K (He.ga K "NoHand") "__init__") := He.meth_ok (c.g 96 rfl)
  obtain ⟨fd106, T106⟩ := c.fun_ (x := "__init__") (q := "NoHand.__init__") (st := s_p_NoHand___init__) (p := ("NoHand", some "__init__")) 69 rfl
  have b106 := T106.binds (ps := ["self"]) fun _ _ _ _ _ _ us hl => match us, hl with | [_], _ => rfl
  exact ⟨⟨(He.ga K "NoHand"), _, _, aC106, xO106, xF106, xW106, exm_of e1P e2P e3P xS106, a106.1, xT106, ok_NoHand T106 ⟨rdP, gaP⟩ a100 okP aCP T100.kp b100, b106⟩⟩
theorem cR_BadCount {w : World} {K : PySem.W.Frag} {h : Heap} {mg : Str → Option Value} {P : Program} (X : K.In h) (G : h.Ns mainGlobals mg) (c : HrSays hrFx hrFn hrTf hrTs w h K) {base : Heap} : Err P w K mg base (He.ga K "PailError") "BadCount" "bad count" := by
  have aCP : mg "PailError" = some (.ref (He.ga K "PailError")) := (He.glo_ok X G (c.g 76 rfl))
  obtain ⟨rdP, gaP, a100, e1P, e2P, e3P, vV⟩ := hrBase_ok (C := (He.ga K "PailError")) (c.f (f := .base "PailError") 77 rfl)
  obtain ⟨fd100, T100⟩ := c.fun_ (x := "__init__") (q := "PailError.__init__") (st := s_p_PailError___init__) (p := ("PailError", some "__init__")) 63 rfl
  have b100 := T100.binds (ps := ["self", "word"]) fun _ _ _ _ _ _ us hl => match us, hl with | [_, _], _ => rfl
  have okP := ok_PailError (P := P) (w := w) (mg := mg) (base := base) T100 (He.free_ok X G (c.g 78 rfl)) vV
  have aC107 : mg "BadCount" = some (.ref (He.ga K "BadCount")) := (He.glo_ok X G (c.g 97 rfl))
  obtain ⟨xO107, xF107, xW107, xS107, xT107⟩ := hrErr_ok (CP := (He.ga K "PailError")) (C := (He.ga K "BadCount")) (c.f (f := .err "PailError" "BadCount") 98 rfl)
  have a107 : Meth K (He.ga K "BadCount") "__init__" (He.ma K (He.ga K "BadCount") "__init__") := He.meth_ok (c.g 99 rfl)
  obtain ⟨fd107, T107⟩ := c.fun_ (x := "__init__") (q := "BadCount.__init__") (st := s_p_BadCount___init__) (p := ("BadCount", some "__init__")) 70 rfl
  have b107 := T107.binds (ps := ["self"]) fun _ _ _ _ _ _ us hl => match us, hl with | [_], _ => rfl
  exact ⟨⟨(He.ga K "BadCount"), _, _, aC107, xO107, xF107, xW107, exm_of e1P e2P e3P xS107, a107.1, xT107, ok_BadCount T107 ⟨rdP, gaP⟩ a100 okP aCP T100.kp b100, b107⟩⟩
theorem cR_Nobody {w : World} {K : PySem.W.Frag} {h : Heap} {mg : Str → Option Value} {P : Program} (X : K.In h) (G : h.Ns mainGlobals mg) (c : HrSays hrFx hrFn hrTf hrTs w h K) {base : Heap} : Err P w K mg base (He.ga K "PailError") "Nobody" "nobody" := by
  have aCP : mg "PailError" = some (.ref (He.ga K "PailError")) := (He.glo_ok X G (c.g 76 rfl))
  obtain ⟨rdP, gaP, a100, e1P, e2P, e3P, vV⟩ := hrBase_ok (C := (He.ga K "PailError")) (c.f (f := .base "PailError") 77 rfl)
  obtain ⟨fd100, T100⟩ := c.fun_ (x := "__init__") (q := "PailError.__init__") (st := s_p_PailError___init__) (p := ("PailError", some "__init__")) 63 rfl
  have b100 := T100.binds (ps := ["self", "word"]) fun _ _ _ _ _ _ us hl => match us, hl with | [_, _], _ => rfl
  have okP := ok_PailError (P := P) (w := w) (mg := mg) (base := base) T100 (He.free_ok X G (c.g 78 rfl)) vV
  have aC108 : mg "Nobody" = some (.ref (He.ga K "Nobody")) := (He.glo_ok X G (c.g 100 rfl))
  obtain ⟨xO108, xF108, xW108, xS108, xT108⟩ := hrErr_ok (CP := (He.ga K "PailError")) (C := (He.ga K "Nobody")) (c.f (f := .err "PailError" "Nobody") 101 rfl)
  have a108 : Meth K (He.ga K "Nobody") "__init__" (He.ma K (He.ga K "Nobody") "__init__") := He.meth_ok (c.g 102 rfl)
  obtain ⟨fd108, T108⟩ := c.fun_ (x := "__init__") (q := "Nobody.__init__") (st := s_p_Nobody___init__) (p := ("Nobody", some "__init__")) 71 rfl
  have b108 := T108.binds (ps := ["self"]) fun _ _ _ _ _ _ us hl => match us, hl with | [_], _ => rfl
  exact ⟨⟨(He.ga K "Nobody"), _, _, aC108, xO108, xF108, xW108, exm_of e1P e2P e3P xS108, a108.1, xT108, ok_Nobody T108 ⟨rdP, gaP⟩ a100 okP aCP T100.kp b100, b108⟩⟩
theorem cR_BadLabour {w : World} {K : PySem.W.Frag} {h : Heap} {mg : Str → Option Value} {P : Program} (X : K.In h) (G : h.Ns mainGlobals mg) (c : HrSays hrFx hrFn hrTf hrTs w h K) {base : Heap} : Err P w K mg base (He.ga K "PailError") "BadLabour" "bad labour" := by
  have aCP : mg "PailError" = some (.ref (He.ga K "PailError")) := (He.glo_ok X G (c.g 76 rfl))
  obtain ⟨rdP, gaP, a100, e1P, e2P, e3P, vV⟩ := hrBase_ok (C := (He.ga K "PailError")) (c.f (f := .base "PailError") 77 rfl)
  obtain ⟨fd100, T100⟩ := c.fun_ (x := "__init__") (q := "PailError.__init__") (st := s_p_PailError___init__) (p := ("PailError", some "__init__")) 63 rfl
  have b100 := T100.binds (ps := ["self", "word"]) fun _ _ _ _ _ _ us hl => match us, hl with | [_, _], _ => rfl
  have okP := ok_PailError (P := P) (w := w) (mg := mg) (base := base) T100 (He.free_ok X G (c.g 78 rfl)) vV
  have aC109 : mg "BadLabour" = some (.ref (He.ga K "BadLabour")) := (He.glo_ok X G (c.g 103 rfl))
  obtain ⟨xO109, xF109, xW109, xS109, xT109⟩ := hrErr_ok (CP := (He.ga K "PailError")) (C := (He.ga K "BadLabour")) (c.f (f := .err "PailError" "BadLabour") 104 rfl)
  have a109 : Meth K (He.ga K "BadLabour") "__init__" (He.ma K (He.ga K "BadLabour") "__init__") := He.meth_ok (c.g 105 rfl)
  obtain ⟨fd109, T109⟩ := c.fun_ (x := "__init__") (q := "BadLabour.__init__") (st := s_p_BadLabour___init__) (p := ("BadLabour", some "__init__")) 72 rfl
  have b109 := T109.binds (ps := ["self"]) fun _ _ _ _ _ _ us hl => match us, hl with | [_], _ => rfl
  exact ⟨⟨(He.ga K "BadLabour"), _, _, aC109, xO109, xF109, xW109, exm_of e1P e2P e3P xS109, a109.1, xT109, ok_BadLabour T109 ⟨rdP, gaP⟩ a100 okP aCP T100.kp b100, b109⟩⟩
theorem cB {w : World} {K : PySem.W.Frag} {h : Heap} {mg : Str → Option Value} (X : K.In h) (G : h.Ns mainGlobals mg) (c : HrSays hrFx hrFn hrTf hrTs w h K) : Bn mg := by
  exact ⟨He.free_ok X G (c.g 78 rfl), He.free_ok X G (c.g 106 rfl), He.free_ok X G (c.g 107 rfl), He.free_ok X G (c.g 108 rfl), He.free_ok X G (c.g 109 rfl), He.free_ok X G (c.g 110 rfl), He.free_ok X G (c.g 111 rfl), He.free_ok X G (c.g 112 rfl), He.free_ok X G (c.g 113 rfl), He.free_ok X G (c.g 114 rfl), He.free_ok X G (c.g 115 rfl), He.free_ok X G (c.g 116 rfl), He.free_ok X G (c.g 117 rfl), He.free_ok X G (c.g 118 rfl), He.free_ok X G (c.g 119 rfl), He.free_ok X G (c.g 120 rfl), He.free_ok X G (c.g 121 rfl)⟩
theorem cW {w : World} {K : PySem.W.Frag} {h : Heap} {mg : Str → Option Value} {P : Program} (X : K.In h) (G : h.Ns mainGlobals mg) (c : HrSays hrFx hrFn hrTf hrTs w h K) : Word K mg (He.ga K "PailError") := by
  have a1 : mg "_law_word" = some (.ref (He.ga K "_law_word")) := He.glo_ok X G (c.g 14 rfl)
  obtain ⟨fd1, T1⟩ := c.fun_ (x := "_law_word") (q := "_law_word") (st := s_l_word) (p := ("_law_word", none)) 0 rfl
  have b1 := T1.binds (ps := ["_law_asked"]) fun _ _ _ _ _ _ us hl => match us, hl with | [_], _ => rfl
  exact ⟨⟨_, _, T1, a1, b1, (He.glo_ok X G (c.g 76 rfl))⟩⟩
theorem cF_p_common_divisor {w : World} {K : PySem.W.Frag} {h : Heap} {mg : Str → Option Value} {P : Program} (X : K.In h) (G : h.Ns mainGlobals mg) (c : HrSays hrFx hrFn hrTf hrTs w h K) {base : Heap} (TBs : ∀ p ∈ hrCs K, LamX.TabB base mg p.1 p.2) : Fn P w K mg base 1 "common_divisor" ["one", "other"] (sp_p_common_divisor K (hrT K)) := by
  have a4 : mg "common_divisor" = some (.ref (He.ga K "common_divisor")) := He.glo_ok X G (c.g 17 rfl)
  obtain ⟨fd4, T4⟩ := c.fun_ (x := "common_divisor") (q := "common_divisor") (st := s_p_common_divisor) (p := ("common_divisor", none)) 3 rfl
  have b4 := T4.binds (ps := ["one", "other"]) fun _ _ _ _ _ _ us hl => match us, hl with | [_, _], _ => rfl
  exact Fn.mk' (ok_p_common_divisor (T := (hrT K)) T4    ) a4 T4.kp b4
theorem cF_p_amount {w : World} {K : PySem.W.Frag} {h : Heap} {mg : Str → Option Value} {P : Program} (X : K.In h) (G : h.Ns mainGlobals mg) (c : HrSays hrFx hrFn hrTf hrTs w h K) {base : Heap} (TBs : ∀ p ∈ hrCs K, LamX.TabB base mg p.1 p.2) : Fn P w K mg base 2 "amount" ["num", "den"] (sp_p_amount K (hrT K)) := by
  have a5 : mg "amount" = some (.ref (He.ga K "amount")) := He.glo_ok X G (c.g 18 rfl)
  obtain ⟨fd5, T5⟩ := c.fun_ (x := "amount") (q := "amount") (st := s_p_amount) (p := ("amount", none)) 4 rfl
  have b5 := T5.binds (ps := ["num", "den"]) fun _ _ _ _ _ _ us hl => match us, hl with | [_, _], _ => rfl
  exact Fn.mk' (ok_p_amount (T := (hrT K)) T5 (cB X G c)   (cF_p_common_divisor X G c TBs) ) a5 T5.kp b5
theorem cF_p_plus {w : World} {K : PySem.W.Frag} {h : Heap} {mg : Str → Option Value} {P : Program} (X : K.In h) (G : h.Ns mainGlobals mg) (c : HrSays hrFx hrFn hrTf hrTs w h K) {base : Heap} (TBs : ∀ p ∈ hrCs K, LamX.TabB base mg p.1 p.2) : Fn P w K mg base 3 "plus" ["one", "other"] (sp_p_plus K (hrT K)) := by
  have a6 : mg "plus" = some (.ref (He.ga K "plus")) := He.glo_ok X G (c.g 19 rfl)
  obtain ⟨fd6, T6⟩ := c.fun_ (x := "plus") (q := "plus") (st := s_p_plus) (p := ("plus", none)) 5 rfl
  have b6 := T6.binds (ps := ["one", "other"]) fun _ _ _ _ _ _ us hl => match us, hl with | [_, _], _ => rfl
  exact Fn.mk' (ok_p_plus (T := (hrT K)) T6   (cF_p_amount X G c TBs) ) a6 T6.kp b6
theorem cF_p_minus {w : World} {K : PySem.W.Frag} {h : Heap} {mg : Str → Option Value} {P : Program} (X : K.In h) (G : h.Ns mainGlobals mg) (c : HrSays hrFx hrFn hrTf hrTs w h K) {base : Heap} (TBs : ∀ p ∈ hrCs K, LamX.TabB base mg p.1 p.2) : Fn P w K mg base 3 "minus" ["one", "other"] (sp_p_minus K (hrT K)) := by
  have a7 : mg "minus" = some (.ref (He.ga K "minus")) := He.glo_ok X G (c.g 20 rfl)
  obtain ⟨fd7, T7⟩ := c.fun_ (x := "minus") (q := "minus") (st := s_p_minus) (p := ("minus", none)) 6 rfl
  have b7 := T7.binds (ps := ["one", "other"]) fun _ _ _ _ _ _ us hl => match us, hl with | [_, _], _ => rfl
  exact Fn.mk' (ok_p_minus (T := (hrT K)) T7   (cF_p_amount X G c TBs) ) a7 T7.kp b7
theorem cF_p_times {w : World} {K : PySem.W.Frag} {h : Heap} {mg : Str → Option Value} {P : Program} (X : K.In h) (G : h.Ns mainGlobals mg) (c : HrSays hrFx hrFn hrTf hrTs w h K) {base : Heap} (TBs : ∀ p ∈ hrCs K, LamX.TabB base mg p.1 p.2) : Fn P w K mg base 3 "times" ["one", "other"] (sp_p_times K (hrT K)) := by
  have a8 : mg "times" = some (.ref (He.ga K "times")) := He.glo_ok X G (c.g 21 rfl)
  obtain ⟨fd8, T8⟩ := c.fun_ (x := "times") (q := "times") (st := s_p_times) (p := ("times", none)) 7 rfl
  have b8 := T8.binds (ps := ["one", "other"]) fun _ _ _ _ _ _ us hl => match us, hl with | [_, _], _ => rfl
  exact Fn.mk' (ok_p_times (T := (hrT K)) T8   (cF_p_amount X G c TBs) ) a8 T8.kp b8
theorem cF_p_over {w : World} {K : PySem.W.Frag} {h : Heap} {mg : Str → Option Value} {P : Program} (X : K.In h) (G : h.Ns mainGlobals mg) (c : HrSays hrFx hrFn hrTf hrTs w h K) {base : Heap} (TBs : ∀ p ∈ hrCs K, LamX.TabB base mg p.1 p.2) : Fn P w K mg base 3 "over" ["one", "other"] (sp_p_over K (hrT K)) := by
  have a9 : mg "over" = some (.ref (He.ga K "over")) := He.glo_ok X G (c.g 22 rfl)
  obtain ⟨fd9, T9⟩ := c.fun_ (x := "over") (q := "over") (st := s_p_over) (p := ("over", none)) 8 rfl
  have b9 := T9.binds (ps := ["one", "other"]) fun _ _ _ _ _ _ us hl => match us, hl with | [_, _], _ => rfl
  exact Fn.mk' (ok_p_over (T := (hrT K)) T9   (cF_p_amount X G c TBs) ) a9 T9.kp b9
theorem cF_p_below {w : World} {K : PySem.W.Frag} {h : Heap} {mg : Str → Option Value} {P : Program} (X : K.In h) (G : h.Ns mainGlobals mg) (c : HrSays hrFx hrFn hrTf hrTs w h K) {base : Heap} (TBs : ∀ p ∈ hrCs K, LamX.TabB base mg p.1 p.2) : Fn P w K mg base 1 "below" ["one", "other"] (sp_p_below K (hrT K)) := by
  have a10 : mg "below" = some (.ref (He.ga K "below")) := He.glo_ok X G (c.g 23 rfl)
  obtain ⟨fd10, T10⟩ := c.fun_ (x := "below") (q := "below") (st := s_p_below) (p := ("below", none)) 9 rfl
  have b10 := T10.binds (ps := ["one", "other"]) fun _ _ _ _ _ _ us hl => match us, hl with | [_, _], _ => rfl
  exact Fn.mk' (ok_p_below (T := (hrT K)) T10    ) a10 T10.kp b10
theorem cF_p_lesser {w : World} {K : PySem.W.Frag} {h : Heap} {mg : Str → Option Value} {P : Program} (X : K.In h) (G : h.Ns mainGlobals mg) (c : HrSays hrFx hrFn hrTf hrTs w h K) {base : Heap} (TBs : ∀ p ∈ hrCs K, LamX.TabB base mg p.1 p.2) : Fn P w K mg base 2 "lesser" ["one", "other"] (sp_p_lesser K (hrT K)) := by
  have a11 : mg "lesser" = some (.ref (He.ga K "lesser")) := He.glo_ok X G (c.g 24 rfl)
  obtain ⟨fd11, T11⟩ := c.fun_ (x := "lesser") (q := "lesser") (st := s_p_lesser) (p := ("lesser", none)) 10 rfl
  have b11 := T11.binds (ps := ["one", "other"]) fun _ _ _ _ _ _ us hl => match us, hl with | [_, _], _ => rfl
  exact Fn.mk' (ok_p_lesser (T := (hrT K)) T11   (cF_p_below X G c TBs) ) a11 T11.kp b11
theorem cF_l_cell {w : World} {K : PySem.W.Frag} {h : Heap} {mg : Str → Option Value} {P : Program} (X : K.In h) (G : h.Ns mainGlobals mg) (c : HrSays hrFx hrFn hrTf hrTs w h K) {base : Heap} (TBs : ∀ p ∈ hrCs K, LamX.TabB base mg p.1 p.2) : Fn P w K mg base 1 "_law_cell" ["_law_script", "_law_k"] (sp_l_cell K (hrT K)) := by
  have a12 : mg "_law_cell" = some (.ref (He.ga K "_law_cell")) := He.glo_ok X G (c.g 25 rfl)
  obtain ⟨fd12, T12⟩ := c.fun_ (x := "_law_cell") (q := "_law_cell") (st := s_l_cell) (p := ("_law_cell", none)) 11 rfl
  have b12 := T12.binds (ps := ["_law_script", "_law_k"]) fun _ _ _ _ _ _ us hl => match us, hl with | [_, _], _ => rfl
  exact Fn.mk' (ok_l_cell (T := (hrT K)) T12 (cB X G c)    ) a12 T12.kp b12
theorem cF_l_draws {w : World} {K : PySem.W.Frag} {h : Heap} {mg : Str → Option Value} {P : Program} (X : K.In h) (G : h.Ns mainGlobals mg) (c : HrSays hrFx hrFn hrTf hrTs w h K) {base : Heap} (TBs : ∀ p ∈ hrCs K, LamX.TabB base mg p.1 p.2) : Fn P w K mg base 1 "_law_draws" ["_law_cell_here", "_law_parts"] (sp_l_draws K (hrT K)) := by
  have a13 : mg "_law_draws" = some (.ref (He.ga K "_law_draws")) := He.glo_ok X G (c.g 26 rfl)
  obtain ⟨fd13, T13⟩ := c.fun_ (x := "_law_draws") (q := "_law_draws") (st := s_l_draws) (p := ("_law_draws", none)) 12 rfl
  have b13 := T13.binds (ps := ["_law_cell_here", "_law_parts"]) fun _ _ _ _ _ _ us hl => match us, hl with | [_, _], _ => rfl
  exact Fn.mk' (ok_l_draws (T := (hrT K)) T13    ) a13 T13.kp b13
theorem cF_l_many {w : World} {K : PySem.W.Frag} {h : Heap} {mg : Str → Option Value} {P : Program} (X : K.In h) (G : h.Ns mainGlobals mg) (c : HrSays hrFx hrFn hrTf hrTs w h K) {base : Heap} (TBs : ∀ p ∈ hrCs K, LamX.TabB base mg p.1 p.2) : Fn P w K mg base 1 "_law_many" ["_law_script", "_law_few"] (sp_l_many K (hrT K)) := by
  have a14 : mg "_law_many" = some (.ref (He.ga K "_law_many")) := He.glo_ok X G (c.g 27 rfl)
  obtain ⟨fd14, T14⟩ := c.fun_ (x := "_law_many") (q := "_law_many") (st := s_l_many) (p := ("_law_many", none)) 13 rfl
  have b14 := T14.binds (ps := ["_law_script", "_law_few"]) fun _ _ _ _ _ _ us hl => match us, hl with | [_, _], _ => rfl
  exact Fn.mk' (ok_l_many (T := (hrT K)) T14 (cB X G c)    ) a14 T14.kp b14
theorem cF_l_split {w : World} {K : PySem.W.Frag} {h : Heap} {mg : Str → Option Value} {P : Program} (X : K.In h) (G : h.Ns mainGlobals mg) (c : HrSays hrFx hrFn hrTf hrTs w h K) {base : Heap} (TBs : ∀ p ∈ hrCs K, LamX.TabB base mg p.1 p.2) : Fn P w K mg base 1 "_law_split" ["_law_cell_here", "_law_many_here"] (sp_l_split K (hrT K)) := by
  have a15 : mg "_law_split" = some (.ref (He.ga K "_law_split")) := He.glo_ok X G (c.g 28 rfl)
  obtain ⟨fd15, T15⟩ := c.fun_ (x := "_law_split") (q := "_law_split") (st := s_l_split) (p := ("_law_split", none)) 14 rfl
  have b15 := T15.binds (ps := ["_law_cell_here", "_law_many_here"]) fun _ _ _ _ _ _ us hl => match us, hl with | [_, _], _ => rfl
  exact Fn.mk' (ok_l_split (T := (hrT K)) T15 (cB X G c)    ) a15 T15.kp b15
theorem cF_p_is_number {w : World} {K : PySem.W.Frag} {h : Heap} {mg : Str → Option Value} {P : Program} (X : K.In h) (G : h.Ns mainGlobals mg) (c : HrSays hrFx hrFn hrTf hrTs w h K) {base : Heap} (TBs : ∀ p ∈ hrCs K, LamX.TabB base mg p.1 p.2) : Fn P w K mg base 1 "is_number" ["thing"] (sp_p_is_number K (hrT K)) := by
  have a2 : mg "is_number" = some (.ref (He.ga K "is_number")) := He.glo_ok X G (c.g 15 rfl)
  obtain ⟨fd2, T2⟩ := c.fun_ (x := "is_number") (q := "is_number") (st := s_p_is_number) (p := ("is_number", none)) 1 rfl
  have b2 := T2.binds (ps := ["thing"]) fun _ _ _ _ _ _ us hl => match us, hl with | [_], _ => rfl
  exact Fn.mk' (ok_p_is_number (T := (hrT K)) T2 (cB X G c)    ) a2 T2.kp b2
theorem cF_p_is_within {w : World} {K : PySem.W.Frag} {h : Heap} {mg : Str → Option Value} {P : Program} (X : K.In h) (G : h.Ns mainGlobals mg) (c : HrSays hrFx hrFn hrTf hrTs w h K) {base : Heap} (TBs : ∀ p ∈ hrCs K, LamX.TabB base mg p.1 p.2) : Fn P w K mg base 2 "is_within" ["thing", "least", "most"] (sp_p_is_within K (hrT K)) := by
  have a3 : mg "is_within" = some (.ref (He.ga K "is_within")) := He.glo_ok X G (c.g 16 rfl)
  obtain ⟨fd3, T3⟩ := c.fun_ (x := "is_within") (q := "is_within") (st := s_p_is_within) (p := ("is_within", none)) 2 rfl
  have b3 := T3.binds (ps := ["thing", "least", "most"]) fun _ _ _ _ _ _ us hl => match us, hl with | [_, _, _], _ => rfl
  exact Fn.mk' (ok_p_is_within (T := (hrT K)) T3   (cF_p_is_number X G c TBs) ) a3 T3.kp b3
theorem cF_p_check_pace {w : World} {K : PySem.W.Frag} {h : Heap} {mg : Str → Option Value} {P : Program} (X : K.In h) (G : h.Ns mainGlobals mg) (c : HrSays hrFx hrFn hrTf hrTs w h K) {base : Heap} (TBs : ∀ p ∈ hrCs K, LamX.TabB base mg p.1 p.2) : Fx P w K mg base 4 "check_pace" ["pace"] (sp_p_check_pace K (hrT K) (He.ga K "PailError")) := by
  have a16 : mg "check_pace" = some (.ref (He.ga K "check_pace")) := He.glo_ok X G (c.g 29 rfl)
  obtain ⟨fd16, T16⟩ := c.fun_ (x := "check_pace") (q := "check_pace") (st := s_p_check_pace) (p := ("check_pace", none)) 15 rfl
  have b16 := T16.binds (ps := ["pace"]) fun _ _ _ _ _ _ us hl => match us, hl with | [_], _ => rfl
  obtain ⟨t_MOST_PACE, y_MOST_PACE⟩ := He.int_ok (x := "MOST_PACE") (i := 12) X G (c.g 128 rfl)
  exact Fx.mk' (ok_p_check_pace (T := (hrT K)) T16 ⟨⟨_, rfl⟩, y_MOST_PACE⟩ (cR_BadPace X G c) (cF_p_is_within X G c TBs) ) a16 T16.kp b16
theorem cF_p_check_paces {w : World} {K : PySem.W.Frag} {h : Heap} {mg : Str → Option Value} {P : Program} (X : K.In h) (G : h.Ns mainGlobals mg) (c : HrSays hrFx hrFn hrTf hrTs w h K) {base : Heap} (TBs : ∀ p ∈ hrCs K, LamX.TabB base mg p.1 p.2) : Fx P w K mg base 5 "check_paces" ["paces", "most"] (sp_p_check_paces K (hrT K) (He.ga K "PailError")) := by
  have a17 : mg "check_paces" = some (.ref (He.ga K "check_paces")) := He.glo_ok X G (c.g 30 rfl)
  obtain ⟨fd17, T17⟩ := c.fun_ (x := "check_paces") (q := "check_paces") (st := s_p_check_paces) (p := ("check_paces", none)) 16 rfl
  have b17 := T17.binds (ps := ["paces", "most"]) fun _ _ _ _ _ _ us hl => match us, hl with | [_, _], _ => rfl
  exact Fx.mk' (ok_p_check_paces (T := (hrT K)) T17 (cB X G c)  (cR_BadCount X G c) (cF_p_check_pace X G c TBs) ) a17 T17.kp b17
theorem cF_p_is_name {w : World} {K : PySem.W.Frag} {h : Heap} {mg : Str → Option Value} {P : Program} (X : K.In h) (G : h.Ns mainGlobals mg) (c : HrSays hrFx hrFn hrTf hrTs w h K) {base : Heap} (TBs : ∀ p ∈ hrCs K, LamX.TabB base mg p.1 p.2) : Fn P w K mg base 1 "is_name" ["text"] (sp_p_is_name K (hrT K)) := by
  have a18 : mg "is_name" = some (.ref (He.ga K "is_name")) := He.glo_ok X G (c.g 31 rfl)
  obtain ⟨⟨fd18, T18⟩, H18, n18⟩ := c.fnc X (x := "is_name") (q := "is_name") (st := s_p_is_name) (p := ("is_name", none)) 17 0 rfl rfl
  have b18 := T18.binds (ps := ["text"]) fun _ _ _ _ _ us hl => match us, hl with | [_], _ => rfl
  obtain ⟨t_MOST_LETTERS, y_MOST_LETTERS⟩ := He.int_ok (x := "MOST_LETTERS") (i := 8) X G (c.g 125 rfl)
  have B18 : LamX.TabB base mg (He.cT K (("is_name", none))).1 (He.cT K (("is_name", none))).2 := TBs ((He.cT K (("is_name", none))).1, (He.cT K (("is_name", none))).2) (by simp [hrCs])
  exact Fn.mk' (ok_p_is_name (T := (hrT K)) T18 (hrT_nd X G c) (by simp [hrT]) (gx_lam B18) (cB X G c) ⟨⟨_, rfl⟩, y_MOST_LETTERS⟩   ) a18 T18.kp b18
theorem cF_p_check_name {w : World} {K : PySem.W.Frag} {h : Heap} {mg : Str → Option Value} {P : Program} (X : K.In h) (G : h.Ns mainGlobals mg) (c : HrSays hrFx hrFn hrTf hrTs w h K) {base : Heap} (TBs : ∀ p ∈ hrCs K, LamX.TabB base mg p.1 p.2) : Fx P w K mg base 4 "check_name" ["name"] (sp_p_check_name K (hrT K) (He.ga K "PailError")) := by
  have a19 : mg "check_name" = some (.ref (He.ga K "check_name")) := He.glo_ok X G (c.g 32 rfl)
  obtain ⟨fd19, T19⟩ := c.fun_ (x := "check_name") (q := "check_name") (st := s_p_check_name) (p := ("check_name", none)) 18 rfl
  have b19 := T19.binds (ps := ["name"]) fun _ _ _ _ _ _ us hl => match us, hl with | [_], _ => rfl
  exact Fx.mk' (ok_p_check_name (T := (hrT K)) T19  (cR_BadName X G c) (cF_p_is_name X G c TBs) ) a19 T19.kp b19
theorem cM_take_pail {w : World} {K : PySem.W.Frag} {h : Heap} {mg : Str → Option Value} {P : Program} (X : K.In h) (G : h.Ns mainGlobals mg) (c : HrSays hrFx hrFn hrTf hrTs w h K) {base : Heap} (TBs : ∀ p ∈ hrCs K, LamX.TabB base mg p.1 p.2) : Mt P w K mg base (He.ga K "Chain") 1 "take_pail" ["self"] (sp_p_Chain_take_pail K (hrT K) (He.ga K "Chain")) := by
  have a20 : Meth K (He.ga K "Chain") "take_pail" (He.ma K (He.ga K "Chain") "take_pail") := He.meth_ok (c.g 33 rfl)
  obtain ⟨fd20, T20⟩ := c.fun_ (x := "take_pail") (q := "Chain.take_pail") (st := s_p_Chain_take_pail) (p := ("Chain", some "take_pail")) 19 rfl
  have b20 := T20.binds (ps := ["self"]) fun _ _ _ _ _ _ us hl => match us, hl with | [_], _ => rfl
  have y_NOUGHT : mg "NOUGHT" = some (.ref (He.ga K "NOUGHT")) := (He.glo_ok X G (c.g 132 rfl))
  have x_NOUGHT : ∀ H, SqT K H (He.ga K "NOUGHT") [.int 0, .int 1] := fun H => He.tupB_ok (c.f (f := .tup "NOUGHT" [.int 0, .int 1]) 133 rfl) H
  exact ⟨⟨_, _, ok_p_Chain_take_pail (T := (hrT K)) T20 (cB X G c) y_NOUGHT x_NOUGHT  (cK_TC (P := P) X G c)  , a20, b20⟩⟩
theorem cM_enter {w : World} {K : PySem.W.Frag} {h : Heap} {mg : Str → Option Value} {P : Program} (X : K.In h) (G : h.Ns mainGlobals mg) (c : HrSays hrFx hrFn hrTf hrTs w h K) {base : Heap} (TBs : ∀ p ∈ hrCs K, LamX.TabB base mg p.1 p.2) : Mx P w K mg base (He.ga K "Chain") 5 "enter" ["self", "name", "pace"] (sp_p_Chain_enter K (hrT K) (He.ga K "PailError") (He.ga K "Chain")) := by
  have a21 : Meth K (He.ga K "Chain") "enter" (He.ma K (He.ga K "Chain") "enter") := He.meth_ok (c.g 34 rfl)
  obtain ⟨fd21, T21⟩ := c.fun_ (x := "enter") (q := "Chain.enter") (st := s_p_Chain_enter) (p := ("Chain", some "enter")) 20 rfl
  have b21 := T21.binds (ps := ["self", "name", "pace"]) fun _ _ _ _ _ _ us hl => match us, hl with | [_, _, _], _ => rfl
  obtain ⟨t_MOST_HANDS, y_MOST_HANDS⟩ := He.int_ok (x := "MOST_HANDS") (i := 8) X G (c.g 123 rfl)
  have y_NOUGHT : mg "NOUGHT" = some (.ref (He.ga K "NOUGHT")) := (He.glo_ok X G (c.g 132 rfl))
  have x_NOUGHT : ∀ H, SqT K H (He.ga K "NOUGHT") [.int 0, .int 1] := fun H => He.tupB_ok (c.f (f := .tup "NOUGHT" [.int 0, .int 1]) 133 rfl) H
  exact ⟨⟨_, _, ok_p_Chain_enter (T := (hrT K)) T21 (cB X G c) ⟨⟨_, rfl⟩, y_MOST_HANDS⟩ y_NOUGHT x_NOUGHT (cR_Taken X G c) (cR_Full X G c) (cK_TC (P := P) X G c) (cF_p_check_pace X G c TBs) (cF_p_check_name X G c TBs) (cM_take_pail X G c TBs) , a21, b21⟩⟩
theorem cM_hands {w : World} {K : PySem.W.Frag} {h : Heap} {mg : Str → Option Value} {P : Program} (X : K.In h) (G : h.Ns mainGlobals mg) (c : HrSays hrFx hrFn hrTf hrTs w h K) {base : Heap} (TBs : ∀ p ∈ hrCs K, LamX.TabB base mg p.1 p.2) : Mt P w K mg base (He.ga K "Chain") 1 "hands" ["self"] (sp_p_Chain_hands K (hrT K) (He.ga K "Chain")) := by
  have a22 : Meth K (He.ga K "Chain") "hands" (He.ma K (He.ga K "Chain") "hands") := He.meth_ok (c.g 35 rfl)
  obtain ⟨fd22, T22⟩ := c.fun_ (x := "hands") (q := "Chain.hands") (st := s_p_Chain_hands) (p := ("Chain", some "hands")) 21 rfl
  have b22 := T22.binds (ps := ["self"]) fun _ _ _ _ _ _ us hl => match us, hl with | [_], _ => rfl
  exact ⟨⟨_, _, ok_p_Chain_hands (T := (hrT K)) T22 (cB X G c)   (cK_TC (P := P) X G c)  , a22, b22⟩⟩
theorem cM_emptied {w : World} {K : PySem.W.Frag} {h : Heap} {mg : Str → Option Value} {P : Program} (X : K.In h) (G : h.Ns mainGlobals mg) (c : HrSays hrFx hrFn hrTf hrTs w h K) {base : Heap} (TBs : ∀ p ∈ hrCs K, LamX.TabB base mg p.1 p.2) : Mt P w K mg base (He.ga K "Chain") 1 "emptied" ["self"] (sp_p_Chain_emptied K (hrT K) (He.ga K "Chain")) := by
  have a23 : Meth K (He.ga K "Chain") "emptied" (He.ma K (He.ga K "Chain") "emptied") := He.meth_ok (c.g 36 rfl)
  obtain ⟨fd23, T23⟩ := c.fun_ (x := "emptied") (q := "Chain.emptied") (st := s_p_Chain_emptied) (p := ("Chain", some "emptied")) 22 rfl
  have b23 := T23.binds (ps := ["self"]) fun _ _ _ _ _ _ us hl => match us, hl with | [_], _ => rfl
  exact ⟨⟨_, _, ok_p_Chain_emptied (T := (hrT K)) T23 (cB X G c)   (cK_TC (P := P) X G c)  , a23, b23⟩⟩
theorem cM_pails {w : World} {K : PySem.W.Frag} {h : Heap} {mg : Str → Option Value} {P : Program} (X : K.In h) (G : h.Ns mainGlobals mg) (c : HrSays hrFx hrFn hrTf hrTs w h K) {base : Heap} (TBs : ∀ p ∈ hrCs K, LamX.TabB base mg p.1 p.2) : Mt P w K mg base (He.ga K "Chain") 1 "pails" ["self"] (sp_p_Chain_pails K (hrT K) (He.ga K "Chain")) := by
  have a24 : Meth K (He.ga K "Chain") "pails" (He.ma K (He.ga K "Chain") "pails") := He.meth_ok (c.g 37 rfl)
  obtain ⟨fd24, T24⟩ := c.fun_ (x := "pails") (q := "Chain.pails") (st := s_p_Chain_pails) (p := ("Chain", some "pails")) 23 rfl
  have b24 := T24.binds (ps := ["self"]) fun _ _ _ _ _ _ us hl => match us, hl with | [_], _ => rfl
  exact ⟨⟨_, _, ok_p_Chain_pails (T := (hrT K)) T24 (cB X G c)   (cK_TC (P := P) X G c)  , a24, b24⟩⟩
theorem cM_number_of {w : World} {K : PySem.W.Frag} {h : Heap} {mg : Str → Option Value} {P : Program} (X : K.In h) (G : h.Ns mainGlobals mg) (c : HrSays hrFx hrFn hrTf hrTs w h K) {base : Heap} (TBs : ∀ p ∈ hrCs K, LamX.TabB base mg p.1 p.2) : Mx P w K mg base (He.ga K "Chain") 4 "number_of" ["self", "name"] (sp_p_Chain_number_of K (hrT K) (He.ga K "PailError") (He.ga K "Chain")) := by
  have a25 : Meth K (He.ga K "Chain") "number_of" (He.ma K (He.ga K "Chain") "number_of") := He.meth_ok (c.g 38 rfl)
  obtain ⟨fd25, T25⟩ := c.fun_ (x := "number_of") (q := "Chain.number_of") (st := s_p_Chain_number_of) (p := ("Chain", some "number_of")) 24 rfl
  have b25 := T25.binds (ps := ["self", "name"]) fun _ _ _ _ _ _ us hl => match us, hl with | [_, _], _ => rfl
  exact ⟨⟨_, _, ok_p_Chain_number_of (T := (hrT K)) T25  (cR_NoHand X G c) (cK_TC (P := P) X G c)  , a25, b25⟩⟩
theorem cM_place {w : World} {K : PySem.W.Frag} {h : Heap} {mg : Str → Option Value} {P : Program} (X : K.In h) (G : h.Ns mainGlobals mg) (c : HrSays hrFx hrFn hrTf hrTs w h K) {base : Heap} (TBs : ∀ p ∈ hrCs K, LamX.TabB base mg p.1 p.2) : Mx P w K mg base (He.ga K "Chain") 5 "place" ["self", "name"] (sp_p_Chain_place K (hrT K) (He.ga K "PailError") (He.ga K "Chain")) := by
  have a26 : Meth K (He.ga K "Chain") "place" (He.ma K (He.ga K "Chain") "place") := He.meth_ok (c.g 39 rfl)
  obtain ⟨fd26, T26⟩ := c.fun_ (x := "place") (q := "Chain.place") (st := s_p_Chain_place) (p := ("Chain", some "place")) 25 rfl
  have b26 := T26.binds (ps := ["self", "name"]) fun _ _ _ _ _ _ us hl => match us, hl with | [_, _], _ => rfl
  exact ⟨⟨_, _, ok_p_Chain_place (T := (hrT K)) T26   (cK_TC (P := P) X G c) (cM_number_of X G c TBs) , a26, b26⟩⟩
theorem cM_ledger {w : World} {K : PySem.W.Frag} {h : Heap} {mg : Str → Option Value} {P : Program} (X : K.In h) (G : h.Ns mainGlobals mg) (c : HrSays hrFx hrFn hrTf hrTs w h K) {base : Heap} (TBs : ∀ p ∈ hrCs K, LamX.TabB base mg p.1 p.2) : Mx P w K mg base (He.ga K "Chain") 4 "ledger" ["self", "name"] (sp_p_Chain_ledger K (hrT K) (He.ga K "PailError") (He.ga K "Chain")) := by
  have a27 : Meth K (He.ga K "Chain") "ledger" (He.ma K (He.ga K "Chain") "ledger") := He.meth_ok (c.g 40 rfl)
  obtain ⟨fd27, T27⟩ := c.fun_ (x := "ledger") (q := "Chain.ledger") (st := s_p_Chain_ledger) (p := ("Chain", some "ledger")) 26 rfl
  have b27 := T27.binds (ps := ["self", "name"]) fun _ _ _ _ _ _ us hl => match us, hl with | [_, _], _ => rfl
  exact ⟨⟨_, _, ok_p_Chain_ledger (T := (hrT K)) T27  (cR_NoHand X G c) (cK_TC (P := P) X G c)  , a27, b27⟩⟩
theorem cM_paces {w : World} {K : PySem.W.Frag} {h : Heap} {mg : Str → Option Value} {P : Program} (X : K.In h) (G : h.Ns mainGlobals mg) (c : HrSays hrFx hrFn hrTf hrTs w h K) {base : Heap} (TBs : ∀ p ∈ hrCs K, LamX.TabB base mg p.1 p.2) : Mt P w K mg base (He.ga K "Chain") 1 "paces" ["self"] (sp_p_Chain_paces K (hrT K) (He.ga K "Chain")) := by
  have a28 : Meth K (He.ga K "Chain") "paces" (He.ma K (He.ga K "Chain") "paces") := He.meth_ok (c.g 41 rfl)
  obtain ⟨fd28, T28⟩ := c.fun_ (x := "paces") (q := "Chain.paces") (st := s_p_Chain_paces) (p := ("Chain", some "paces")) 27 rfl
  have b28 := T28.binds (ps := ["self"]) fun _ _ _ _ _ _ us hl => match us, hl with | [_], _ => rfl
  exact ⟨⟨_, _, ok_p_Chain_paces (T := (hrT K)) T28   (cK_TC (P := P) X G c)  , a28, b28⟩⟩
theorem cM_hour {w : World} {K : PySem.W.Frag} {h : Heap} {mg : Str → Option Value} {P : Program} (X : K.In h) (G : h.Ns mainGlobals mg) (c : HrSays hrFx hrFn hrTf hrTs w h K) {base : Heap} (TBs : ∀ p ∈ hrCs K, LamX.TabB base mg p.1 p.2) : Mt P w K mg base (He.ga K "Chain") 1 "hour" ["self"] (sp_p_Chain_hour K (hrT K) (He.ga K "Chain")) := by
  have a29 : Meth K (He.ga K "Chain") "hour" (He.ma K (He.ga K "Chain") "hour") := He.meth_ok (c.g 42 rfl)
  obtain ⟨fd29, T29⟩ := c.fun_ (x := "hour") (q := "Chain.hour") (st := s_p_Chain_hour) (p := ("Chain", some "hour")) 28 rfl
  have b29 := T29.binds (ps := ["self"]) fun _ _ _ _ _ _ us hl => match us, hl with | [_], _ => rfl
  exact ⟨⟨_, _, ok_p_Chain_hour (T := (hrT K)) T29   (cK_TC (P := P) X G c)  , a29, b29⟩⟩
theorem cF_p_speeds {w : World} {K : PySem.W.Frag} {h : Heap} {mg : Str → Option Value} {P : Program} (X : K.In h) (G : h.Ns mainGlobals mg) (c : HrSays hrFx hrFn hrTf hrTs w h K) {base : Heap} (TBs : ∀ p ∈ hrCs K, LamX.TabB base mg p.1 p.2) : Fn P w K mg base 1 "speeds" ["paces", "places"] (sp_p_speeds K (hrT K)) := by
  have a30 : mg "speeds" = some (.ref (He.ga K "speeds")) := He.glo_ok X G (c.g 43 rfl)
  obtain ⟨fd30, T30⟩ := c.fun_ (x := "speeds") (q := "speeds") (st := s_p_speeds) (p := ("speeds", none)) 29 rfl
  have b30 := T30.binds (ps := ["paces", "places"]) fun _ _ _ _ _ _ us hl => match us, hl with | [_, _], _ => rfl
  exact Fn.mk' (ok_p_speeds (T := (hrT K)) T30 (cB X G c)    ) a30 T30.kp b30
theorem cF_p_hours_at {w : World} {K : PySem.W.Frag} {h : Heap} {mg : Str → Option Value} {P : Program} (X : K.In h) (G : h.Ns mainGlobals mg) (c : HrSays hrFx hrFn hrTf hrTs w h K) {base : Heap} (TBs : ∀ p ∈ hrCs K, LamX.TabB base mg p.1 p.2) : Fn P w K mg base 4 "hours_at" ["gap", "speed"] (sp_p_hours_at K (hrT K)) := by
  have a31 : mg "hours_at" = some (.ref (He.ga K "hours_at")) := He.glo_ok X G (c.g 44 rfl)
  obtain ⟨fd31, T31⟩ := c.fun_ (x := "hours_at") (q := "hours_at") (st := s_p_hours_at) (p := ("hours_at", none)) 30 rfl
  have b31 := T31.binds (ps := ["gap", "speed"]) fun _ _ _ _ _ _ us hl => match us, hl with | [_, _], _ => rfl
  exact Fn.mk' (ok_p_hours_at (T := (hrT K)) T31   (cF_p_over X G c TBs) ) a31 T31.kp b31
theorem cF_p_meeting {w : World} {K : PySem.W.Frag} {h : Heap} {mg : Str → Option Value} {P : Program} (X : K.In h) (G : h.Ns mainGlobals mg) (c : HrSays hrFx hrFn hrTf hrTs w h K) {base : Heap} (TBs : ∀ p ∈ hrCs K, LamX.TabB base mg p.1 p.2) : Fn P w K mg base 5 "meeting" ["labour", "paces", "places"] (sp_p_meeting K (hrT K)) := by
  have a32 : mg "meeting" = some (.ref (He.ga K "meeting")) := He.glo_ok X G (c.g 45 rfl)
  obtain ⟨fd32, T32⟩ := c.fun_ (x := "meeting") (q := "meeting") (st := s_p_meeting) (p := ("meeting", none)) 31 rfl
  have b32 := T32.binds (ps := ["labour", "paces", "places"]) fun _ _ _ _ _ _ us hl => match us, hl with | [_, _, _], _ => rfl
  exact Fn.mk' (ok_p_meeting (T := (hrT K)) T32 (cB X G c)   (cF_p_minus X G c TBs) (cF_p_lesser X G c TBs) (cF_p_speeds X G c TBs) (cF_p_hours_at X G c TBs) ) a32 T32.kp b32
theorem cF_p_walked {w : World} {K : PySem.W.Frag} {h : Heap} {mg : Str → Option Value} {P : Program} (X : K.In h) (G : h.Ns mainGlobals mg) (c : HrSays hrFx hrFn hrTf hrTs w h K) {base : Heap} (TBs : ∀ p ∈ hrCs K, LamX.TabB base mg p.1 p.2) : Fn P w K mg base 4 "walked" ["paces", "places", "hours"] (sp_p_walked K (hrT K)) := by
  have a33 : mg "walked" = some (.ref (He.ga K "walked")) := He.glo_ok X G (c.g 46 rfl)
  obtain ⟨fd33, T33⟩ := c.fun_ (x := "walked") (q := "walked") (st := s_p_walked) (p := ("walked", none)) 32 rfl
  have b33 := T33.binds (ps := ["paces", "places", "hours"]) fun _ _ _ _ _ _ us hl => match us, hl with | [_, _, _], _ => rfl
  exact Fn.mk' (ok_p_walked (T := (hrT K)) T33 (cB X G c)   (cF_p_plus X G c TBs) (cF_p_times X G c TBs) (cF_p_speeds X G c TBs) ) a33 T33.kp b33
theorem cF_p_ledger_on {w : World} {K : PySem.W.Frag} {h : Heap} {mg : Str → Option Value} {P : Program} (X : K.In h) (G : h.Ns mainGlobals mg) (c : HrSays hrFx hrFn hrTf hrTs w h K) {base : Heap} (TBs : ∀ p ∈ hrCs K, LamX.TabB base mg p.1 p.2) : Fn P w K mg base 4 "ledger_on" ["ledger", "pace", "speed", "hours"] (sp_p_ledger_on K (hrT K)) := by
  have a34 : mg "ledger_on" = some (.ref (He.ga K "ledger_on")) := He.glo_ok X G (c.g 47 rfl)
  obtain ⟨fd34, T34⟩ := c.fun_ (x := "ledger_on") (q := "ledger_on") (st := s_p_ledger_on) (p := ("ledger_on", none)) 33 rfl
  have b34 := T34.binds (ps := ["ledger", "pace", "speed", "hours"]) fun _ _ _ _ _ _ us hl => match us, hl with | [_, _, _, _], _ => rfl
  exact Fn.mk' (ok_p_ledger_on (T := (hrT K)) T34   (cF_p_plus X G c TBs) (cF_p_times X G c TBs) ) a34 T34.kp b34
theorem cM_till_meeting {w : World} {K : PySem.W.Frag} {h : Heap} {mg : Str → Option Value} {P : Program} (X : K.In h) (G : h.Ns mainGlobals mg) (c : HrSays hrFx hrFn hrTf hrTs w h K) {base : Heap} (TBs : ∀ p ∈ hrCs K, LamX.TabB base mg p.1 p.2) : Mt P w K mg base (He.ga K "Chain") 6 "till_meeting" ["self"] (sp_p_Chain_till_meeting K (hrT K) (He.ga K "Chain")) := by
  have a35 : Meth K (He.ga K "Chain") "till_meeting" (He.ma K (He.ga K "Chain") "till_meeting") := He.meth_ok (c.g 48 rfl)
  obtain ⟨fd35, T35⟩ := c.fun_ (x := "till_meeting") (q := "Chain.till_meeting") (st := s_p_Chain_till_meeting) (p := ("Chain", some "till_meeting")) 34 rfl
  have b35 := T35.binds (ps := ["self"]) fun _ _ _ _ _ _ us hl => match us, hl with | [_], _ => rfl
  exact ⟨⟨_, _, ok_p_Chain_till_meeting (T := (hrT K)) T35   (cK_TC (P := P) X G c) (cM_paces X G c TBs) (cF_p_meeting X G c TBs) , a35, b35⟩⟩
theorem cM_walk {w : World} {K : PySem.W.Frag} {h : Heap} {mg : Str → Option Value} {P : Program} (X : K.In h) (G : h.Ns mainGlobals mg) (c : HrSays hrFx hrFn hrTf hrTs w h K) {base : Heap} (TBs : ∀ p ∈ hrCs K, LamX.TabB base mg p.1 p.2) : Mt P w K mg base (He.ga K "Chain") 5 "walk" ["self", "hours"] (sp_p_Chain_walk K (hrT K) (He.ga K "Chain")) := by
  have a36 : Meth K (He.ga K "Chain") "walk" (He.ma K (He.ga K "Chain") "walk") := He.meth_ok (c.g 49 rfl)
  obtain ⟨fd36, T36⟩ := c.fun_ (x := "walk") (q := "Chain.walk") (st := s_p_Chain_walk) (p := ("Chain", some "walk")) 35 rfl
  have b36 := T36.binds (ps := ["self", "hours"]) fun _ _ _ _ _ _ us hl => match us, hl with | [_, _], _ => rfl
  exact ⟨⟨_, _, ok_p_Chain_walk (T := (hrT K)) T36 (cB X G c)   (cK_TC (P := P) X G c) (cF_p_plus X G c TBs) (cM_paces X G c TBs) (cF_p_speeds X G c TBs) (cF_p_walked X G c TBs) (cF_p_ledger_on X G c TBs) , a36, b36⟩⟩
theorem cM_mark {w : World} {K : PySem.W.Frag} {h : Heap} {mg : Str → Option Value} {P : Program} (X : K.In h) (G : h.Ns mainGlobals mg) (c : HrSays hrFx hrFn hrTf hrTs w h K) {base : Heap} (TBs : ∀ p ∈ hrCs K, LamX.TabB base mg p.1 p.2) : Mt P w K mg base (He.ga K "Chain") 1 "mark" ["self", "at"] (sp_p_Chain_mark K (hrT K) (He.ga K "Chain")) := by
  have a37 : Meth K (He.ga K "Chain") "mark" (He.ma K (He.ga K "Chain") "mark") := He.meth_ok (c.g 50 rfl)
  obtain ⟨fd37, T37⟩ := c.fun_ (x := "mark") (q := "Chain.mark") (st := s_p_Chain_mark) (p := ("Chain", some "mark")) 36 rfl
  have b37 := T37.binds (ps := ["self", "at"]) fun _ _ _ _ _ _ us hl => match us, hl with | [_, _], _ => rfl
  exact ⟨⟨_, _, ok_p_Chain_mark (T := (hrT K)) T37   (cK_TC (P := P) X G c)  , a37, b37⟩⟩
theorem cM_mark_from {w : World} {K : PySem.W.Frag} {h : Heap} {mg : Str → Option Value} {P : Program} (X : K.In h) (G : h.Ns mainGlobals mg) (c : HrSays hrFx hrFn hrTf hrTs w h K) {base : Heap} (TBs : ∀ p ∈ hrCs K, LamX.TabB base mg p.1 p.2) : Mt P w K mg base (He.ga K "Chain") 2 "mark_from" ["self", "first"] (sp_p_Chain_mark_from K (hrT K) (He.ga K "Chain")) := by
  have a38 : Meth K (He.ga K "Chain") "mark_from" (He.ma K (He.ga K "Chain") "mark_from") := He.meth_ok (c.g 51 rfl)
  obtain ⟨fd38, T38⟩ := c.fun_ (x := "mark_from") (q := "Chain.mark_from") (st := s_p_Chain_mark_from) (p := ("Chain", some "mark_from")) 37 rfl
  have b38 := T38.binds (ps := ["self", "first"]) fun _ _ _ _ _ _ us hl => match us, hl with | [_, _], _ => rfl
  exact ⟨⟨_, _, ok_p_Chain_mark_from (T := (hrT K)) T38 (cB X G c)   (cK_TC (P := P) X G c) (cM_mark X G c TBs) , a38, b38⟩⟩
theorem cM_next_leaver {w : World} {K : PySem.W.Frag} {h : Heap} {mg : Str → Option Value} {P : Program} (X : K.In h) (G : h.Ns mainGlobals mg) (c : HrSays hrFx hrFn hrTf hrTs w h K) {base : Heap} (TBs : ∀ p ∈ hrCs K, LamX.TabB base mg p.1 p.2) : Mt P w K mg base (He.ga K "Chain") 1 "next_leaver" ["self"] (sp_p_Chain_next_leaver K (hrT K) (He.ga K "Chain")) := by
  have a39 : Meth K (He.ga K "Chain") "next_leaver" (He.ma K (He.ga K "Chain") "next_leaver") := He.meth_ok (c.g 52 rfl)
  obtain ⟨fd39, T39⟩ := c.fun_ (x := "next_leaver") (q := "Chain.next_leaver") (st := s_p_Chain_next_leaver) (p := ("Chain", some "next_leaver")) 38 rfl
  have b39 := T39.binds (ps := ["self"]) fun _ _ _ _ _ _ us hl => match us, hl with | [_], _ => rfl
  exact ⟨⟨_, _, ok_p_Chain_next_leaver (T := (hrT K)) T39 (cB X G c)   (cK_TC (P := P) X G c)  , a39, b39⟩⟩
theorem cM_turn {w : World} {K : PySem.W.Frag} {h : Heap} {mg : Str → Option Value} {P : Program} (X : K.In h) (G : h.Ns mainGlobals mg) (c : HrSays hrFx hrFn hrTf hrTs w h K) {base : Heap} (TBs : ∀ p ∈ hrCs K, LamX.TabB base mg p.1 p.2) : Mt P w K mg base (He.ga K "Chain") 3 "turn" ["self"] (sp_p_Chain_turn K (hrT K) (He.ga K "Chain")) := by
  have a40 : Meth K (He.ga K "Chain") "turn" (He.ma K (He.ga K "Chain") "turn") := He.meth_ok (c.g 53 rfl)
  obtain ⟨fd40, T40⟩ := c.fun_ (x := "turn") (q := "Chain.turn") (st := s_p_Chain_turn) (p := ("Chain", some "turn")) 39 rfl
  have b40 := T40.binds (ps := ["self"]) fun _ _ _ _ _ _ us hl => match us, hl with | [_], _ => rfl
  exact ⟨⟨_, _, ok_p_Chain_turn (T := (hrT K)) T40   (cK_TC (P := P) X G c) (cM_take_pail X G c TBs) (cM_mark_from X G c TBs) (cM_next_leaver X G c TBs) , a40, b40⟩⟩
theorem cM_turns {w : World} {K : PySem.W.Frag} {h : Heap} {mg : Str → Option Value} {P : Program} (X : K.In h) (G : h.Ns mainGlobals mg) (c : HrSays hrFx hrFn hrTf hrTs w h K) {base : Heap} (TBs : ∀ p ∈ hrCs K, LamX.TabB base mg p.1 p.2) : Mt P w K mg base (He.ga K "Chain") 4 "turns" ["self"] (sp_p_Chain_turns K (hrT K) (He.ga K "Chain")) := by
  have a41 : Meth K (He.ga K "Chain") "turns" (He.ma K (He.ga K "Chain") "turns") := He.meth_ok (c.g 54 rfl)
  obtain ⟨fd41, T41⟩ := c.fun_ (x := "turns") (q := "Chain.turns") (st := s_p_Chain_turns) (p := ("Chain", some "turns")) 40 rfl
  have b41 := T41.binds (ps := ["self"]) fun _ _ _ _ _ _ us hl => match us, hl with | [_], _ => rfl
  exact ⟨⟨_, _, ok_p_Chain_turns (T := (hrT K)) T41   (cK_TC (P := P) X G c) (cM_turn X G c TBs) , a41, b41⟩⟩
theorem cF_p_is_stretch {w : World} {K : PySem.W.Frag} {h : Heap} {mg : Str → Option Value} {P : Program} (X : K.In h) (G : h.Ns mainGlobals mg) (c : HrSays hrFx hrFn hrTf hrTs w h K) {base : Heap} (TBs : ∀ p ∈ hrCs K, LamX.TabB base mg p.1 p.2) : Fn P w K mg base 1 "is_stretch" ["thing"] (sp_p_is_stretch K (hrT K)) := by
  have a42 : mg "is_stretch" = some (.ref (He.ga K "is_stretch")) := He.glo_ok X G (c.g 55 rfl)
  obtain ⟨⟨fd42, T42⟩, H42, n42⟩ := c.fnc X (x := "is_stretch") (q := "is_stretch") (st := s_p_is_stretch) (p := ("is_stretch", none)) 41 1 rfl rfl
  have b42 := T42.binds (ps := ["thing"]) fun _ _ _ _ _ us hl => match us, hl with | [_], _ => rfl
  obtain ⟨t_MOST_STEPS_OR_TOIL, y_MOST_STEPS_OR_TOIL⟩ := He.int_ok (x := "MOST_STEPS_OR_TOIL") (i := 9) X G (c.g 129 rfl)
  have a2 : mg "is_number" = some (.ref (He.ga K "is_number")) := He.glo_ok X G (c.g 15 rfl)
  obtain ⟨fd2, T2⟩ := c.fun_ (x := "is_number") (q := "is_number") (st := s_p_is_number) (p := ("is_number", none)) 1 rfl
  have b2 := T2.binds (ps := ["thing"]) fun _ _ _ _ _ _ us hl => match us, hl with | [_], _ => rfl
  have a3 : mg "is_within" = some (.ref (He.ga K "is_within")) := He.glo_ok X G (c.g 16 rfl)
  obtain ⟨fd3, T3⟩ := c.fun_ (x := "is_within") (q := "is_within") (st := s_p_is_within) (p := ("is_within", none)) 2 rfl
  have b3 := T3.binds (ps := ["thing", "least", "most"]) fun _ _ _ _ _ _ us hl => match us, hl with | [_, _, _], _ => rfl
  have B42 : LamX.TabB base mg (He.cT K (("is_stretch", none))).1 (He.cT K (("is_stretch", none))).2 := TBs ((He.cT K (("is_stretch", none))).1, (He.cT K (("is_stretch", none))).2) (by simp [hrCs])
  exact Fn.mk' (ok_p_is_stretch (T := (hrT K)) T42 (hrT_nd X G c) (by simp [hrT]) (gx_lam B42) (cB X G c) ⟨⟨_, rfl⟩, y_MOST_STEPS_OR_TOIL⟩   (with_of T3) T3.kp a3 (num_of T2) T2.kp a2) a42 T42.kp b42
theorem cF_p_check_way {w : World} {K : PySem.W.Frag} {h : Heap} {mg : Str → Option Value} {P : Program} (X : K.In h) (G : h.Ns mainGlobals mg) (c : HrSays hrFx hrFn hrTf hrTs w h K) {base : Heap} (TBs : ∀ p ∈ hrCs K, LamX.TabB base mg p.1 p.2) : Fx P w K mg base 4 "check_way" ["way"] (sp_p_check_way K (hrT K) (He.ga K "PailError")) := by
  have a43 : mg "check_way" = some (.ref (He.ga K "check_way")) := He.glo_ok X G (c.g 56 rfl)
  obtain ⟨fd43, T43⟩ := c.fun_ (x := "check_way") (q := "check_way") (st := s_p_check_way) (p := ("check_way", none)) 42 rfl
  have b43 := T43.binds (ps := ["way"]) fun _ _ _ _ _ _ us hl => match us, hl with | [_], _ => rfl
  obtain ⟨t_MOST_STRETCHES, y_MOST_STRETCHES⟩ := He.int_ok (x := "MOST_STRETCHES") (i := 6) X G (c.g 130 rfl)
  exact Fx.mk' (ok_p_check_way (T := (hrT K)) T43 (cB X G c) ⟨⟨_, rfl⟩, y_MOST_STRETCHES⟩ (cR_BadWay X G c) (cF_p_is_stretch X G c TBs) ) a43 T43.kp b43
theorem cF_p_labour {w : World} {K : PySem.W.Frag} {h : Heap} {mg : Str → Option Value} {P : Program} (X : K.In h) (G : h.Ns mainGlobals mg) (c : HrSays hrFx hrFn hrTf hrTs w h K) {base : Heap} (TBs : ∀ p ∈ hrCs K, LamX.TabB base mg p.1 p.2) : Fx P w K mg base 5 "labour" ["way"] (sp_p_labour K (hrT K) (He.ga K "PailError")) := by
  have a44 : mg "labour" = some (.ref (He.ga K "labour")) := He.glo_ok X G (c.g 57 rfl)
  obtain ⟨⟨fd44, T44⟩, H44, n44⟩ := c.fnc X (x := "labour") (q := "labour") (st := s_p_labour) (p := ("labour", none)) 43 2 rfl rfl
  have b44 := T44.binds (ps := ["way"]) fun _ _ _ _ _ us hl => match us, hl with | [_], _ => rfl
  have B44 : LamX.TabB base mg (He.cT K (("labour", none))).1 (He.cT K (("labour", none))).2 := TBs ((He.cT K (("labour", none))).1, (He.cT K (("labour", none))).2) (by simp [hrCs])
  exact Fx.mk' (ok_p_labour (T := (hrT K)) T44 (hrT_nd X G c) (by simp [hrT]) (gx_lam B44) (cB X G c)   (cF_p_check_way X G c TBs) ) a44 T44.kp b44
theorem cF_p_check_way_t {w : World} {K : PySem.W.Frag} {h : Heap} {mg : Str → Option Value} {P : Program} (X : K.In h) (G : h.Ns mainGlobals mg) (c : HrSays hrFx hrFn hrTf hrTs w h K) {base : Heap} (TBs : ∀ p ∈ hrCs K, LamX.TabB base mg p.1 p.2) : Fx P w K mg base 4 "check_way" ["way"] (sp_p_check_way_t K (hrT K) (He.ga K "PailError")) := by
  have a43 : mg "check_way" = some (.ref (He.ga K "check_way")) := He.glo_ok X G (c.g 56 rfl)
  obtain ⟨fd43, T43⟩ := c.fun_ (x := "check_way") (q := "check_way") (st := s_p_check_way) (p := ("check_way", none)) 42 rfl
  have b43 := T43.binds (ps := ["way"]) fun _ _ _ _ _ _ us hl => match us, hl with | [_], _ => rfl
  obtain ⟨t_MOST_STRETCHES, y_MOST_STRETCHES⟩ := He.int_ok (x := "MOST_STRETCHES") (i := 6) X G (c.g 130 rfl)
  exact Fx.mk' (ok_p_check_way_t (T := (hrT K)) T43 (cB X G c) ⟨⟨_, rfl⟩, y_MOST_STRETCHES⟩ (cR_BadWay X G c) (cF_p_is_stretch X G c TBs) ) a43 T43.kp b43
theorem cF_p_labour_t {w : World} {K : PySem.W.Frag} {h : Heap} {mg : Str → Option Value} {P : Program} (X : K.In h) (G : h.Ns mainGlobals mg) (c : HrSays hrFx hrFn hrTf hrTs w h K) {base : Heap} (TBs : ∀ p ∈ hrCs K, LamX.TabB base mg p.1 p.2) : Fx P w K mg base 5 "labour" ["way"] (sp_p_labour_t K (hrT K) (He.ga K "PailError")) := by
  have a44 : mg "labour" = some (.ref (He.ga K "labour")) := He.glo_ok X G (c.g 57 rfl)
  obtain ⟨⟨fd44, T44⟩, H44, n44⟩ := c.fnc X (x := "labour") (q := "labour") (st := s_p_labour) (p := ("labour", none)) 43 2 rfl rfl
  have b44 := T44.binds (ps := ["way"]) fun _ _ _ _ _ us hl => match us, hl with | [_], _ => rfl
  have B44 : LamX.TabB base mg (He.cT K (("labour", none))).1 (He.cT K (("labour", none))).2 := TBs ((He.cT K (("labour", none))).1, (He.cT K (("labour", none))).2) (by simp [hrCs])
  exact Fx.mk' (ok_p_labour_t (T := (hrT K)) T44 (hrT_nd X G c) (by simp [hrT]) (gx_lam B44) (cB X G c)   (cF_p_check_way_t X G c TBs) ) a44 T44.kp b44
theorem cM_init {w : World} {K : PySem.W.Frag} {h : Heap} {mg : Str → Option Value} {P : Program} (X : K.In h) (G : h.Ns mainGlobals mg) (c : HrSays hrFx hrFn hrTf hrTs w h K) {base : Heap} (TBs : ∀ p ∈ hrCs K, LamX.TabB base mg p.1 p.2) : Mnx P w K mg base (He.ga K "Chain") 6 "Chain" ["self", "way"] (sp_p_Chain___init__ K (hrT K) (He.ga K "PailError") (He.ga K "Chain")) := by
  obtain ⟨fd45, T45⟩ := c.fun_ (x := "__init__") (q := "Chain.__init__") (st := s_p_Chain___init__) (p := ("Chain", some "__init__")) 44 rfl
  have b45 := T45.binds (ps := ["self", "way"]) fun _ _ _ _ _ _ us hl => match us, hl with | [_, _], _ => rfl
  have y_NOUGHT : mg "NOUGHT" = some (.ref (He.ga K "NOUGHT")) := (He.glo_ok X G (c.g 132 rfl))
  have x_NOUGHT : ∀ H, SqT K H (He.ga K "NOUGHT") [.int 0, .int 1] := fun H => He.tupB_ok (c.f (f := .tup "NOUGHT" [.int 0, .int 1]) 133 rfl) H
  have mk : Mk K (He.ga K "Chain") (He.ma K (He.ga K "Chain") "__init__") := He.mkr_ok (c.g 2 rfl)
  exact ⟨⟨_, _, ok_p_Chain___init__ (T := (hrT K)) T45 (cB X G c) y_NOUGHT x_NOUGHT  (cK_TC (P := P) X G c) (cF_p_labour X G c TBs) , mk, b45, (He.glo_ok X G (c.g 0 rfl))⟩⟩
theorem cM_init_t {w : World} {K : PySem.W.Frag} {h : Heap} {mg : Str → Option Value} {P : Program} (X : K.In h) (G : h.Ns mainGlobals mg) (c : HrSays hrFx hrFn hrTf hrTs w h K) {base : Heap} (TBs : ∀ p ∈ hrCs K, LamX.TabB base mg p.1 p.2) : Mnx P w K mg base (He.ga K "Chain") 6 "Chain" ["self", "way"] (sp_p_Chain___init___t K (hrT K) (He.ga K "PailError") (He.ga K "Chain")) := by
  obtain ⟨fd45, T45⟩ := c.fun_ (x := "__init__") (q := "Chain.__init__") (st := s_p_Chain___init__) (p := ("Chain", some "__init__")) 44 rfl
  have b45 := T45.binds (ps := ["self", "way"]) fun _ _ _ _ _ _ us hl => match us, hl with | [_, _], _ => rfl
  have y_NOUGHT : mg "NOUGHT" = some (.ref (He.ga K "NOUGHT")) := (He.glo_ok X G (c.g 132 rfl))
  have x_NOUGHT : ∀ H, SqT K H (He.ga K "NOUGHT") [.int 0, .int 1] := fun H => He.tupB_ok (c.f (f := .tup "NOUGHT" [.int 0, .int 1]) 133 rfl) H
  have mk : Mk K (He.ga K "Chain") (He.ma K (He.ga K "Chain") "__init__") := He.mkr_ok (c.g 2 rfl)
  exact ⟨⟨_, _, ok_p_Chain___init___t (T := (hrT K)) T45 (cB X G c) y_NOUGHT x_NOUGHT  (cK_TC (P := P) X G c) (cF_p_labour_t X G c TBs) , mk, b45, (He.glo_ok X G (c.g 0 rfl))⟩⟩
theorem cM_outs {w : World} {K : PySem.W.Frag} {h : Heap} {mg : Str → Option Value} {P : Program} (X : K.In h) (G : h.Ns mainGlobals mg) (c : HrSays hrFx hrFn hrTf hrTs w h K) {base : Heap} (TBs : ∀ p ∈ hrCs K, LamX.TabB base mg p.1 p.2) : Mx P w K mg base (He.ga K "Chain") 7 "outs" ["self", "count"] (sp_p_Chain_outs K (hrT K) (He.ga K "PailError") (He.ga K "Chain")) := by
  have a46 : Meth K (He.ga K "Chain") "outs" (He.ma K (He.ga K "Chain") "outs") := He.meth_ok (c.g 58 rfl)
  obtain ⟨fd46, T46⟩ := c.fun_ (x := "outs") (q := "Chain.outs") (st := s_p_Chain_outs) (p := ("Chain", some "outs")) 45 rfl
  have b46 := T46.binds (ps := ["self", "count"]) fun _ _ _ _ _ _ us hl => match us, hl with | [_, _], _ => rfl
  obtain ⟨t_MOST_OUTS, y_MOST_OUTS⟩ := He.int_ok (x := "MOST_OUTS") (i := 60) X G (c.g 127 rfl)
  exact ⟨⟨_, _, ok_p_Chain_outs (T := (hrT K)) T46 (cB X G c) ⟨⟨_, rfl⟩, y_MOST_OUTS⟩ (cR_BadCount X G c) (cR_Nobody X G c) (cK_TC (P := P) X G c) (cF_p_is_within X G c TBs) (cM_till_meeting X G c TBs) (cM_walk X G c TBs) (cM_turns X G c TBs) , a46, b46⟩⟩
theorem cF_p_check_ordered {w : World} {K : PySem.W.Frag} {h : Heap} {mg : Str → Option Value} {P : Program} (X : K.In h) (G : h.Ns mainGlobals mg) (c : HrSays hrFx hrFn hrTf hrTs w h K) {base : Heap} (TBs : ∀ p ∈ hrCs K, LamX.TabB base mg p.1 p.2) : Fx P w K mg base 6 "check_ordered" ["labour", "paces"] (sp_p_check_ordered K (hrT K) (He.ga K "PailError")) := by
  have a47 : mg "check_ordered" = some (.ref (He.ga K "check_ordered")) := He.glo_ok X G (c.g 59 rfl)
  obtain ⟨fd47, T47⟩ := c.fun_ (x := "check_ordered") (q := "check_ordered") (st := s_p_check_ordered) (p := ("check_ordered", none)) 46 rfl
  have b47 := T47.binds (ps := ["labour", "paces"]) fun _ _ _ _ _ _ us hl => match us, hl with | [_, _], _ => rfl
  obtain ⟨t_MOST_LABOUR, y_MOST_LABOUR⟩ := He.int_ok (x := "MOST_LABOUR") (i := 54) X G (c.g 124 rfl)
  obtain ⟨t_MOST_ORDERED, y_MOST_ORDERED⟩ := He.int_ok (x := "MOST_ORDERED") (i := 4) X G (c.g 126 rfl)
  exact Fx.mk' (ok_p_check_ordered (T := (hrT K)) T47 ⟨⟨_, rfl⟩, y_MOST_LABOUR⟩ ⟨⟨_, rfl⟩, y_MOST_ORDERED⟩ (cR_BadLabour X G c) (cF_p_is_within X G c TBs) (cF_p_check_paces X G c TBs) ) a47 T47.kp b47
theorem cF_p_way_of {w : World} {K : PySem.W.Frag} {h : Heap} {mg : Str → Option Value} {P : Program} (X : K.In h) (G : h.Ns mainGlobals mg) (c : HrSays hrFx hrFn hrTf hrTs w h K) {base : Heap} (TBs : ∀ p ∈ hrCs K, LamX.TabB base mg p.1 p.2) : Fn P w K mg base 1 "way_of" ["labour"] (sp_p_way_of K (hrT K)) := by
  have a48 : mg "way_of" = some (.ref (He.ga K "way_of")) := He.glo_ok X G (c.g 60 rfl)
  obtain ⟨fd48, T48⟩ := c.fun_ (x := "way_of") (q := "way_of") (st := s_p_way_of) (p := ("way_of", none)) 47 rfl
  have b48 := T48.binds (ps := ["labour"]) fun _ _ _ _ _ _ us hl => match us, hl with | [_], _ => rfl
  obtain ⟨t_LONGEST_STRETCH, y_LONGEST_STRETCH⟩ := He.int_ok (x := "LONGEST_STRETCH") (i := 9) X G (c.g 122 rfl)
  exact Fn.mk' (ok_p_way_of (T := (hrT K)) T48 (cB X G c) ⟨⟨_, rfl⟩, y_LONGEST_STRETCH⟩   ) a48 T48.kp b48
theorem cF_p_begun {w : World} {K : PySem.W.Frag} {h : Heap} {mg : Str → Option Value} {P : Program} (X : K.In h) (G : h.Ns mainGlobals mg) (c : HrSays hrFx hrFn hrTf hrTs w h K) {base : Heap} (TBs : ∀ p ∈ hrCs K, LamX.TabB base mg p.1 p.2) : Fx P w K mg base 8 "begun" ["labour", "paces"] (sp_p_begun K (hrT K) (He.ga K "PailError") (He.ga K "Chain")) := by
  have a49 : mg "begun" = some (.ref (He.ga K "begun")) := He.glo_ok X G (c.g 61 rfl)
  obtain ⟨fd49, T49⟩ := c.fun_ (x := "begun") (q := "begun") (st := s_p_begun) (p := ("begun", none)) 48 rfl
  have b49 := T49.binds (ps := ["labour", "paces"]) fun _ _ _ _ _ _ us hl => match us, hl with | [_, _], _ => rfl
  obtain ⟨t_NAMES, y_NAMES⟩ := He.str_ok (x := "NAMES") (z := "abcd") X G (c.g 131 rfl)
  exact Fx.mk' (ok_p_begun (T := (hrT K)) T49 (cB X G c) ⟨⟨_, rfl⟩, y_NAMES⟩  (cK_TC (P := P) X G c) (cM_enter X G c TBs) (cM_init X G c TBs) (cF_p_way_of X G c TBs) ) a49 T49.kp b49
theorem cF_l_same {w : World} {K : PySem.W.Frag} {h : Heap} {mg : Str → Option Value} {P : Program} (X : K.In h) (G : h.Ns mainGlobals mg) (c : HrSays hrFx hrFn hrTf hrTs w h K) {base : Heap} (TBs : ∀ p ∈ hrCs K, LamX.TabB base mg p.1 p.2) : Fn P w K mg base 6 "_law_same" ["_law_found", "_law_due"] (sp_l_same K (hrT K)) := by
  have a50 : mg "_law_same" = some (.ref (He.ga K "_law_same")) := He.glo_ok X G (c.g 62 rfl)
  obtain ⟨fd50, T50⟩ := c.fun_ (x := "_law_same") (q := "_law_same") (st := s_l_same) (p := ("_law_same", none)) 49 rfl
  have b50 := T50.binds (ps := ["_law_found", "_law_due"]) fun _ _ _ _ _ _ us hl => match us, hl with | [_, _], _ => rfl
  exact Fn.mk' (ok_l_same (T := (hrT K)) T50 (cB X G c) a50 b50    ) a50 T50.kp b50
theorem cF_l_gcd {w : World} {K : PySem.W.Frag} {h : Heap} {mg : Str → Option Value} {P : Program} (X : K.In h) (G : h.Ns mainGlobals mg) (c : HrSays hrFx hrFn hrTf hrTs w h K) {base : Heap} (TBs : ∀ p ∈ hrCs K, LamX.TabB base mg p.1 p.2) : Fn P w K mg base 1 "_law_gcd" ["_law_one", "_law_other"] (sp_l_gcd K (hrT K)) := by
  have a51 : mg "_law_gcd" = some (.ref (He.ga K "_law_gcd")) := He.glo_ok X G (c.g 63 rfl)
  obtain ⟨fd51, T51⟩ := c.fun_ (x := "_law_gcd") (q := "_law_gcd") (st := s_l_gcd) (p := ("_law_gcd", none)) 50 rfl
  have b51 := T51.binds (ps := ["_law_one", "_law_other"]) fun _ _ _ _ _ _ us hl => match us, hl with | [_, _], _ => rfl
  exact Fn.mk' (ok_l_gcd (T := (hrT K)) T51    ) a51 T51.kp b51
theorem cF_l_amt {w : World} {K : PySem.W.Frag} {h : Heap} {mg : Str → Option Value} {P : Program} (X : K.In h) (G : h.Ns mainGlobals mg) (c : HrSays hrFx hrFn hrTf hrTs w h K) {base : Heap} (TBs : ∀ p ∈ hrCs K, LamX.TabB base mg p.1 p.2) : Fn P w K mg base 2 "_law_amt" ["_law_num", "_law_den"] (sp_l_amt K (hrT K)) := by
  have a52 : mg "_law_amt" = some (.ref (He.ga K "_law_amt")) := He.glo_ok X G (c.g 64 rfl)
  obtain ⟨fd52, T52⟩ := c.fun_ (x := "_law_amt") (q := "_law_amt") (st := s_l_amt) (p := ("_law_amt", none)) 51 rfl
  have b52 := T52.binds (ps := ["_law_num", "_law_den"]) fun _ _ _ _ _ _ us hl => match us, hl with | [_, _], _ => rfl
  exact Fn.mk' (ok_l_amt (T := (hrT K)) T52 (cB X G c)   (cF_l_gcd X G c TBs) ) a52 T52.kp b52
theorem cF_l_mul {w : World} {K : PySem.W.Frag} {h : Heap} {mg : Str → Option Value} {P : Program} (X : K.In h) (G : h.Ns mainGlobals mg) (c : HrSays hrFx hrFn hrTf hrTs w h K) {base : Heap} (TBs : ∀ p ∈ hrCs K, LamX.TabB base mg p.1 p.2) : Fn P w K mg base 3 "_law_mul" ["_law_one", "_law_number"] (sp_l_mul K (hrT K)) := by
  have a53 : mg "_law_mul" = some (.ref (He.ga K "_law_mul")) := He.glo_ok X G (c.g 65 rfl)
  obtain ⟨fd53, T53⟩ := c.fun_ (x := "_law_mul") (q := "_law_mul") (st := s_l_mul) (p := ("_law_mul", none)) 52 rfl
  have b53 := T53.binds (ps := ["_law_one", "_law_number"]) fun _ _ _ _ _ _ us hl => match us, hl with | [_, _], _ => rfl
  exact Fn.mk' (ok_l_mul (T := (hrT K)) T53   (cF_l_amt X G c TBs) ) a53 T53.kp b53
theorem cF_l_less {w : World} {K : PySem.W.Frag} {h : Heap} {mg : Str → Option Value} {P : Program} (X : K.In h) (G : h.Ns mainGlobals mg) (c : HrSays hrFx hrFn hrTf hrTs w h K) {base : Heap} (TBs : ∀ p ∈ hrCs K, LamX.TabB base mg p.1 p.2) : Fn P w K mg base 1 "_law_less" ["_law_one", "_law_other"] (sp_l_less K (hrT K)) := by
  have a54 : mg "_law_less" = some (.ref (He.ga K "_law_less")) := He.glo_ok X G (c.g 66 rfl)
  obtain ⟨fd54, T54⟩ := c.fun_ (x := "_law_less") (q := "_law_less") (st := s_l_less) (p := ("_law_less", none)) 53 rfl
  have b54 := T54.binds (ps := ["_law_one", "_law_other"]) fun _ _ _ _ _ _ us hl => match us, hl with | [_, _], _ => rfl
  exact Fn.mk' (ok_l_less (T := (hrT K)) T54    ) a54 T54.kp b54
theorem cF_l_task {w : World} {K : PySem.W.Frag} {h : Heap} {mg : Str → Option Value} {P : Program} (X : K.In h) (G : h.Ns mainGlobals mg) (c : HrSays hrFx hrFn hrTf hrTs w h K) {base : Heap} (TBs : ∀ p ∈ hrCs K, LamX.TabB base mg p.1 p.2) : Fn P w K mg base 4 "_law_task" ["_law_cell_here", "_law_most"] (sp_l_task K (hrT K)) := by
  have a55 : mg "_law_task" = some (.ref (He.ga K "_law_task")) := He.glo_ok X G (c.g 67 rfl)
  obtain ⟨fd55, T55⟩ := c.fun_ (x := "_law_task") (q := "_law_task") (st := s_l_task) (p := ("_law_task", none)) 54 rfl
  have b55 := T55.binds (ps := ["_law_cell_here", "_law_most"]) fun _ _ _ _ _ _ us hl => match us, hl with | [_, _], _ => rfl
  exact Fn.mk' (ok_l_task (T := (hrT K)) T55 (cB X G c)   (cF_l_draws X G c TBs) (cF_l_amt X G c TBs) (cF_l_mul X G c TBs) (cF_l_less X G c TBs) ) a55 T55.kp b55
theorem cF_l_add {w : World} {K : PySem.W.Frag} {h : Heap} {mg : Str → Option Value} {P : Program} (X : K.In h) (G : h.Ns mainGlobals mg) (c : HrSays hrFx hrFn hrTf hrTs w h K) {base : Heap} (TBs : ∀ p ∈ hrCs K, LamX.TabB base mg p.1 p.2) : Fn P w K mg base 3 "_law_add" ["_law_one", "_law_other"] (sp_l_add K (hrT K)) := by
  have a56 : mg "_law_add" = some (.ref (He.ga K "_law_add")) := He.glo_ok X G (c.g 68 rfl)
  obtain ⟨fd56, T56⟩ := c.fun_ (x := "_law_add") (q := "_law_add") (st := s_l_add) (p := ("_law_add", none)) 55 rfl
  have b56 := T56.binds (ps := ["_law_one", "_law_other"]) fun _ _ _ _ _ _ us hl => match us, hl with | [_, _], _ => rfl
  exact Fn.mk' (ok_l_add (T := (hrT K)) T56   (cF_l_amt X G c TBs) ) a56 T56.kp b56
theorem cF_p_is_told {w : World} {K : PySem.W.Frag} {h : Heap} {mg : Str → Option Value} {P : Program} (X : K.In h) (G : h.Ns mainGlobals mg) (c : HrSays hrFx hrFn hrTf hrTs w h K) {base : Heap} (TBs : ∀ p ∈ hrCs K, LamX.TabB base mg p.1 p.2) : Fn P w K mg base 1 "is_told" ["row", "known"] (sp_p_is_told K (hrT K)) := by
  have a57 : mg "is_told" = some (.ref (He.ga K "is_told")) := He.glo_ok X G (c.g 69 rfl)
  obtain ⟨⟨fd57, T57⟩, H57, n57⟩ := c.fnc X (x := "is_told") (q := "is_told") (st := s_p_is_told) (p := ("is_told", none)) 56 3 rfl rfl
  have b57 := T57.binds (ps := ["row", "known"]) fun _ _ _ _ _ us hl => match us, hl with | [_, _], _ => rfl
  have a2 : mg "is_number" = some (.ref (He.ga K "is_number")) := He.glo_ok X G (c.g 15 rfl)
  obtain ⟨fd2, T2⟩ := c.fun_ (x := "is_number") (q := "is_number") (st := s_p_is_number) (p := ("is_number", none)) 1 rfl
  have b2 := T2.binds (ps := ["thing"]) fun _ _ _ _ _ _ us hl => match us, hl with | [_], _ => rfl
  have B57 : LamX.TabB base mg (He.cT K (("is_told", none))).1 (He.cT K (("is_told", none))).2 := TBs ((He.cT K (("is_told", none))).1, (He.cT K (("is_told", none))).2) (by simp [hrCs])
  exact Fn.mk' (ok_p_is_told (T := (hrT K)) T57 (hrT_nd X G c) (by simp [hrT]) (gx_lam B57) (cB X G c)    (num_of T2) T2.kp a2) a57 T57.kp b57
theorem cF_p_row_now {w : World} {K : PySem.W.Frag} {h : Heap} {mg : Str → Option Value} {P : Program} (X : K.In h) (G : h.Ns mainGlobals mg) (c : HrSays hrFx hrFn hrTf hrTs w h K) {base : Heap} (TBs : ∀ p ∈ hrCs K, LamX.TabB base mg p.1 p.2) : Fn P w K mg base 6 "row_now" ["chain"] (sp_p_row_now K (hrT K) (He.ga K "Chain")) := by
  have a58 : mg "row_now" = some (.ref (He.ga K "row_now")) := He.glo_ok X G (c.g 70 rfl)
  obtain ⟨fd58, T58⟩ := c.fun_ (x := "row_now") (q := "row_now") (st := s_p_row_now) (p := ("row_now", none)) 57 rfl
  have b58 := T58.binds (ps := ["chain"]) fun _ _ _ _ _ _ us hl => match us, hl with | [_], _ => rfl
  exact Fn.mk' (ok_p_row_now (T := (hrT K)) T58   (cK_TC (P := P) X G c) (cM_hands X G c TBs) (cM_place X G c TBs) (cM_hour X G c TBs) ) a58 T58.kp b58
theorem cF_p_log_fault {w : World} {K : PySem.W.Frag} {h : Heap} {mg : Str → Option Value} {P : Program} (X : K.In h) (G : h.Ns mainGlobals mg) (c : HrSays hrFx hrFn hrTf hrTs w h K) {base : Heap} (TBs : ∀ p ∈ hrCs K, LamX.TabB base mg p.1 p.2) : Fx P w K mg base 9 "log_fault" ["labour", "paces", "rows"] (sp_p_log_fault K (hrT K) (He.ga K "PailError") (He.ga K "Chain")) := by
  have a59 : mg "log_fault" = some (.ref (He.ga K "log_fault")) := He.glo_ok X G (c.g 71 rfl)
  obtain ⟨fd59, T59⟩ := c.fun_ (x := "log_fault") (q := "log_fault") (st := s_p_log_fault) (p := ("log_fault", none)) 58 rfl
  have b59 := T59.binds (ps := ["labour", "paces", "rows"]) fun _ _ _ _ _ _ us hl => match us, hl with | [_, _, _], _ => rfl
  exact Fx.mk' (ok_p_log_fault (T := (hrT K)) T59 (cB X G c)   (cK_TC (P := P) X G c) (cM_outs X G c TBs) (cF_p_check_ordered X G c TBs) (cF_p_begun X G c TBs) (cF_p_is_told X G c TBs) (cF_p_row_now X G c TBs) ) a59 T59.kp b59
theorem cF_l_way {w : World} {K : PySem.W.Frag} {h : Heap} {mg : Str → Option Value} {P : Program} (X : K.In h) (G : h.Ns mainGlobals mg) (c : HrSays hrFx hrFn hrTf hrTs w h K) {base : Heap} (TBs : ∀ p ∈ hrCs K, LamX.TabB base mg p.1 p.2) : Fn P w K mg base 2 "_law_way" ["_law_cell_here"] (sp_l_way K (hrT K)) := by
  have a60 : mg "_law_way" = some (.ref (He.ga K "_law_way")) := He.glo_ok X G (c.g 72 rfl)
  obtain ⟨fd60, T60⟩ := c.fun_ (x := "_law_way") (q := "_law_way") (st := s_l_way) (p := ("_law_way", none)) 59 rfl
  have b60 := T60.binds (ps := ["_law_cell_here"]) fun _ _ _ _ _ _ us hl => match us, hl with | [_], _ => rfl
  exact Fn.mk' (ok_l_way (T := (hrT K)) T60 (cB X G c)   (cF_l_draws X G c TBs) ) a60 T60.kp b60
theorem cF_l_labour {w : World} {K : PySem.W.Frag} {h : Heap} {mg : Str → Option Value} {P : Program} (X : K.In h) (G : h.Ns mainGlobals mg) (c : HrSays hrFx hrFn hrTf hrTs w h K) {base : Heap} (TBs : ∀ p ∈ hrCs K, LamX.TabB base mg p.1 p.2) : Fn P w K mg base 1 "_law_labour" ["_law_way_here"] (sp_l_labour K (hrT K)) := by
  have a61 : mg "_law_labour" = some (.ref (He.ga K "_law_labour")) := He.glo_ok X G (c.g 73 rfl)
  obtain ⟨fd61, T61⟩ := c.fun_ (x := "_law_labour") (q := "_law_labour") (st := s_l_labour) (p := ("_law_labour", none)) 60 rfl
  have b61 := T61.binds (ps := ["_law_way_here"]) fun _ _ _ _ _ _ us hl => match us, hl with | [_], _ => rfl
  exact Fn.mk' (ok_l_labour (T := (hrT K)) T61 (cB X G c)    ) a61 T61.kp b61
theorem cF_l_draws_f {w : World} {K : PySem.W.Frag} {h : Heap} {mg : Str → Option Value} {P : Program} (X : K.In h) (G : h.Ns mainGlobals mg) (c : HrSays hrFx hrFn hrTf hrTs w h K) {base : Heap} (TBs : ∀ p ∈ hrCs K, LamX.TabB base mg p.1 p.2) : Fn P w K mg base 1 "_law_draws" ["_law_cell_here", "_law_parts"] (sp_l_draws_f K (hrT K)) := by
  have a13 : mg "_law_draws" = some (.ref (He.ga K "_law_draws")) := He.glo_ok X G (c.g 26 rfl)
  obtain ⟨fd13, T13⟩ := c.fun_ (x := "_law_draws") (q := "_law_draws") (st := s_l_draws) (p := ("_law_draws", none)) 12 rfl
  have b13 := T13.binds (ps := ["_law_cell_here", "_law_parts"]) fun _ _ _ _ _ _ us hl => match us, hl with | [_, _], _ => rfl
  exact Fn.mk' (ok_l_draws_f (T := (hrT K)) T13    ) a13 T13.kp b13
theorem cF_l_name {w : World} {K : PySem.W.Frag} {h : Heap} {mg : Str → Option Value} {P : Program} (X : K.In h) (G : h.Ns mainGlobals mg) (c : HrSays hrFx hrFn hrTf hrTs w h K) {base : Heap} (TBs : ∀ p ∈ hrCs K, LamX.TabB base mg p.1 p.2) : Fn P w K mg base 2 "_law_name" ["_law_k", "_law_salt"] (sp_l_name K (hrT K)) := by
  have a62 : mg "_law_name" = some (.ref (He.ga K "_law_name")) := He.glo_ok X G (c.g 74 rfl)
  obtain ⟨fd62, T62⟩ := c.fun_ (x := "_law_name") (q := "_law_name") (st := s_l_name) (p := ("_law_name", none)) 61 rfl
  have b62 := T62.binds (ps := ["_law_k", "_law_salt"]) fun _ _ _ _ _ _ us hl => match us, hl with | [_, _], _ => rfl
  exact Fn.mk' (ok_l_name (T := (hrT K)) T62   (cF_l_draws_f X G c TBs) ) a62 T62.kp b62
theorem all_mk {l : PySem.W.OpenLaw} {w : World} {K : PySem.W.Frag} {h : Heap} {mg : Str → Option Value} {fa : Addr} (X : K.In h) (G : h.Ns mainGlobals mg) (hfa : mg "law" = some (.ref fa)) (c : HrSays hrFx hrFn hrTf hrTs w h K)
    : LamX.LawAtS l w K (L2.CX l.prog w) 24 63 "_law_script" mg fa h := by
  have a63 : mg "law" = some (.ref (He.ga K "law")) := He.glo_ok X G (c.g 75 rfl)
  obtain ⟨⟨fd63, T63⟩, H63, n63⟩ := c.fnc X (x := "law") (q := "law") (st := s_LAW) (p := ("law", none)) 62 4 rfl rfl
  have e := hfa.symm.trans a63
  cases e
  have Tl := T63
  obtain ⟨ocl, odl, kVl, dcl, pml, anl, ctl, sll, efl, lkl, cil⟩ := Tl.ex
  have efl2 := efl
  subst efl2
  refine ⟨PySem.W.fnOf "law" "law" (defArgs s_LAW) (defBody s_LAW) (defScope s_LAW) .none kVl dcl pml anl (.ref (He.cT K (("law", none))).1) ctl, hrCs K, sp_LAW K (hrT K) (He.ga K "PailError") (He.ga K "Chain"), ?_, ?_, ?_, fun s v => .of_eq rfl, ?_, fun base _ _ TBs => ?_⟩
  · intro p hp
    simp only [hrCs, List.mem_cons, List.not_mem_nil, or_false] at hp
    rcases hp with rfl | rfl | rfl | rfl | rfl
    · obtain ⟨_, H_, n_⟩ := c.fnc X (x := "is_name") (q := "is_name") (st := s_p_is_name) (p := ("is_name", none)) 17 0 rfl rfl
      exact H_.2
    · obtain ⟨_, H_, n_⟩ := c.fnc X (x := "is_stretch") (q := "is_stretch") (st := s_p_is_stretch) (p := ("is_stretch", none)) 41 1 rfl rfl
      exact H_.2
    · obtain ⟨_, H_, n_⟩ := c.fnc X (x := "labour") (q := "labour") (st := s_p_labour) (p := ("labour", none)) 43 2 rfl rfl
      exact H_.2
    · obtain ⟨_, H_, n_⟩ := c.fnc X (x := "is_told") (q := "is_told") (st := s_p_is_told) (p := ("is_told", none)) 56 3 rfl rfl
      exact H_.2
    · obtain ⟨_, H_, n_⟩ := c.fnc X (x := "law") (q := "law") (st := s_LAW) (p := ("law", none)) 62 4 rfl rfl
      exact H_.2
  · intro p hp
    simp only [hrCs, List.mem_cons, List.not_mem_nil, or_false] at hp
    rcases hp with rfl | rfl | rfl | rfl | rfl
    · obtain ⟨_, H_, n_⟩ := c.fnc X (x := "is_name") (q := "is_name") (st := s_p_is_name) (p := ("is_name", none)) 17 0 rfl rfl
      exact n_
    · obtain ⟨_, H_, n_⟩ := c.fnc X (x := "is_stretch") (q := "is_stretch") (st := s_p_is_stretch) (p := ("is_stretch", none)) 41 1 rfl rfl
      exact n_
    · obtain ⟨_, H_, n_⟩ := c.fnc X (x := "labour") (q := "labour") (st := s_p_labour) (p := ("labour", none)) 43 2 rfl rfl
      exact n_
    · obtain ⟨_, H_, n_⟩ := c.fnc X (x := "is_told") (q := "is_told") (st := s_p_is_told) (p := ("is_told", none)) 56 3 rfl rfl
      exact n_
    · obtain ⟨_, H_, n_⟩ := c.fnc X (x := "law") (q := "law") (st := s_LAW) (p := ("law", none)) 62 4 rfl rfl
      exact n_
  · intro p hp
    simp only [hrCs, List.mem_cons, List.not_mem_nil, or_false] at hp
    rcases hp with rfl | rfl | rfl | rfl | rfl
    · obtain ⟨_, H_, n_⟩ := c.fnc X (x := "is_name") (q := "is_name") (st := s_p_is_name) (p := ("is_name", none)) 17 0 rfl rfl
      exact H_.1
    · obtain ⟨_, H_, n_⟩ := c.fnc X (x := "is_stretch") (q := "is_stretch") (st := s_p_is_stretch) (p := ("is_stretch", none)) 41 1 rfl rfl
      exact H_.1
    · obtain ⟨_, H_, n_⟩ := c.fnc X (x := "labour") (q := "labour") (st := s_p_labour) (p := ("labour", none)) 43 2 rfl rfl
      exact H_.1
    · obtain ⟨_, H_, n_⟩ := c.fnc X (x := "is_told") (q := "is_told") (st := s_p_is_told) (p := ("is_told", none)) 56 3 rfl rfl
      exact H_.1
    · obtain ⟨_, H_, n_⟩ := c.fnc X (x := "law") (q := "law") (st := s_LAW) (p := ("law", none)) 62 4 rfl rfl
      exact H_.1
  · intro H a ns hlen hbits hT hS
    refine ⟨a, ns, rfl, hS, hlen, hbits, ?_, fun _ => rfl⟩
    intro p hp
    simp only [hrT, List.mem_cons, List.not_mem_nil, or_false] at hp
    rcases hp with rfl | rfl | rfl | rfl | rfl
    · exact okG0 (hT ((He.cT K (("is_name", none))).1, (He.cT K (("is_name", none))).2) (by simp [hrCs]))
    · exact okG0 (hT ((He.cT K (("is_stretch", none))).1, (He.cT K (("is_stretch", none))).2) (by simp [hrCs]))
    · exact okG0 (hT ((He.cT K (("labour", none))).1, (He.cT K (("labour", none))).2) (by simp [hrCs]))
    · exact okG0 (hT ((He.cT K (("is_told", none))).1, (He.cT K (("is_told", none))).2) (by simp [hrCs]))
    · exact okS0 (hT ((He.cT K (("law", none))).1, (He.cT K (("law", none))).2) (by simp [hrCs]))
  have B63 : LamX.TabB base mg (He.cT K (("law", none))).1 (He.cT K (("law", none))).2 := TBs ((He.cT K (("law", none))).1, (He.cT K (("law", none))).2) (by simp [hrCs])
  exact ok_LAW (T := (hrT K)) T63 (hrT_nd X G c) (by simp [hrT]) B63 (cB X G c)   (cW (P := l.prog) X G c) (cK_TC (P := l.prog) X G c) (cF_l_cell X G c TBs) (cF_l_draws X G c TBs) (cF_l_many X G c TBs) (cF_l_split X G c TBs) (cM_enter X G c TBs) (cM_place X G c TBs) (cM_hour X G c TBs) (cM_init X G c TBs) (cM_outs X G c TBs) (cF_l_same X G c TBs) (cF_l_task X G c TBs) (cF_l_add X G c TBs) (cF_p_log_fault X G c TBs) (cF_l_way X G c TBs) (cF_l_labour X G c TBs) (cF_l_name X G c TBs) 
end My
open PySem PySem.W PyProof.Rows
set_option maxRecDepth 100000 in
set_option maxHeartbeats 0 in
theorem PySem.Challenge.cw_pailchain_k41_whole_logs_of_chains_holds : PySem.Challenge.rw_pailchain_k41_whole_logs_of_chains.Holds := by
  w_on; o_law
  refine HandSHeadRun.head_any (r := (PySem.W.OpenLaw.row PySem.Challenge.rw_pailchain_k41_whole_logs_of_chains)) (q := view (OpenLaw.row PySem.Challenge.rw_pailchain_k41_whole_logs_of_chains).prog [75]) (H := My.hrHook My.hrFx My.hrFn My.hrTf My.hrTs) (ob := My.hrOb My.hrFx My.hrFn My.hrTf My.hrTs) (M := 60000) (loose := My.hrLoose) (d := HandSHeadRun.topDef (OpenLaw.row PySem.Challenge.rw_pailchain_k41_whole_logs_of_chains).prog 75) (kwd := []) My.hrOb_eq (by kernel_rfl) (fun s => by kernel_rfl) My.hrRun (by kernel_rfl) (by kernel_rfl) (by kernel_rfl) (by rfl) (by first | assumption | decide +kernel) (by decide +kernel) ⟨rfl, rfl, rfl, rfl, rfl, by decide +kernel⟩ ?hw ?hc
  case hw => w_witness2
  case hc =>
    refine LamX.walk_ofTsE (l := PySem.Challenge.rw_pailchain_k41_whole_logs_of_chains) (n := 63) (k := 24) (x := "_law_script") (CX := fun w => L2.CX PySem.Challenge.rw_pailchain_k41_whole_logs_of_chains.prog w) rfl (by decide) (by kernel_rfl) ⟨rfl, by decide, by decide⟩ ?F (fun _ _ _ _ _ ⟨_, _, _, _, _, _, _, _, _, _, _, _, z⟩ => z)
    intro w mg fa h Y G hmg0
    obtain ⟨K, KX, c⟩ := Y
    have hmg : mg ("law" : PySem.Str) = some (.ref fa) := by
      have e : (HandSHeadRun.topDef (OpenLaw.row PySem.Challenge.rw_pailchain_k41_whole_logs_of_chains).prog 75).name = ("law" : PySem.Str) := by kernel_rfl
      rw [← e]; exact hmg0
    exact ⟨K, KX, My.all_mk KX G hmg c⟩
