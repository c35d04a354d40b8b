import PyProof.Rows.All
import HandS.Star
import Wide.All
import OpenK.AllK
import Wide.FinOn
import HandS.ForMost
import HandS.Wide
import HandS.IsInst
import HandS.NoneIn
import HandS.EndBits
import HandS.FStr
import HandS.ClsMeth
import HandS.ExcField
import HandS.ExcInit
import HandS.ForExc
import HandS.EndTab
import HandS.Lambda
import HandS.AnyAll
import HandS.RevRange
import HandS.SortInts
import HandS.More
import HandS.Walk
import HandS.Flow
import HandS.Zip
import HandS.TupAny
import KE.GoesEnum
import KE.KStateDown
import HandS.Head2
import HandS.HeadHook4
import HandS.HeadWalk
import HandS.Codes
import HandS.StrMore
import HandS.RaiseMore
import HandS.HeadHook3
import KE.IntTextLaws
import PyProof.StrLawsAffix
import PySem.Challenge.RW_pailchain_k43_thirty_hands_and_four_chai
set_option Elab.async false
set_option linter.all false
set_option maxRecDepth 100000
set_option maxHeartbeats 4000000
namespace My
open PySem PySem.Spec PyProof.Rows L2
/-! ### a def of the text with its promise, ready to be called -/
structure Fn (P : Program) (w : World) (K : PySem.W.Frag) (mg : Str → Option Value) (base : Heap) (k : Nat) (x : Str) (ps : List Str) (sp : Sp) : Prop where
  ex : ∃ f fd, FnOk P w K mg base CX0 k f fd ps sp ∧ mg x = some (.ref f) ∧ PySem.W.keepIn K (.ref f) = true ∧ Binds K fd ps []
theorem Fn.mk' {P : Program} {w : World} {K : PySem.W.Frag} {mg : Str → Option Value} {base : Heap} {k : Nat} {x : Str} {ps : List Str} {sp : Sp} {f : Addr} {fd : FuncData}
    (h : FnOk P w K mg base CX0 k f fd ps sp) (g : mg x = some (.ref f)) (kp : PySem.W.keepIn K (.ref f) = true) (b : Binds K fd ps []) : Fn P w K mg base k x ps sp := ⟨⟨f, fd, h, g, kp, b⟩⟩
section
variable {X : Cx} {k : Nat} {x : Str} {ps : List Str} {sp : Sp} {e : Expr} {es : List Expr} {t : TA} {p pos : Pos}
theorem pe_fn (F : Fn X.prog X.w X.K X.mg X.base k x ps sp) (hr : Room k X.A) (ha : PA X (e :: es) t) (hg : Gl X x := by rfl) (hdb : (x == ("__debug__" : Str)) = false := by decide)
    (he : starEach (e :: es) X.env = (false, eval e X.env) :: starEach es X.env := by rfl) (hpl : (backTo pos (starEach es X.env)).any (·.1) = false := by rfl) :
    PE X (.Call (.Name x p) (e :: es) [] pos) (tCall sp [] E0 t) := by
  obtain ⟨f, fd, h, g, kp, b⟩ := F.ex
  exact pe_call h hr hg g kp b .nil pass0 ha hdb he hpl
theorem pe_fn0 (F : Fn X.prog X.w X.K X.mg X.base k x ps sp) (hr : Room k X.A) (hg : Gl X x := by rfl) (hdb : (x == ("__debug__" : Str)) = false := by decide) :
    PE X (.Call (.Name x p) [] [] pos) (tCall sp [] E0 tNil) := by
  obtain ⟨f, fd, h, g, kp, b⟩ := F.ex
  exact pe_call0 h hr hg g kp b .nil pass0 hdb
end
/-! ### heaps: what a def leaves; the tables of code objects may grow -/
/-- the tables that grow: a table of generator expressions (none), of lambdas (their name) -/
abbrev Tb := List (Addr × Option Str)
def OkP (H : Hp) (p : Addr × Option Str) : Prop := match p.2 with
  | none => GxR.TabG H p.1
  | some q => LamX.TabS H p.1 q
def Ok (T : Tb) (H : Hp) : Prop := ∀ p ∈ T, OkP H p
def nTbl : HO → Prop
  | .tbl _ => False
  | _ => True
structure Sm (T : Tb) (H H' : Hp) : Prop where
  keep : ∀ b o, H b = some o → nTbl o → H' b = some o
  ok : Ok T H → Ok T H'
  free : ∀ l, H' l = none → H l = none
theorem nTbl_ne {o : HO} (h : nTbl o) (ps : Array Value) : o ≠ .tbl ps := fun e => by rw [e] at h; exact h
theorem Sm.k {T : Tb} {H H' : Hp} (s : Sm T H H') {b : Addr} {o : HO} (e : H b = some o) (n : nTbl o := by trivial) : H' b = some o := s.keep b o e n
theorem Sm.refl {T : Tb} {H : Hp} : Sm T H H := ⟨fun _ _ e _ => e, fun h => h, fun _ h => h⟩
theorem Sm.trans {T : Tb} {H H1 H2 : Hp} (a : Sm T H H1) (b : Sm T H1 H2) : Sm T H H2 := ⟨fun c o e n => b.keep c o (a.keep c o e n) n, fun h => b.ok (a.ok h), fun l h => a.free l (b.free l h)⟩
theorem Sm.seq {T : Tb} {K : PySem.W.Frag} {H H' : Hp} {a : Addr} {xs : List V} (e : Sm T H H') (h : SqL K H a xs) : SqL K H' a xs := by
  rcases h with (h | ⟨o, h⟩) | h
  · exact .inl (.inl (e.keep _ _ h trivial))
  · exact .inl (.inr ⟨o, e.keep _ _ h trivial⟩)
  · exact .inr h
theorem same_tup {T : Tb} {K : PySem.W.Frag} {H H' : Hp} {a : Addr} {xs : List V} (e : Sm T H H') (h : SqT K H a xs) : SqT K H' a xs := by
  rcases h with (h | ⟨o, h⟩) | h
  · exact .inl (.inl (e.keep _ _ h trivial))
  · exact .inl (.inr ⟨o, e.keep _ _ h trivial⟩)
  · exact .inr h
theorem Sm.lst {T : Tb} {H H' : Hp} {a : Addr} {xs : List V} (e : Sm T H H') (h : H a = some (.lst xs)) : H' a = some (.lst xs) := e.keep _ _ h trivial
theorem okP_ext {H H' : Hp} {p : Addr × Option Str} (h : OkP H p) (e : ∀ b o, H b = some o → H' b = some o) : OkP H' p := by
  obtain ⟨P, q⟩ := p
  cases q with
  | none =>
    obtain ⟨ps, h1, h2⟩ := (show GxR.TabG H P from h)
    exact ⟨ps, e _ _ h1, h2⟩
  | some q => exact LamX.TabS.ext (show LamX.TabS H P q from h) e
/-- the one list at p is changed -/
theorem okP_mut {H : Hp} {p : Addr × Option Str} {a : Addr} {o : HO} {xs : List V} (h : OkP H p) (ha : H a = some (.lst xs)) : OkP (upd H a o) p := by
  have k : ∀ b u, H b = some u → u ≠ .lst xs → upd H a o b = some u := fun b u e n => by
    rw [upd_ne (fun z => n (by rw [z, ha] at e; exact (Option.some.inj e).symm))]
    exact e
  obtain ⟨P, q⟩ := p
  cases q with
  | none =>
    obtain ⟨ps, h1, h2⟩ := (show GxR.TabG H P from h)
    exact ⟨ps, k _ _ h1 (fun z => by cases z), h2⟩
  | some q =>
    obtain ⟨ps, h1, h2, h3⟩ := (show LamX.TabS H P q from h)
    refine ⟨ps, k _ _ h1 (fun z => by cases z), h2, fun pos cv hc => ?_⟩
    obtain ⟨c, e1, e2⟩ := h3 pos cv hc
    exact ⟨c, e1, k _ _ e2 (fun z => by unfold LamX.CodeO at z; cases z)⟩
theorem same_upd {T : Tb} {H : Hp} {p : Addr} {o : HO} (h : H p = none) : Sm T H (upd H p o) := by
  have k : ∀ b x, H b = some x → upd H p o b = some x := fun b x e => by
    rw [upd_ne (ne_of_none e h)]
    exact e
  refine ⟨fun b x e _ => k b x e, fun h q hq => okP_ext (h q hq) k, fun l hl => ?_⟩
  cases q : H l with
  | none => rfl
  | some x => rw [k _ _ q] at hl; cases hl
theorem same_mut {T : Tb} {H H' : Hp} {p : Addr} {o : HO} {xs : List V} (e : Sm T H H') (h : H p = none) (hp : H' p = some (.lst xs)) : Sm T H (upd H' p o) := by
  refine ⟨fun b x q n => ?_, fun hk q hq => okP_mut (e.ok hk q hq) hp, fun l hl => ?_⟩
  · rw [upd_ne (ne_of_none q h)]
    exact e.keep b x q n
  · by_cases z : l = p
    · rw [z]; exact h
    · rw [upd_ne z] at hl
      exact e.free l hl
theorem seq_k {t u : TS} {D : Ends} {σ : L2.St} {H : Hp} (P : L2.St → Hp → Prop) (hu : ∀ σ' H', P σ' H' → u D σ' H') (h : (∀ σ' H', P σ' H' → u D σ' H') → tSeq t u D σ H) : tSeq t u D σ H := h hu
theorem seq_if {c : TT} {t1 t2 u : TS} {D : Ends} {σ : L2.St} {H : Hp} (P : L2.St → Hp → Prop) (hu : ∀ σ' H', P σ' H' → u D σ' H') (h : (∀ σ' H', P σ' H' → u D σ' H') → tSeq (tIfS c t1 t2) u D σ H) : tSeq (tIfS c t1 t2) u D σ H := h hu
theorem seq_as {te : TE} {g : TG} {u : TS} {D : Ends} {σ : L2.St} {H : Hp} (P : L2.St → Hp → Prop) (hu : ∀ σ' H', P σ' H' → u D σ' H') (h : (∀ σ' H', P σ' H' → u D σ' H') → tSeq (tAsg te g) u D σ H) : tSeq (tAsg te g) u D σ H := h hu
theorem sz {n : Nat} (h : n ≤ 10000) : n ≤ sizeLine := Nat.le_trans h (by decide)
theorem szl {n : Nat} (h : n < 10000) : n < sizeLine := Nat.lt_of_lt_of_le h (by decide)
/-! ### data -/
mutual
theorem dp_same {T : Tb} {K : PySem.W.Frag} {H H' : Hp} (e : Sm T H H') : ∀ (d : PyData) (v : V), Dp K H v d → Dp K H' v d
  | .none, _, h => by cases h; exact .non
  | .bool b, _, h => by cases h; exact .bl b
  | .int i, _, h => by cases h; exact .int i
  | .str x, _, h => by cases h; exact .str x
  | .list ds, _, h => by
    cases h with
    | lst hs ha => exact .lst (e.seq hs) (dpa_same e ds _ ha)
  | .tuple ds, _, h => by
    cases h with
    | tup hs ha => exact .tup (same_tup e hs) (dpa_same e ds _ ha)
  | .dict _, _, h => by cases h
theorem dpa_same {T : Tb} {K : PySem.W.Frag} {H H' : Hp} (e : Sm T H H') : ∀ (ds : List PyData) (vs : List V), DpAll K H vs ds → DpAll K H' vs ds
  | [], _, h => by cases h; exact .nil
  | d :: ds, _, h => by
    cases h with
    | cons h1 h2 => exact .cons (dp_same e d _ h1) (dpa_same e ds _ h2)
end
theorem dpa_len {K : PySem.W.Frag} {H : Hp} : ∀ {vs : List V} {ds : List PyData}, DpAll K H vs ds → vs.length = ds.length
  | _, [], h => by cases h; rfl
  | _, _ :: _, h => by
    cases h with
    | cons _ h2 => exact congrArg (· + 1) (dpa_len h2)
theorem dpa_get {K : PySem.W.Frag} {H : Hp} : ∀ {vs : List V} {ds : List PyData}, DpAll K H vs ds → ∀ {i : Nat} {d : PyData}, ds[i]? = some d → ∃ v, vs[i]? = some v ∧ Dp K H v d
  | _, [], h, i, d, e => by simp at e
  | _, d0 :: ds, h, 0, d, e => by
    cases h with
    | cons h1 h2 =>
      obtain rfl : d0 = d := Option.some.inj e
      exact ⟨_, rfl, h1⟩
  | _, d0 :: ds, h, i + 1, d, e => by
    cases h with
    | cons h1 h2 => exact dpa_get h2 (i := i) e
def depOk : Nat → PyData → Bool
  | _, .none => true
  | _, .bool _ => true
  | _, .int _ => true
  | _, .str _ => true
  | n + 1, .list ds => decide (ds.length ≤ 9000) && ds.all (depOk n)
  | n + 1, .tuple ds => decide (ds.length ≤ 9000) && ds.all (depOk n)
  | _, _ => false
def tyD : PyData → String
  | .none => "NoneType"
  | .bool _ => "bool"
  | .int _ => "int"
  | .str _ => "str"
  | .list _ => "list"
  | .tuple _ => "tuple"
  | .dict _ => "dict"
theorem tyx_of {K : PySem.W.Frag} {H : Hp} : ∀ {d : PyData} {v : V}, Dp K H v d → TyX K H v (.type (tyD d))
  | _, _, .non => .base .non
  | _, _, .bl b => .base (.bl b)
  | _, _, .int i => .base (.int i)
  | _, _, .str x => .base (.str x)
  | _, _, .lst (.inl (.inl h)) _ => .base (.lst h)
  | _, _, .lst (.inl (.inr ⟨_, h⟩)) _ => .base (.frz h)
  | _, _, .lst (.inr ⟨_, _, _, h, c, _⟩) _ => .kList h c
  | _, _, .tup (.inl (.inl h)) _ => .base (.tup h)
  | _, _, .tup (.inl (.inr ⟨_, h⟩)) _ => .fTuple h
  | _, _, .tup (.inr ⟨_, _, _, h, c, _⟩) _ => .kTuple h c
theorem rep_all (n : Nat) : (List.replicate n true).all id = true := by
  induction n with
  | zero => rfl
  | succ n ih => rw [List.replicate_succ, List.all_cons, ih]; rfl
def rLen (K : PySem.W.Frag) : List V → Hp → VK → Prop := fun xs H Q => ∃ p ys, xs = [.ref p] ∧ (SqL K H p ys ∨ SqT K H p ys) ∧ Q (.int ys.length) H
def rLst (K : PySem.W.Frag) : List V → Hp → VK → Prop := fun xs H Q => ∃ p ys, xs = [.ref p] ∧ (SqL K H p ys ∨ SqT K H p ys) ∧ ∀ (l : Addr), H l = none → Q (.ref l) (upd H l (.lst ys))
theorem call_list1 {X : Cx} : CallR X (.type "list") (rLst X.K) := call_list_of
theorem call_len1 {X : Cx} : CallR X (.builtin "len") (rLen X.K) := call_len_seq
theorem kb_bool_bool : kitB "bool" "bool" = some true := by decide +kernel
theorem kb_bool_int : kitB "bool" "int" = some true := by decide +kernel
theorem kb_bool_str : kitB "bool" "str" = some false := by decide +kernel
theorem kb_bool_list : kitB "bool" "list" = some false := by decide +kernel
theorem kb_bool_tuple : kitB "bool" "tuple" = some false := by decide +kernel
theorem kb_int_bool : kitB "int" "bool" = some false := by decide +kernel
theorem kb_int_int : kitB "int" "int" = some true := by decide +kernel
theorem kb_int_str : kitB "int" "str" = some false := by decide +kernel
theorem kb_int_list : kitB "int" "list" = some false := by decide +kernel
theorem kb_int_tuple : kitB "int" "tuple" = some false := by decide +kernel
theorem kb_str_bool : kitB "str" "bool" = some false := by decide +kernel
theorem kb_str_int : kitB "str" "int" = some false := by decide +kernel
theorem kb_str_str : kitB "str" "str" = some true := by decide +kernel
theorem kb_str_list : kitB "str" "list" = some false := by decide +kernel
theorem kb_str_tuple : kitB "str" "tuple" = some false := by decide +kernel
theorem kb_list_bool : kitB "list" "bool" = some false := by decide +kernel
theorem kb_list_int : kitB "list" "int" = some false := by decide +kernel
theorem kb_list_str : kitB "list" "str" = some false := by decide +kernel
theorem kb_list_list : kitB "list" "list" = some true := by decide +kernel
theorem kb_list_tuple : kitB "list" "tuple" = some false := by decide +kernel
theorem kb_tuple_bool : kitB "tuple" "bool" = some false := by decide +kernel
theorem kb_tuple_int : kitB "tuple" "int" = some false := by decide +kernel
theorem kb_tuple_str : kitB "tuple" "str" = some false := by decide +kernel
theorem kb_tuple_list : kitB "tuple" "list" = some false := by decide +kernel
theorem kb_tuple_tuple : kitB "tuple" "tuple" = some true := by decide +kernel
theorem kb_NoneType_bool : kitB "NoneType" "bool" = some false := by decide +kernel
theorem kb_NoneType_int : kitB "NoneType" "int" = some false := by decide +kernel
theorem kb_NoneType_str : kitB "NoneType" "str" = some false := by decide +kernel
theorem kb_NoneType_list : kitB "NoneType" "list" = some false := by decide +kernel
theorem kb_NoneType_tuple : kitB "NoneType" "tuple" = some false := by decide +kernel
theorem tyes_t {σ : L2.St} {H : Hp} {Q : Bool → Hp → Prop} (h : Q true H) : tYes σ H Q := h
theorem tyes_i {σ : L2.St} {H : Hp} {A B : Hp → Prop} (h : A H) : tYes σ H (fun b H3 => if b = true then A H3 else B H3) := iteT (A := A H) (B := B H) h
/-! ### draws -/
def Drawn : List Int → List Int → Prop
  | [], [] => True
  | d :: ds, q :: qs => (0 ≤ d ∧ d < q) ∧ Drawn ds qs
  | _, _ => False
theorem Drawn.cons {ds qs : List Int} {q : Int} (h : Drawn ds (q :: qs)) : ∃ d r, ds = d :: r ∧ 0 ≤ d ∧ d < q ∧ Drawn r qs := by
  cases ds with
  | nil => exact h.elim
  | cons d r => exact ⟨d, r, rfl, h.1.1, h.1.2, h.2⟩
theorem Drawn.nil {ds : List Int} (h : Drawn ds []) : ds = [] := by
  cases ds with
  | nil => rfl
  | cons d r => exact h.elim
theorem Drawn.snoc : ∀ {ds qs : List Int} {d q : Int}, Drawn ds qs → 0 ≤ d → d < q → Drawn (ds ++ [d]) (qs ++ [q])
  | [], [], _, _, _, h0, h1 => ⟨⟨h0, h1⟩, trivial⟩
  | [], _ :: _, _, _, h, _, _ => h.elim
  | _ :: _, [], _, _, h, _, _ => h.elim
  | _ :: _, _ :: _, _, _, h, h0, h1 => ⟨h.1, Drawn.snoc h.2 h0 h1⟩
theorem Drawn.length : ∀ {ds qs : List Int}, Drawn ds qs → ds.length = qs.length
  | [], [], _ => rfl
  | [], _ :: _, h => h.elim
  | _ :: _, [], h => h.elim
  | _ :: _, _ :: _, h => congrArg (· + 1) (Drawn.length h.2)
/-! ### amounts -/
abbrev Am := Int × Int
def tv (x : Am) : List V := [.int x.1, .int x.2]
def amt (n d : Int) : Am := ((if d < 0 then -n else n) / (Nat.gcd n.natAbs d.natAbs : Nat), (d.natAbs : Int) / (Nat.gcd n.natAbs d.natAbs : Nat))
theorem amD_dp {K : PySem.W.Frag} {H : Hp} {p : Addr} {x : Am} (h : SqT K H p (tv x)) : Dp K H (.ref p) (.tuple [.int x.1, .int x.2]) := .tup h (.cons (.int _) (.cons (.int _) .nil))
abbrev amD (x : Am) : PyData := .tuple [.int x.1, .int x.2]
theorem tup_dp {K : PySem.W.Frag} {H : Hp} {p : Addr} {x : Am} (h : H p = some (.tup (tv x))) : Dp K H (.ref p) (amD x) := amD_dp (SqT.of h)
theorem pd_at {K : PySem.W.Frag} {H : Hp} {v : V} {x : Am} (h : Dp K H v (amD x)) : ∃ b, v = .ref b ∧ SqT K H b (tv x) := by
  cases h with
  | tup hs ha =>
    cases ha with
    | cons h1 h2 =>
      cases h2 with
      | cons h3 h4 =>
        cases h4
        cases h1
        cases h3
        exact ⟨_, rfl, hs⟩
theorem dpa_app {K : PySem.W.Frag} {H : Hp} : ∀ {vs : List V} {ds : List PyData} {ws : List V} {es : List PyData}, DpAll K H vs ds → DpAll K H ws es → DpAll K H (vs ++ ws) (ds ++ es)
  | _, [], _, _, h, g => by cases h; exact g
  | _, _ :: _, _, _, h, g => by
    cases h with
    | cons h1 h2 => exact .cons h1 (dpa_app h2 g)
theorem dpa_take {K : PySem.W.Frag} {H : Hp} : ∀ {vs : List V} {ds : List PyData} (n : Nat), DpAll K H vs ds → DpAll K H (vs.take n) (ds.take n)
  | _, _, 0, _ => .nil
  | _, [], n + 1, h => by cases h; exact .nil
  | _, _ :: _, n + 1, h => by
    cases h with
    | cons h1 h2 => exact .cons h1 (dpa_take n h2)
theorem dpa_drop {K : PySem.W.Frag} {H : Hp} : ∀ {vs : List V} {ds : List PyData} (n : Nat), DpAll K H vs ds → DpAll K H (vs.drop n) (ds.drop n)
  | _, _, 0, h => h
  | _, [], n + 1, h => by cases h; exact .nil
  | _, _ :: _, n + 1, h => by
    cases h with
    | cons h1 h2 => exact dpa_drop n h2
/-- pairs stay where a list is changed -/
theorem pd_mut {K : PySem.W.Frag} {H : Hp} {v : V} {x : Am} {a : Addr} {o : HO} {xs : List V} (h : Dp K H v (amD x)) (ha : H a = some (.lst xs)) : Dp K (upd H a o) v (amD x) := by
  obtain ⟨b, rfl, hs⟩ := pd_at h
  refine amD_dp ?_
  rcases hs with (hs | ⟨u, hs⟩) | hs
  · exact .inl (.inl (by rw [upd_ne (ne_of hs ha (fun z => by cases z))]; exact hs))
  · exact .inl (.inr ⟨u, by rw [upd_ne (ne_of hs ha (fun z => by cases z))]; exact hs⟩)
  · exact .inr hs
theorem pds_mut {K : PySem.W.Frag} {H : Hp} {a : Addr} {o : HO} {xs : List V} (ha : H a = some (.lst xs)) : ∀ {vs : List V} {qs : List Am}, DpAll K H vs (qs.map amD) → DpAll K (upd H a o) vs (qs.map amD)
  | _, [], h => by cases h; exact .nil
  | _, _ :: _, h => by
    cases h with
    | cons h1 h2 => exact .cons (pd_mut h1 ha) (pds_mut ha h2)
theorem cut_take (xs : List V) (k : Nat) {z : Int} (hz : z = (k : Int)) : cutV xs none (some z) = xs.take k := by
  subst hz
  unfold cutV
  rw [HT.sIx_none, HT.sIx_nat, List.drop_zero, Nat.sub_zero]
  by_cases h : k ≤ xs.length
  · rw [Nat.min_eq_left h]
  · rw [Nat.min_eq_right (by omega), List.take_length, List.take_of_length_le (by omega)]
theorem cut_drop (xs : List V) (k : Nat) {z : Int} (hz : z = (k : Int)) : cutV xs (some z) none = xs.drop k := by
  subst hz
  unfold cutV
  rw [HT.sIx_none, HT.sIx_nat]
  by_cases h : k ≤ xs.length
  · rw [Nat.min_eq_left h, List.take_of_length_le (by rw [List.length_drop]; omega)]
  · rw [Nat.min_eq_right (by omega), List.drop_length, List.drop_of_length_le (by omega), List.take_nil]
theorem dpa_rep {K : PySem.W.Frag} {H : Hp} {vs : List V} {qs : List Am} (h : DpAll K H vs (qs.map amD)) : ∀ n, DpAll K H (List.replicate n vs).flatten (((List.replicate n qs).flatten).map amD)
  | 0 => .nil
  | n + 1 => by
    rw [List.replicate_succ, List.replicate_succ, List.flatten_cons, List.flatten_cons, List.map_append]
    exact dpa_app h (dpa_rep h n)
theorem len_rep {α : Type} (l : List α) : ∀ n, ((List.replicate n l).flatten).length = n * l.length
  | 0 => by simp
  | n + 1 => by rw [List.replicate_succ, List.flatten_cons, List.length_append, len_rep l n, Nat.succ_mul, Nat.add_comm]
/-! ### told tuples in a list that grows -/
def noL : Nat → PyData → Bool
  | _, .none => true
  | _, .bool _ => true
  | _, .int _ => true
  | _, .str _ => true
  | n + 1, .tuple ds => ds.all (noL n)
  | _, _ => false
theorem sqT_mut {K : PySem.W.Frag} {H : Hp} {t a : Addr} {o : HO} {xs ys : List V} (hs : SqT K H t ys) (ha : H a = some (.lst xs)) : SqT K (upd H a o) t ys := by
  rcases hs with (hs | ⟨u, hs⟩) | hs
  · exact .inl (.inl (by rw [upd_ne (ne_of hs ha (fun z => by cases z))]; exact hs))
  · exact .inl (.inr ⟨u, by rw [upd_ne (ne_of hs ha (fun z => by cases z))]; exact hs⟩)
  · exact .inr hs
mutual
theorem noL_mut {K : PySem.W.Frag} {H : Hp} {a : Addr} {o : HO} {xs : List V} (ha : H a = some (.lst xs)) : ∀ (n : Nat) (d : PyData) (v : V), noL n d = true → Dp K H v d → Dp K (upd H a o) v d
  | _, .none, _, _, h => by cases h; exact .non
  | _, .bool b, _, _, h => by cases h; exact .bl b
  | _, .int i, _, _, h => by cases h; exact .int i
  | _, .str x, _, _, h => by cases h; exact .str x
  | 0, .tuple _, _, e, _ => by cases e
  | n + 1, .tuple ds, _, e, h => by
    cases h with
    | tup hs hall => exact .tup (sqT_mut hs ha) (noLs_mut ha n ds _ e hall)
  | 0, .list _, _, e, _ => by cases e
  | _ + 1, .list _, _, e, _ => by cases e
  | 0, .dict _, _, e, _ => by cases e
  | _ + 1, .dict _, _, e, _ => by cases e
theorem noLs_mut {K : PySem.W.Frag} {H : Hp} {a : Addr} {o : HO} {xs : List V} (ha : H a = some (.lst xs)) : ∀ (n : Nat) (ds : List PyData) (vs : List V), ds.all (noL n) = true → DpAll K H vs ds → DpAll K (upd H a o) vs ds
  | _, [], _, _, h => by cases h; exact .nil
  | n, d :: ds, _, e, h => by
    cases h with
    | cons h1 h2 =>
      rw [List.all_cons, Bool.and_eq_true] at e
      exact .cons (noL_mut ha n d _ e.1 h1) (noLs_mut ha n ds _ e.2 h2)
end
/-- the list at fo holds ds -/
def Fd (K : PySem.W.Frag) (H : Hp) (fo : Addr) (ds : List PyData) : Prop := ∃ ts, H fo = some (.lst ts) ∧ DpAll K H ts ds
theorem Fd.keep {T : Tb} {K : PySem.W.Frag} {H H' : Hp} {fo : Addr} {ds : List PyData} (h : Fd K H fo ds) (s : Sm T H H') : Fd K H' fo ds := by
  obtain ⟨ts, h1, h2⟩ := h
  exact ⟨ts, s.k h1, dpa_same s _ _ h2⟩
theorem Fd.push {K : PySem.W.Frag} {H : Hp} {fo : Addr} {ds : List PyData} {ts : List V} {d : PyData} {v : V} (h1 : H fo = some (.lst ts)) (h2 : DpAll K H ts ds) (hv : Dp K H v d) (n1 : ds.all (noL 3) = true := by rfl) (n2 : noL 3 d = true := by rfl) :
    Fd K (upd H fo (.lst (ts ++ [v]))) fo (ds ++ [d]) :=
  ⟨ts ++ [v], upd_same, dpa_app (noLs_mut h1 3 ds _ n1 h2) (.cons (noL_mut h1 3 d v n2 hv) .nil)⟩
theorem Fd.dp {K : PySem.W.Frag} {H : Hp} {fo : Addr} {ds : List PyData} (h : Fd K H fo ds) : Dp K H (.ref fo) (.list ds) := by
  obtain ⟨ts, h1, h2⟩ := h
  exact .lst (SqL.of h1) h2
theorem depOk_ams {qs : List Am} (h : qs.length ≤ 9000) : depOk 5 (.list (qs.map amD)) = true := by
  show (decide ((qs.map amD).length ≤ 9000) && (qs.map amD).all (depOk 4)) = true
  rw [List.length_map, decide_eq_true h, Bool.true_and, List.all_map]
  exact List.all_eq_true.mpr fun q _ => rfl

def topS (i : Nat) : Stmt := PySem.Challenge.pw_pailchain_k43_thirty_hands_and_four_chai.main.body.getD i (.Pass ⟨0, 0, 0, 0⟩)
abbrev s_l_word : Stmt := topS 79
theorem sc_l_word : FnScope ["_law_asked", "e"] ["_law_asked"] (defScope s_l_word) := ⟨rfl, rfl, rfl, by decide +kernel, rfl, by decide +kernel, by decide +kernel⟩
abbrev s_p_is_number : Stmt := topS 35
theorem sc_p_is_number : FnScope ["thing"] ["thing"] (defScope s_p_is_number) := ⟨rfl, rfl, rfl, by decide +kernel, rfl, by decide +kernel, by decide +kernel⟩
abbrev s_p_is_within : Stmt := topS 36
theorem sc_p_is_within : FnScope ["thing", "least", "most"] ["thing", "least", "most"] (defScope s_p_is_within) := ⟨rfl, rfl, rfl, by decide +kernel, rfl, by decide +kernel, by decide +kernel⟩
abbrev s_p_common_divisor : Stmt := topS 3
theorem sc_p_common_divisor : FnScope ["one", "other"] ["one", "other"] (defScope s_p_common_divisor) := ⟨rfl, rfl, rfl, by decide +kernel, rfl, by decide +kernel, by decide +kernel⟩
abbrev s_p_amount : Stmt := topS 4
theorem sc_p_amount : FnScope ["num", "den", "shared"] ["num", "den"] (defScope s_p_amount) := ⟨rfl, rfl, rfl, by decide +kernel, rfl, by decide +kernel, by decide +kernel⟩
abbrev s_p_plus : Stmt := topS 5
theorem sc_p_plus : FnScope ["one", "other"] ["one", "other"] (defScope s_p_plus) := ⟨rfl, rfl, rfl, by decide +kernel, rfl, by decide +kernel, by decide +kernel⟩
abbrev s_p_below : Stmt := topS 9
theorem sc_p_below : FnScope ["one", "other"] ["one", "other"] (defScope s_p_below) := ⟨rfl, rfl, rfl, by decide +kernel, rfl, by decide +kernel, by decide +kernel⟩
abbrev s_p_PailError___init__ : Stmt := inClass (topS 12) 0
theorem sc_p_PailError___init__ : FnScope ["self", "word"] ["self", "word"] (defScope s_p_PailError___init__) := ⟨rfl, rfl, rfl, by decide +kernel, rfl, by decide +kernel, by decide +kernel⟩
abbrev s_p_BadWay___init__ : Stmt := inClass (topS 13) 0
theorem sc_p_BadWay___init__ : FnScope ["self"] ["self"] (defScope s_p_BadWay___init__) := ⟨rfl, rfl, rfl, by decide +kernel, rfl, by decide +kernel, by decide +kernel⟩
abbrev s_p_BadName___init__ : Stmt := inClass (topS 14) 0
theorem sc_p_BadName___init__ : FnScope ["self"] ["self"] (defScope s_p_BadName___init__) := ⟨rfl, rfl, rfl, by decide +kernel, rfl, by decide +kernel, by decide +kernel⟩
abbrev s_p_Taken___init__ : Stmt := inClass (topS 15) 0
theorem sc_p_Taken___init__ : FnScope ["self"] ["self"] (defScope s_p_Taken___init__) := ⟨rfl, rfl, rfl, by decide +kernel, rfl, by decide +kernel, by decide +kernel⟩
abbrev s_p_BadPace___init__ : Stmt := inClass (topS 16) 0
theorem sc_p_BadPace___init__ : FnScope ["self"] ["self"] (defScope s_p_BadPace___init__) := ⟨rfl, rfl, rfl, by decide +kernel, rfl, by decide +kernel, by decide +kernel⟩
abbrev s_p_Full___init__ : Stmt := inClass (topS 17) 0
theorem sc_p_Full___init__ : FnScope ["self"] ["self"] (defScope s_p_Full___init__) := ⟨rfl, rfl, rfl, by decide +kernel, rfl, by decide +kernel, by decide +kernel⟩
abbrev s_p_NoHand___init__ : Stmt := inClass (topS 18) 0
theorem sc_p_NoHand___init__ : FnScope ["self"] ["self"] (defScope s_p_NoHand___init__) := ⟨rfl, rfl, rfl, by decide +kernel, rfl, by decide +kernel, by decide +kernel⟩
abbrev s_p_Called___init__ : Stmt := inClass (topS 19) 0
theorem sc_p_Called___init__ : FnScope ["self"] ["self"] (defScope s_p_Called___init__) := ⟨rfl, rfl, rfl, by decide +kernel, rfl, by decide +kernel, by decide +kernel⟩
abbrev s_p_NotCalled___init__ : Stmt := inClass (topS 20) 0
theorem sc_p_NotCalled___init__ : FnScope ["self"] ["self"] (defScope s_p_NotCalled___init__) := ⟨rfl, rfl, rfl, by decide +kernel, rfl, by decide +kernel, by decide +kernel⟩
abbrev s_p_NoNext___init__ : Stmt := inClass (topS 21) 0
theorem sc_p_NoNext___init__ : FnScope ["self"] ["self"] (defScope s_p_NoNext___init__) := ⟨rfl, rfl, rfl, by decide +kernel, rfl, by decide +kernel, by decide +kernel⟩
abbrev s_p_Busy___init__ : Stmt := inClass (topS 26) 0
theorem sc_p_Busy___init__ : FnScope ["self"] ["self"] (defScope s_p_Busy___init__) := ⟨rfl, rfl, rfl, by decide +kernel, rfl, by decide +kernel, by decide +kernel⟩
abbrev s_p_Idle___init__ : Stmt := inClass (topS 28) 0
theorem sc_p_Idle___init__ : FnScope ["self"] ["self"] (defScope s_p_Idle___init__) := ⟨rfl, rfl, rfl, by decide +kernel, rfl, by decide +kernel, by decide +kernel⟩
abbrev s_p_NoChain___init__ : Stmt := inClass (topS 27) 0
theorem sc_p_NoChain___init__ : FnScope ["self"] ["self"] (defScope s_p_NoChain___init__) := ⟨rfl, rfl, rfl, by decide +kernel, rfl, by decide +kernel, by decide +kernel⟩
abbrev s_p_TooLong___init__ : Stmt := inClass (topS 23) 0
theorem sc_p_TooLong___init__ : FnScope ["self"] ["self"] (defScope s_p_TooLong___init__) := ⟨rfl, rfl, rfl, by decide +kernel, rfl, by decide +kernel, by decide +kernel⟩
abbrev s_l_cell : Stmt := topS 75
theorem sc_l_cell : FnScope ["_law_script", "_law_k"] ["_law_script", "_law_k"] (defScope s_l_cell) := ⟨rfl, rfl, rfl, by decide +kernel, rfl, by decide +kernel, by decide +kernel⟩
abbrev s_p_check_pace : Stmt := topS 39
theorem sc_p_check_pace : FnScope ["pace"] ["pace"] (defScope s_p_check_pace) := ⟨rfl, rfl, rfl, by decide +kernel, rfl, by decide +kernel, by decide +kernel⟩
abbrev s_p_is_name : Stmt := topS 37
theorem sc_p_is_name : FnScope ["text", "sign"] ["text"] (defScope s_p_is_name) := ⟨rfl, rfl, rfl, by decide +kernel, rfl, by decide +kernel, by decide +kernel⟩
abbrev s_p_check_name : Stmt := topS 38
theorem sc_p_check_name : FnScope ["name"] ["name"] (defScope s_p_check_name) := ⟨rfl, rfl, rfl, by decide +kernel, rfl, by decide +kernel, by decide +kernel⟩
abbrev s_p_Chain_take_pail : Stmt := inClass (topS 55) 23
theorem sc_p_Chain_take_pail : FnScope ["self", "number"] ["self"] (defScope s_p_Chain_take_pail) := ⟨rfl, rfl, rfl, by decide +kernel, rfl, by decide +kernel, by decide +kernel⟩
abbrev s_p_Chain_enter : Stmt := inClass (topS 55) 1
theorem sc_p_Chain_enter : FnScope ["self", "name", "pace"] ["self", "name", "pace"] (defScope s_p_Chain_enter) := ⟨rfl, rfl, rfl, by decide +kernel, rfl, by decide +kernel, by decide +kernel⟩
abbrev s_p_is_stretch : Stmt := topS 49
theorem sc_p_is_stretch : FnScope ["thing", "part"] ["thing"] (defScope s_p_is_stretch) := ⟨rfl, rfl, rfl, by decide +kernel, rfl, by decide +kernel, by decide +kernel⟩
abbrev s_p_check_way : Stmt := topS 50
theorem sc_p_check_way : FnScope ["way", "stretch"] ["way"] (defScope s_p_check_way) := ⟨rfl, rfl, rfl, by decide +kernel, rfl, by decide +kernel, by decide +kernel⟩
abbrev s_p_labour : Stmt := topS 51
theorem sc_p_labour : FnScope ["way", "count", "toil"] ["way"] (defScope s_p_labour) := ⟨rfl, rfl, rfl, by decide +kernel, rfl, by decide +kernel, by decide +kernel⟩
abbrev s_p_check_way_t : Stmt := topS 50
theorem sc_p_check_way_t : FnScope ["way", "stretch"] ["way"] (defScope s_p_check_way_t) := ⟨rfl, rfl, rfl, by decide +kernel, rfl, by decide +kernel, by decide +kernel⟩
abbrev s_p_labour_t : Stmt := topS 51
theorem sc_p_labour_t : FnScope ["way", "count", "toil"] ["way"] (defScope s_p_labour_t) := ⟨rfl, rfl, rfl, by decide +kernel, rfl, by decide +kernel, by decide +kernel⟩
abbrev s_p_Chain___init__ : Stmt := inClass (topS 55) 0
theorem sc_p_Chain___init__ : FnScope ["self", "way"] ["self", "way"] (defScope s_p_Chain___init__) := ⟨rfl, rfl, rfl, by decide +kernel, rfl, by decide +kernel, by decide +kernel⟩
abbrev s_p_Chain___init___t : Stmt := inClass (topS 55) 0
theorem sc_p_Chain___init___t : FnScope ["self", "way"] ["self", "way"] (defScope s_p_Chain___init___t) := ⟨rfl, rfl, rfl, by decide +kernel, rfl, by decide +kernel, by decide +kernel⟩
abbrev s_p_Chain_stand_as : Stmt := inClass (topS 55) 20
theorem sc_p_Chain_stand_as : FnScope ["self", "other"] ["self", "other"] (defScope s_p_Chain_stand_as) := ⟨rfl, rfl, rfl, by decide +kernel, rfl, by decide +kernel, by decide +kernel⟩
abbrev s_p_Chain_twin : Stmt := inClass (topS 55) 19
theorem sc_p_Chain_twin : FnScope ["self", "other"] ["self"] (defScope s_p_Chain_twin) := ⟨rfl, rfl, rfl, by decide +kernel, rfl, by decide +kernel, by decide +kernel⟩
abbrev s_p_Chain_hands : Stmt := inClass (topS 55) 9
theorem sc_p_Chain_hands : FnScope ["self"] ["self"] (defScope s_p_Chain_hands) := ⟨rfl, rfl, rfl, by decide +kernel, rfl, by decide +kernel, by decide +kernel⟩
abbrev s_p_Chain_emptied : Stmt := inClass (topS 55) 14
theorem sc_p_Chain_emptied : FnScope ["self"] ["self"] (defScope s_p_Chain_emptied) := ⟨rfl, rfl, rfl, by decide +kernel, rfl, by decide +kernel, by decide +kernel⟩
abbrev s_p_Chain_pails : Stmt := inClass (topS 55) 15
theorem sc_p_Chain_pails : FnScope ["self"] ["self"] (defScope s_p_Chain_pails) := ⟨rfl, rfl, rfl, by decide +kernel, rfl, by decide +kernel, by decide +kernel⟩
abbrev s_p_Chain_number_of : Stmt := inClass (topS 55) 21
theorem sc_p_Chain_number_of : FnScope ["self", "name"] ["self", "name"] (defScope s_p_Chain_number_of) := ⟨rfl, rfl, rfl, by decide +kernel, rfl, by decide +kernel, by decide +kernel⟩
abbrev s_p_Chain_place : Stmt := inClass (topS 55) 12
theorem sc_p_Chain_place : FnScope ["self", "name"] ["self", "name"] (defScope s_p_Chain_place) := ⟨rfl, rfl, rfl, by decide +kernel, rfl, by decide +kernel, by decide +kernel⟩
abbrev s_p_Chain_ledger : Stmt := inClass (topS 55) 17
theorem sc_p_Chain_ledger : FnScope ["self", "name"] ["self", "name"] (defScope s_p_Chain_ledger) := ⟨rfl, rfl, rfl, by decide +kernel, rfl, by decide +kernel, by decide +kernel⟩
abbrev s_p_Chain_paces : Stmt := inClass (topS 55) 22
theorem sc_p_Chain_paces : FnScope ["self", "name"] ["self"] (defScope s_p_Chain_paces) := ⟨rfl, rfl, rfl, by decide +kernel, rfl, by decide +kernel, by decide +kernel⟩
abbrev s_p_Chain_mark : Stmt := inClass (topS 55) 24
theorem sc_p_Chain_mark : FnScope ["self", "at", "pail"] ["self", "at"] (defScope s_p_Chain_mark) := ⟨rfl, rfl, rfl, by decide +kernel, rfl, by decide +kernel, by decide +kernel⟩
abbrev s_p_Chain_call : Stmt := inClass (topS 55) 2
theorem sc_p_Chain_call : FnScope ["self", "name"] ["self", "name"] (defScope s_p_Chain_call) := ⟨rfl, rfl, rfl, by decide +kernel, rfl, by decide +kernel, by decide +kernel⟩
abbrev s_p_Chain_set_pace : Stmt := inClass (topS 55) 5
theorem sc_p_Chain_set_pace : FnScope ["self", "name", "pace"] ["self", "name", "pace"] (defScope s_p_Chain_set_pace) := ⟨rfl, rfl, rfl, by decide +kernel, rfl, by decide +kernel, by decide +kernel⟩
abbrev s_p_Chain_stay : Stmt := inClass (topS 55) 3
theorem sc_p_Chain_stay : FnScope ["self", "name"] ["self", "name"] (defScope s_p_Chain_stay) := ⟨rfl, rfl, rfl, by decide +kernel, rfl, by decide +kernel, by decide +kernel⟩
abbrev s_p_Chain_swap : Stmt := inClass (topS 55) 4
theorem sc_p_Chain_swap : FnScope ["self", "name", "at"] ["self", "name"] (defScope s_p_Chain_swap) := ⟨rfl, rfl, rfl, by decide +kernel, rfl, by decide +kernel, by decide +kernel⟩
abbrev s_p_Ground___init__ : Stmt := inClass (topS 61) 0
theorem sc_p_Ground___init__ : FnScope ["self"] ["self"] (defScope s_p_Ground___init__) := ⟨rfl, rfl, rfl, by decide +kernel, rfl, by decide +kernel, by decide +kernel⟩
abbrev s_p_Ground_twin : Stmt := inClass (topS 61) 1
theorem sc_p_Ground_twin : FnScope ["self", "other"] ["self"] (defScope s_p_Ground_twin) := ⟨rfl, rfl, rfl, by decide +kernel, rfl, by decide +kernel, by decide +kernel⟩
abbrev s_p_Ground_check_hand : Stmt := inClass (topS 61) 2
theorem sc_p_Ground_check_hand : FnScope ["self", "name"] ["self", "name"] (defScope s_p_Ground_check_hand) := ⟨rfl, rfl, rfl, by decide +kernel, rfl, by decide +kernel, by decide +kernel⟩
abbrev s_p_Ground_check_idle : Stmt := inClass (topS 61) 3
theorem sc_p_Ground_check_idle : FnScope ["self", "name"] ["self", "name"] (defScope s_p_Ground_check_idle) := ⟨rfl, rfl, rfl, by decide +kernel, rfl, by decide +kernel, by decide +kernel⟩
abbrev s_p_Ground_check_chain : Stmt := inClass (topS 61) 4
theorem sc_p_Ground_check_chain : FnScope ["self", "number"] ["self", "number"] (defScope s_p_Ground_check_chain) := ⟨rfl, rfl, rfl, by decide +kernel, rfl, by decide +kernel, by decide +kernel⟩
abbrev s_p_Ground_lead : Stmt := inClass (topS 61) 5
theorem sc_p_Ground_lead : FnScope ["self", "number", "chain"] ["self", "number"] (defScope s_p_Ground_lead) := ⟨rfl, rfl, rfl, by decide +kernel, rfl, by decide +kernel, by decide +kernel⟩
abbrev s_p_Chain_walk_for_e : Stmt := inClass (topS 55) 28
theorem sc_p_Chain_walk_for_e : FnScope ["self", "hours", "rows", "end", "left", "some"] ["self", "hours"] (defScope s_p_Chain_walk_for_e) := ⟨rfl, rfl, rfl, by decide +kernel, rfl, by decide +kernel, by decide +kernel⟩
abbrev s_p_lay : Stmt := topS 62
theorem sc_p_lay : FnScope ["ground", "way", "chain"] ["ground", "way"] (defScope s_p_lay) := ⟨rfl, rfl, rfl, by decide +kernel, rfl, by decide +kernel, by decide +kernel⟩
abbrev s_p_hire : Stmt := topS 63
theorem sc_p_hire : FnScope ["ground", "name", "pace"] ["ground", "name", "pace"] (defScope s_p_hire) := ⟨rfl, rfl, rfl, by decide +kernel, rfl, by decide +kernel, by decide +kernel⟩
abbrev s_p_dismiss : Stmt := topS 64
theorem sc_p_dismiss : FnScope ["ground", "name"] ["ground", "name"] (defScope s_p_dismiss) := ⟨rfl, rfl, rfl, by decide +kernel, rfl, by decide +kernel, by decide +kernel⟩
abbrev s_p_send : Stmt := topS 65
theorem sc_p_send : FnScope ["ground", "name", "number", "pail"] ["ground", "name", "number"] (defScope s_p_send) := ⟨rfl, rfl, rfl, by decide +kernel, rfl, by decide +kernel, by decide +kernel⟩
abbrev s_p_Ground_lead_of : Stmt := inClass (topS 61) 6
theorem sc_p_Ground_lead_of : FnScope ["self", "name"] ["self", "name"] (defScope s_p_Ground_lead_of) := ⟨rfl, rfl, rfl, by decide +kernel, rfl, by decide +kernel, by decide +kernel⟩
abbrev s_p_call : Stmt := topS 66
theorem sc_p_call : FnScope ["ground", "name"] ["ground", "name"] (defScope s_p_call) := ⟨rfl, rfl, rfl, by decide +kernel, rfl, by decide +kernel, by decide +kernel⟩
abbrev s_p_stay : Stmt := topS 67
theorem sc_p_stay : FnScope ["ground", "name"] ["ground", "name"] (defScope s_p_stay) := ⟨rfl, rfl, rfl, by decide +kernel, rfl, by decide +kernel, by decide +kernel⟩
abbrev s_p_swap : Stmt := topS 68
theorem sc_p_swap : FnScope ["ground", "name"] ["ground", "name"] (defScope s_p_swap) := ⟨rfl, rfl, rfl, by decide +kernel, rfl, by decide +kernel, by decide +kernel⟩
abbrev s_p_set_pace : Stmt := topS 69
theorem sc_p_set_pace : FnScope ["ground", "name", "pace"] ["ground", "name", "pace"] (defScope s_p_set_pace) := ⟨rfl, rfl, rfl, by decide +kernel, rfl, by decide +kernel, by decide +kernel⟩
abbrev s_p_Yard___init__ : Stmt := inClass (topS 73) 0
theorem sc_p_Yard___init__ : FnScope ["self"] ["self"] (defScope s_p_Yard___init__) := ⟨rfl, rfl, rfl, by decide +kernel, rfl, by decide +kernel, by decide +kernel⟩
abbrev s_p_Yard_ground : Stmt := inClass (topS 73) 13
theorem sc_p_Yard_ground : FnScope ["self"] ["self"] (defScope s_p_Yard_ground) := ⟨rfl, rfl, rfl, by decide +kernel, rfl, by decide +kernel, by decide +kernel⟩
abbrev s_p_Yard_do : Stmt := inClass (topS 73) 1
theorem sc_p_Yard_do : FnScope ["self", "deed", "ground", "action", "things", "answer", "rows"] ["self", "deed"] (defScope s_p_Yard_do) := ⟨rfl, rfl, rfl, by decide +kernel, rfl, by decide +kernel, by decide +kernel⟩
abbrev s_p_Yard_chains : Stmt := inClass (topS 73) 6
theorem sc_p_Yard_chains : FnScope ["self"] ["self"] (defScope s_p_Yard_chains) := ⟨rfl, rfl, rfl, by decide +kernel, rfl, by decide +kernel, by decide +kernel⟩
abbrev s_p_Yard_pace : Stmt := inClass (topS 73) 9
theorem sc_p_Yard_pace : FnScope ["self", "name", "ground"] ["self", "name"] (defScope s_p_Yard_pace) := ⟨rfl, rfl, rfl, by decide +kernel, rfl, by decide +kernel, by decide +kernel⟩
abbrev s_p_Yard_where : Stmt := inClass (topS 73) 8
theorem sc_p_Yard_where : FnScope ["self", "name", "ground"] ["self", "name"] (defScope s_p_Yard_where) := ⟨rfl, rfl, rfl, by decide +kernel, rfl, by decide +kernel, by decide +kernel⟩
abbrev s_p_Yard_pool : Stmt := inClass (topS 73) 5
theorem sc_p_Yard_pool : FnScope ["self", "ground", "name"] ["self"] (defScope s_p_Yard_pool) := ⟨rfl, rfl, rfl, by decide +kernel, rfl, by decide +kernel, by decide +kernel⟩
abbrev s_l_same : Stmt := topS 78
theorem sc_l_same : FnScope ["_law_found", "_law_due", "_law_k"] ["_law_found", "_law_due"] (defScope s_l_same) := ⟨rfl, rfl, rfl, by decide +kernel, rfl, by decide +kernel, by decide +kernel⟩
abbrev s_l_draws_f : Stmt := topS 76
theorem sc_l_draws_f : FnScope ["_law_cell_here", "_law_parts", "_law_one", "_law_two", "_law_six", "_law_found", "_law_part"] ["_law_cell_here", "_law_parts"] (defScope s_l_draws_f) := ⟨rfl, rfl, rfl, by decide +kernel, rfl, by decide +kernel, by decide +kernel⟩
abbrev s_l_name : Stmt := topS 80
theorem sc_l_name : FnScope ["_law_k", "_law_salt", "_law_letters", "_law_place", "_law_behind_it", "_law_fill", "_law_first", "_law_telling"] ["_law_k", "_law_salt"] (defScope s_l_name) := ⟨rfl, rfl, rfl, by decide +kernel, rfl, by decide +kernel, by decide +kernel⟩
abbrev s_l_split : Stmt := topS 77
theorem sc_l_split : FnScope ["_law_cell_here", "_law_many", "_law_found", "_law_big", "_law_k"] ["_law_cell_here", "_law_many"] (defScope s_l_split) := ⟨rfl, rfl, rfl, by decide +kernel, rfl, by decide +kernel, by decide +kernel⟩
abbrev s_l_yard_ask : Stmt := topS 81
theorem sc_l_yard_ask : FnScope ["_law_yard", "_law_deed"] ["_law_yard", "_law_deed"] (defScope s_l_yard_ask) := ⟨rfl, rfl, rfl, by decide +kernel, rfl, by decide +kernel, by decide +kernel⟩
abbrev s_LAW : Stmt := topS 82
theorem sc_LAW : FnScope ["_law_script", "_law_salt", "_law_more", "_law_yard", "_law_drawn", "_law_k", "_law_names", "_law_stranger", "_law_deed", "_law_word_here", "_law_pool"] ["_law_script"] (defScope s_LAW) := ⟨rfl, rfl, rfl, by decide +kernel, rfl, by decide +kernel, by decide +kernel⟩
abbrev s_p_Chain_walk_for : Stmt := inClass (topS 55) 28
theorem sc_p_Chain_walk_for : FnScope ["self", "hours", "rows", "end", "left", "some"] ["self", "hours"] (defScope s_p_Chain_walk_for) := ⟨rfl, rfl, rfl, by decide +kernel, rfl, by decide +kernel, by decide +kernel⟩
abbrev s_l_draws : Stmt := topS 76
theorem sc_l_draws : FnScope ["_law_cell_here", "_law_parts", "_law_one", "_law_two", "_law_six", "_law_found", "_law_part"] ["_law_cell_here", "_law_parts"] (defScope s_l_draws) := ⟨rfl, rfl, rfl, by decide +kernel, rfl, by decide +kernel, by decide +kernel⟩
def tab_DEEDS : List (Str × Str) := [("lay", "lay"), ("hire", "hire"), ("dismiss", "dismiss"), ("send", "send"), ("call", "call"), ("stay", "stay"), ("swap", "swap"), ("pace", "set_pace"), ("go", "go"), ("outs", "outs")]
structure Bn (mg : Str → Option Value) : Prop where
  ValueError_ : mg "ValueError" = none
  abs_ : mg "abs" = none
  all_ : mg "all" = none
  bool_ : mg "bool" = none
  dict_ : mg "dict" = none
  int_ : mg "int" = none
  isinstance_ : mg "isinstance" = none
  len_ : mg "len" = none
  list_ : mg "list" = none
  range_ : mg "range" = none
  str_ : mg "str" = none
  sum_ : mg "sum" = none
  tuple_ : mg "tuple" = none

theorem gcd_cut {a b : Nat} (hb : 0 < b) : ∃ g x y : Nat, 0 < g ∧ g = Nat.gcd a b ∧ a = g * x ∧ b = g * y ∧ 0 < y ∧ Nat.gcd x y = 1 := by
  have hg : 0 < Nat.gcd a b := Nat.gcd_pos_of_pos_right _ hb
  obtain ⟨x, hx⟩ := Nat.gcd_dvd_left a b
  obtain ⟨y, hy⟩ := Nat.gcd_dvd_right a b
  refine ⟨Nat.gcd a b, x, y, hg, rfl, hx, hy, ?_, ?_⟩
  · cases y with
    | zero => rw [Nat.mul_zero] at hy; omega
    | succ n => exact Nat.succ_pos n
  · have e : Nat.gcd a b * Nat.gcd x y = Nat.gcd a b * 1 := by
      have h2 : Nat.gcd (Nat.gcd a b * x) (Nat.gcd a b * y) = Nat.gcd a b * Nat.gcd x y := Nat.gcd_mul_left _ _ _
      rw [← hx, ← hy] at h2
      rw [← h2, Nat.mul_one]
    exact Nat.eq_of_mul_eq_mul_left hg e
/-- an amount in lowest terms -/
def Low (x : Int × Int) : Prop := 0 < x.2 ∧ Nat.gcd x.1.natAbs x.2.natAbs = 1
theorem amt_spec {n d : Int} (hd : d ≠ 0) : Low (amt n d) ∧ (amt n d).1 * d = n * (amt n d).2 ∧ (amt n d).1.natAbs ≤ n.natAbs ∧ (amt n d).2.natAbs ≤ d.natAbs := by
  obtain ⟨g, x, y, hg, eg, ex, ey, hy, h1⟩ := gcd_cut (a := n.natAbs) (b := d.natAbs) (by omega)
  have gi : ((g : Nat) : Int) ≠ 0 := by omega
  have e2 : (amt n d).2 = (y : Int) := by
    show ((d.natAbs : Nat) : Int) / ((Nat.gcd n.natAbs d.natAbs : Nat) : Int) = _
    rw [← eg, ey, Int.natCast_mul, Int.mul_ediv_cancel_left _ gi]
  have hyd : d.natAbs ≥ y := by
    rw [ey]; exact Nat.le_mul_of_pos_left _ hg
  have hxn : n.natAbs ≥ x := by
    rw [ex]; exact Nat.le_mul_of_pos_left _ hg
  have exi : ((n.natAbs : Nat) : Int) = (g : Int) * (x : Int) := by rw [ex, Int.natCast_mul]
  have eyi : ((d.natAbs : Nat) : Int) = (g : Int) * (y : Int) := by rw [ey, Int.natCast_mul]
  have main : ∀ (s : Int), (s = 1 ∨ s = -1) → (if d < 0 then -n else n) = s * ((g : Int) * (x : Int)) → (n = s * ((g : Int) * (x : Int)) ∧ d = (g : Int) * (y : Int) ∨ n = -(s * ((g : Int) * (x : Int))) ∧ d = -((g : Int) * (y : Int))) →
      Low (amt n d) ∧ (amt n d).1 * d = n * (amt n d).2 ∧ (amt n d).1.natAbs ≤ n.natAbs ∧ (amt n d).2.natAbs ≤ d.natAbs := by
    intro s hs e hnd
    have e1 : (amt n d).1 = s * (x : Int) := by
      show (if d < 0 then -n else n) / ((Nat.gcd n.natAbs d.natAbs : Nat) : Int) = _
      rw [← eg, e, Int.mul_left_comm, Int.mul_ediv_cancel_left _ gi]
    have ab : (s * (x : Int)).natAbs = x := by
      rcases hs with rfl | rfl
      · rw [Int.one_mul, Int.natAbs_natCast]
      · rw [Int.neg_mul, Int.one_mul, Int.natAbs_neg, Int.natAbs_natCast]
    refine ⟨⟨by rw [e2]; omega, ?_⟩, ?_, ?_, ?_⟩
    · rw [e1, e2, ab, Int.natAbs_natCast]; exact h1
    · rw [e1, e2]
      rcases hnd with ⟨a, b⟩ | ⟨a, b⟩
      · rw [a, b, Int.mul_assoc, Int.mul_assoc, Int.mul_left_comm (x : Int) (g : Int) (y : Int), Int.mul_assoc]
      · rw [a, b, Int.mul_neg, Int.neg_mul, Int.mul_assoc, Int.mul_assoc, Int.mul_left_comm (x : Int) (g : Int) (y : Int), Int.mul_assoc]
    · rw [e1, ab]; exact hxn
    · rw [e2, Int.natAbs_natCast]; exact hyd
  by_cases hdn : d < 0
  · by_cases hnn : n < 0
    · exact main 1 (.inl rfl) (by rw [if_pos hdn, Int.one_mul]; omega) (.inr ⟨by rw [Int.one_mul]; omega, by omega⟩)
    · exact main (-1) (.inr rfl) (by rw [if_pos hdn, Int.neg_mul, Int.one_mul]; omega) (.inr ⟨by rw [Int.neg_mul, Int.one_mul]; omega, by omega⟩)
  · by_cases hnn : n < 0
    · exact main (-1) (.inr rfl) (by rw [if_neg hdn, Int.neg_mul, Int.one_mul]; omega) (.inl ⟨by rw [Int.neg_mul, Int.one_mul]; omega, by omega⟩)
    · exact main 1 (.inl rfl) (by rw [if_neg hdn, Int.one_mul]; omega) (.inl ⟨by rw [Int.one_mul]; omega, by omega⟩)
/-- two amounts in lowest terms of the same worth are the same -/
theorem low_eq {x y : Int × Int} (hx : Low x) (hy : Low y) (e : x.1 * y.2 = y.1 * x.2) : x = y := by
  obtain ⟨a, b⟩ := x
  obtain ⟨c, d⟩ := y
  obtain ⟨hb, g1⟩ := hx
  obtain ⟨hd, g2⟩ := hy
  simp only at hb g1 hd g2 e
  have en : a.natAbs * d.natAbs = c.natAbs * b.natAbs := by rw [← Int.natAbs_mul, ← Int.natAbs_mul, e]
  have h1 : b.natAbs ∣ d.natAbs := by
    have : b.natAbs ∣ a.natAbs * d.natAbs := ⟨c.natAbs, by rw [en, Nat.mul_comm]⟩
    exact Nat.Coprime.dvd_of_dvd_mul_left (show Nat.Coprime b.natAbs a.natAbs by rw [Nat.Coprime, Nat.gcd_comm]; exact g1) this
  have h2 : d.natAbs ∣ b.natAbs := by
    have : d.natAbs ∣ c.natAbs * b.natAbs := ⟨a.natAbs, by rw [← en, Nat.mul_comm]⟩
    exact Nat.Coprime.dvd_of_dvd_mul_left (show Nat.Coprime d.natAbs c.natAbs by rw [Nat.Coprime, Nat.gcd_comm]; exact g2) this
  have h3 : b.natAbs = d.natAbs := Nat.dvd_antisymm h1 h2
  have h4 : b = d := by omega
  subst h4
  have h5 : a = c := Int.eq_of_mul_eq_mul_right (by omega) e
  rw [h5]
theorem amt_low {x : Int × Int} (h : Low x) : amt x.1 x.2 = x := by
  have s := amt_spec (n := x.1) (d := x.2) (by have := h.1; omega)
  exact low_eq s.1 h s.2.1
theorem amt_eq {n d m e : Int} (hd : d ≠ 0) (he : e ≠ 0) (h : n * e = m * d) : amt n d = amt m e := by
  have s := amt_spec (n := n) (d := d) hd
  have t := amt_spec (n := m) (d := e) he
  refine low_eq s.1 t.1 ?_
  -- (amt n d).1 * d = n * (amt n d).2 ; (amt m e).1 * e = m * (amt m e).2
  have key : ((amt n d).1 * (amt m e).2) * (d * e) = ((amt m e).1 * (amt n d).2) * (d * e) := by
    calc ((amt n d).1 * (amt m e).2) * (d * e) = ((amt n d).1 * d) * ((amt m e).2 * e) := by ac_rfl
      _ = (n * (amt n d).2) * ((amt m e).2 * e) := by rw [s.2.1]
      _ = (n * e) * ((amt n d).2 * (amt m e).2) := by ac_rfl
      _ = (m * d) * ((amt n d).2 * (amt m e).2) := by rw [h]
      _ = (m * (amt m e).2) * ((amt n d).2 * d) := by ac_rfl
      _ = ((amt m e).1 * e) * ((amt n d).2 * d) := by rw [t.2.1]
      _ = ((amt m e).1 * (amt n d).2) * (d * e) := by ac_rfl
  exact Int.eq_of_mul_eq_mul_right (Int.mul_ne_zero hd he) key

section
variable {P : Program} {w : World} {K : PySem.W.Frag} {T : Tb} {mg : Str → Option Value} {base : Heap}
/-! ### refusals: own error classes whose __init__ calls the base's -/
/-- C.m(e, ..), m a def read off the own class C -/
theorem pe_clsfn {X : Cx} {x m : Str} {C f : Addr} {mc : Value} {k : Nat} {fd : FuncData} {ps : List Str} {sp : Sp} {e : Expr} {es : List Expr} {t : TA} {p1 p2 pos : Pos} {pl : Sem Bool}
    (r : ClX.CRead X.K C mc) (hat : PySem.W.findCls X.K (.ref C) mc m = some (.val (.ref f))) (F : FnOk X.prog X.w X.K X.mg X.base CX0 k f fd ps sp) (hr : Room k X.A) (hg : Gl X x) (hm : X.mg x = some (.ref C))
    (hk : PySem.W.keepIn X.K (.ref f) = true) (hb : Binds X.K fd ps []) (ha : PA X (e :: es) t)
    (hc : eval (.Call (.Attribute (.Name x p1) m p2) (e :: es) [] pos) X.env = (do
      let ov ← eval (.Name x p1) X.env
      standAt p2.atName
      let (f, first) ← holding [ov] (getMethod ov m pl)
      callWith pos f first (backTo pos (starEach (e :: es) X.env)) (backToKw pos (keywordEach [] X.env))) := by rfl)
    (hdb : (x == ("__debug__" : Str)) = false := by decide) (he : starEach (e :: es) X.env = (false, eval e X.env) :: starEach es X.env := by rfl) (hpl : (backTo pos (starEach es X.env)).any (·.1) = false := by rfl) :
    PE X (.Call (.Attribute (.Name x p1) m p2) (e :: es) [] pos) (tCall sp [] E0 t) := by
  refine ⟨fun pins s σ H Q I h => ?_⟩
  refine PySem.W.methodCall_KW (ld_glob I hg hm ?_ hdb) hc
  refine PySem.W.method_cls I.kIn r.ga (PySem.W.cls_value I.kIn r.rd hat rfl ?_)
  show wpAny _ _ (callWith pos (Value.ref f) [] (backTo pos (starEach (e :: es) X.env)) []) _ _ _
  refine PySem.W.callWith_K (h₀ := X.base) I.ok.mod.kin hk (thn (ha.run pos pins _ σ H _ (I.tok _) h) fun us s1 ⟨vs, H1, I1, r1, q1⟩ => ⟨I1.kIn, ?_⟩) he hpl
  exact run_fn F hr hb .nil pass0 I1 r1 q1
/-- C(), C's own __init__ keeping sp -/
theorem pmk_oex0 {X : Cx} {x : Str} {C fI : Addr} {k : Nat} {fd : FuncData} {ps : List Str} {sp : Sp} {p pos : Pos} (T : OexC X.K C) (iC : PySem.W.findIn X.K (.ref C) "__init__" = some (some (.ref fI))) (tI : PySem.W.typeIn X.K (.ref fI) = some (.type "function"))
    (F1 : FnOk X.prog X.w X.K X.mg X.base CX0 k fI fd ps sp) (hr : Room (k + 1) X.A) (hb : Binds X.K fd ps []) (hg : Gl X x) (hm : X.mg x = some (.ref C)) (hdb : (x == ("__debug__" : Str)) = false := by decide) :
    PMk X (.Call (.Name x p) [] [] pos) (tMkO C sp [] tNil) := by
  intro pins s σ H Q I h
  obtain ⟨nm, q, N, bs, bm, sn, sub, ab, col, dd, k0, k1, k2, k3, k5, hC, hbm⟩ := T.cls
  refine wpAny_Call_Name_kw (ld_glob I hg hm ?_ hdb)
  refine PySem.W.callWith_K0 I.kIn T.kC ?_
  show wpAny _ _ (call (.ref C) []) _ _ _
  obtain ⟨hz, q1⟩ : ([] : List V).length ≤ 1000 ∧ _ := h
  obtain ⟨hp, g, dr, tk, os⟩ := s
  have hsz : hp.objs.size ≤ hp.objs.size + 1 := Nat.le_succ _
  have hn : H (hp.objs.size + 1) = none := I.hok.fresh hsz
  have hq := q1 (hp.objs.size + 1) hn
  have kk : ∀ b o, hp.get? b = some o → ((hp.push (PySem.W.kdv_tup [])).push (PySem.HandSPX.excO C hp.objs.size)).get? b = some o := fun b o e => Heap.get?_push_of_some _ (Heap.get?_push_of_some _ e)
  have hget : ((hp.push (PySem.W.kdv_tup [])).push (PySem.HandSPX.excO C hp.objs.size)).get? (hp.objs.size + 1) = some (PySem.HandSPX.excO C hp.objs.size) := by heap_get
  have I2 : Inv X pins σ (upd H (hp.objs.size + 1) (exo (hp.objs.size + 1) C none)) ⟨(hp.push (PySem.W.kdv_tup [])).push (PySem.HandSPX.excO C hp.objs.size), g, dr, tk, os⟩ :=
    I.laid (t' := tk) (a := hp.objs.size + 1) (o := exo (hp.objs.size + 1) C none) (h' := (hp.push (PySem.W.kdv_tup [])).push (PySem.HandSPX.excO C hp.objs.size)) kk hsz (exo_ok hget)
  have r2 : Vals (V.ref (hp.objs.size + 1) :: ([] ++ [])) ([Value.ref (hp.objs.size + 1)] ++ []) := .cons rfl .nil
  have hl : (Value.ref (hp.objs.size + 1) :: [] ++ []).length = ps.length := by
    have e := r2.length
    rw [F1.len _ _ _ _ hq] at e
    exact e.symm
  have hus : ([] : List Value).length ≤ sizeLine := Nat.zero_le _
  refine wpAny_call (PySem.HandSPX.call_own F.excBase_ValueError (fun Y => PySem.HandSPX.refsVE_contains Y bm hbm) (I.kIn _ _ hC) (PySem.W.looks_findIn I.kIn iC) (fun self => PySem.W.bind_fn I.kIn self tI) hus
    (codeAny_mono (F1.run _ X.stack _ _ ⟨Value.ref (hp.objs.size + 1) :: [], []⟩ ([Value.ref (hp.objs.size + 1)] ++ []) _ _ (fun _ _ _ => False) (hr.make C [] []) (I2.env0.make C [] []) (hb _ (Value.ref (hp.objs.size + 1) :: []) I2.kIn hl) r2 hq) fun r s' hq' => ?_))
  cases r with
  | error er => exact (show False from hq').elim
  | ok fl =>
    cases fl with
    | ret u =>
      obtain ⟨v, H2, os2, bare2, un2, hok2, rv, ev, d, fs, ea, ed, hd1, q2⟩ := hq'
      subst ev
      obtain ⟨h2, g2, d2, t2, os'⟩ := s'
      exact ⟨rv, mk_end (raises_own T.exC T.tyC) I hsz kk un2 hok2 os2 bare2 ea ed hd1 q2⟩
    | next => exact False.elim hq'
    | brk => exact False.elim hq'
    | cont => exact False.elim hq'
/-- what stands of a refusal that flies: its word -/
def Rf (K : PySem.W.Frag) (CP : Addr) (word : Str) (cls : Value) (d : Option Addr) (H' : Hp) : Prop :=
  ∃ C dd, cls = .ref C ∧ d = some dd ∧ XfC K C ∧ PySem.W.findIn K (.ref C) "word" = some none ∧ PySem.W.exmOne K (.ref C) (.ref CP) = some true ∧ H' dd = some (.xd [(("word" : Str), .str word)])
theorem Rf.keep {T : Tb} {K : PySem.W.Frag} {CP : Addr} {word : Str} {cls : Value} {d : Option Addr} {H H' : Hp} (h : Rf K CP word cls d H) (s : Sm T H H') : Rf K CP word cls d H' := by
  obtain ⟨C, dd, h1, h2, h3, h4, h5, h6⟩ := h
  exact ⟨C, dd, h1, h2, h3, h4, h5, s.k h6⟩
/-- the promise of PailError.__init__ and of those under it -/
def spInit2 (K : PySem.W.Frag) : Sp := fun vs H Q _ => ∃ (a C : Addr) (w : Str), vs = [.ref a, .str w] ∧ OexC K C ∧ PySem.W.findIn K (.ref C) "word" = some none ∧ H a = some (exo a C none) ∧
  ∀ dx, H dx = none → dx ≠ a → Q .non (upd (upd H dx (exd dx [(("word" : Str), .str w)])) a (exo a C (some dx)))
def spInit (w : Str) (K : PySem.W.Frag) : Sp := fun vs H Q _ => ∃ (a C : Addr), vs = [.ref a] ∧ OexC K C ∧ PySem.W.findIn K (.ref C) "word" = some none ∧ H a = some (exo a C none) ∧
  ∀ dx, H dx = none → dx ≠ a → Q .non (upd (upd H dx (exd dx [(("word" : Str), .str w)])) a (exo a C (some dx)))
/-- the error class by the name x, its word -/
structure Err (P : Program) (w : World) (K : PySem.W.Frag) (mg : Str → Option Value) (base : Heap) (CP : Addr) (x word : Str) : Prop where
  ex : ∃ (C fI : Addr) (fd : FuncData), mg x = some (.ref C) ∧ OexC K C ∧ XfC K C ∧ PySem.W.findIn K (.ref C) "word" = some none ∧ PySem.W.exmOne K (.ref C) (.ref CP) = some true ∧
    PySem.W.findIn K (.ref C) "__init__" = some (some (.ref fI)) ∧ PySem.W.typeIn K (.ref fI) = some (.type "function") ∧ FnOk P w K mg base CX0 2 fI fd ["self"] (spInit word K) ∧ Binds K fd ["self"] []
def tErr (K : PySem.W.Frag) (CP : Addr) (word : Str) : L2.St → Hp → XK → Prop := fun _ H Q => ∀ cls dd, H dd = none → Rf K CP word cls (some dd) (upd H dd (.xd [(("word" : Str), .str word)])) → Q cls (some dd) (upd H dd (.xd [(("word" : Str), .str word)]))
theorem pmk_err {X : Cx} {CP : Addr} {x word : Str} {p pos : Pos} (R : Err X.prog X.w X.K X.mg X.base CP x word) (hr : Room 3 X.A) (hg : Gl X x) (hdb : (x == ("__debug__" : Str)) = false := by decide) :
    PMk X (.Call (.Name x p) [] [] pos) (tErr X.K CP word) := by
  obtain ⟨C, fI, fd, g, oc, xf, nw, ex, iC, tI, F, b⟩ := R.ex
  intro pins s σ H Q I h
  refine pmk_oex0 (k := 2) oc iC tI F hr b hg g hdb pins s σ H Q I ⟨Nat.zero_le _, fun a ha => ⟨a, C, rfl, oc, nw, upd_same, fun dx hdx hne => ⟨rfl, dx, [(("word" : Str), .str word)], upd_same, ?_, ?_, ?_⟩⟩⟩
  · rw [upd_ne hne, upd_same]
  · rw [upd_ne hne] at hdx
    exact hdx
  · have hd : H dx = none := by
      rw [upd_ne hne] at hdx
      exact hdx
    have e : upd (L2.del (upd (upd (upd H a (exo a C none)) dx (exd dx [(("word" : Str), .str word)])) a (exo a C (some dx))) a) dx (.xd [(("word" : Str), .str word)]) = upd H dx (.xd [(("word" : Str), .str word)]) := by
      funext c
      by_cases h1 : c = dx
      · rw [h1, upd_same, upd_same]
      · rw [upd_ne h1, upd_ne h1]
        by_cases h2 : c = a
        · rw [h2, L2.del_same, ha]
        · rw [L2.del_ne h2, upd_ne h2, upd_ne h1, upd_ne h2]
    rw [e]
    exact h (.ref C) dx hd ⟨C, dx, rfl, rfl, xf, nw, ex, upd_same⟩
/-- e.word, e the refusal that the suite holds -/
def tXw (K : PySem.W.Frag) (a : Addr) (cls : Value) (d : Option Addr) (te : TE) : TE := fun σ H Q => te σ H fun x H1 => x = .ref a ∧ ∃ (C dd : Addr) (v : V), cls = .ref C ∧ XfC K C ∧ PySem.W.findIn K (.ref C) "word" = some none ∧ d = some dd ∧ H1 dd = some (.xd [(("word" : Str), v)]) ∧ Q v H1
theorem pe_xw {X : Cx} {a : Addr} {oe : Obj} {cls : Value} {d : Option Addr} {pn : List (Addr × Obj)} {e : Expr} {te : TE} {pos : Pos}
    (hz : Zc cls d oe) (hf : ∃ vs, oe.data = .fields vs) (he : PE (X.suite a ((a, oe) :: pn)) e te) (hb : attributeBase e "word" X.env (eval e X.env) = eval e X.env := by rfl) :
    PE (X.suite a ((a, oe) :: pn)) (.Attribute e "word" pos) (tXw X.K a cls d te) := by
  refine ⟨fun pins s σ H Q I h => ?_⟩
  refine attr_of hb (thn (he.run pins s σ H _ I h) fun u s1 hh => ?_)
  obtain ⟨x, H1, I1, rx, ex, C, dd, v, ec, T, hno, ed, ea, q⟩ := hh
  subst ex
  obtain rfl : u = Value.ref a := rx
  subst ec
  subst ed
  obtain ⟨ha, _⟩ := I1.pin (a, oe) (List.mem_append_left _ List.mem_cons_self)
  obtain ⟨vs, hd⟩ := hf
  have hx : ObjOk X.prog X.w H1 s1.heap dd (.xd [(("word" : Str), v)]) := I1.hok dd _ ea
  obtain ⟨mA, hns, hr⟩ := hx
  obtain ⟨od, ho, hl⟩ := lookIn_ns hns
  have l : List.lookup ("word" : Str) [(("word" : Str), v)] = some v := by simp [List.lookup]
  obtain ⟨u, hu, ru⟩ := RelO.some_of (v := v) (o := mA "word") (by rw [← l]; exact hr "word")
  have J : PySem.W.InstAt s1.heap a oe C (some od) := ⟨ha, hz.1, by unfold PySem.W.notCls; rw [hd] <;> rfl, by rw [hz.2]; exact ho⟩
  exact HandSPX.exc_get I1.kIn J T.ga T.gg T.exC (PySem.W.findObj_own T.hdC hno rfl (by rw [hl, hu])) (handed_of ru) ⟨v, H1, I1.tok _, ru, q⟩
/-! ### a def that may raise, ready to be called -/
structure Fx (P : Program) (w : World) (K : PySem.W.Frag) (mg : Str → Option Value) (base : Heap) (k : Nat) (x : Str) (ps : List Str) (sp : Sp) : Prop where
  ex : ∃ f fd, FnOk P w K mg base (L2.CX P w) k f fd ps sp ∧ mg x = some (.ref f) ∧ PySem.W.keepIn K (.ref f) = true ∧ Binds K fd ps []
theorem Fx.mk' {P : Program} {w : World} {K : PySem.W.Frag} {mg : Str → Option Value} {base : Heap} {k : Nat} {x : Str} {ps : List Str} {sp : Sp} {f : Addr} {fd : FuncData}
    (h : FnOk P w K mg base (L2.CX P w) k f fd ps sp) (g : mg x = some (.ref f)) (kp : PySem.W.keepIn K (.ref f) = true) (b : Binds K fd ps []) : Fx P w K mg base k x ps sp := ⟨⟨f, fd, h, g, kp, b⟩⟩
theorem pe_fx {X : Cx} {k : Nat} {x : Str} {ps : List Str} {sp : Sp} {e : Expr} {es : List Expr} {t : TA} {p pos : Pos} {E : XK} (F : Fx X.prog X.w X.K X.mg X.base k x ps sp) (hr : Room k X.A) (tk : Takes X (fun cls d _ H => E cls d H)) (ha : PA X (e :: es) t) (hg : Gl X x := by rfl) (hdb : (x == ("__debug__" : Str)) = false := by decide)
    (he : starEach (e :: es) X.env = (false, eval e X.env) :: starEach es X.env := by rfl) (hpl : (backTo pos (starEach es X.env)).any (·.1) = false := by rfl) :
    PE X (.Call (.Name x p) (e :: es) [] pos) (tCall sp [] E t) := by
  obtain ⟨f, fd, h, g, kp, b⟩ := F.ex
  exact pe_call h hr hg g kp b .nil (passes_call tk fun _ _ _ _ h => h) ha hdb he hpl
/-- .. where nothing is to be let out -/
theorem pe_fx0 {X : Cx} {k : Nat} {x : Str} {ps : List Str} {sp : Sp} {e : Expr} {es : List Expr} {t : TA} {p pos : Pos} (F : Fx X.prog X.w X.K X.mg X.base k x ps sp) (hr : Room k X.A) (ha : PA X (e :: es) t) (hg : Gl X x := by rfl) (hdb : (x == ("__debug__" : Str)) = false := by decide)
    (he : starEach (e :: es) X.env = (false, eval e X.env) :: starEach es X.env := by rfl) (hpl : (backTo pos (starEach es X.env)).any (·.1) = false := by rfl) :
    PE X (.Call (.Name x p) (e :: es) [] pos) (tCall sp [] E0 t) := by
  obtain ⟨f, fd, h, g, kp, b⟩ := F.ex
  exact pe_call h hr hg g kp b .nil passL ha hdb he hpl
/-! ### a def whose code object is told -/
structure FunC (K : PySem.W.Frag) (x qual : Str) (st : Stmt) (f : Addr) (fd : FuncData) (c : Addr) : Prop where
  ex : ∃ (oc : Value) (od : Option Addr) (kV doc pm : Value) (an : Option Addr) (ct : Value) (osl : Array (Option Value)),
    fd = PySem.W.fnOf x qual (defArgs st) (defBody st) (defScope st) .none kV doc pm an (.ref c) ct ∧ K.lookup f = some ⟨oc, od, .func fd, osl⟩ ∧ PySem.W.codeIn K (.ref c) qual = true
  kp : PySem.W.keepIn K (.ref f) = true
theorem FunC.ok {P : Program} {w : World} {K : PySem.W.Frag} {mg : Str → Option Value} {base : Heap} {x qual : Str} {st : Stmt} {f c : Addr} {fd : FuncData} {N ps : List Str} {k : Nat} {sp : Sp} (F : FunC K x qual st f fd c) (S : FnScope N ps (defScope st)) (len : ∀ vs H Q E, sp vs H Q E → vs.length = ps.length)
    (hbody : ∀ (A : Around) (outer : List Env) (s : Shared) (H : Hp) (vs : List V) (Q : VK) (E : XK), Room k (A.deeper (envOfC qual (defScope st) s.heap.objs.size f (.ref c))) → sp vs H Q E →
      ∃ t, PSs (cxOf CX0 P w K mg base N qual (defScope st) f (.ref c) A outer s H E).nox (defBody st) t ∧ t { nx := fun _ H' => Q .non H', rt := Q } (start N vs) H) : FnOk P w K mg base CX0 (k + 1) f fd ps sp := by
  obtain ⟨oc, od, kV, doc, pm, an, ct, osl, rfl, lk, hcd⟩ := F.ex
  refine fn_of lk hcd S len fun A outer s H vs Q E hr hsp => ?_
  obtain ⟨t, h, q⟩ := hbody A outer s H vs Q E hr hsp
  exact ⟨t, h.nox, q⟩
theorem FunC.okX {P : Program} {w : World} {K : PySem.W.Frag} {mg : Str → Option Value} {base : Heap} {x qual : Str} {st : Stmt} {f c : Addr} {fd : FuncData} {N ps : List Str} {k : Nat} {sp : Sp} (F : FunC K x qual st f fd c) (S : FnScope N ps (defScope st)) (len : ∀ vs H Q E, sp vs H Q E → vs.length = ps.length)
    (hbody : ∀ (A : Around) (outer : List Env) (s : Shared) (H : Hp) (vs : List V) (Q : VK) (E : XK), Room k (A.deeper (envOfC qual (defScope st) s.heap.objs.size f (.ref c))) → sp vs H Q E →
      ∃ t, PSs (cxOf (L2.CX P w) P w K mg base N qual (defScope st) f (.ref c) A outer s H E) (defBody st) t ∧ t { nx := fun _ H' => Q .non H', rt := Q } (start N vs) H) : FnOk P w K mg base (L2.CX P w) (k + 1) f fd ps sp := by
  obtain ⟨oc, od, kV, doc, pm, an, ct, osl, rfl, lk, hcd⟩ := F.ex
  exact fn_of lk hcd S len fun A outer s H vs Q E hr hsp => hbody A outer s H vs Q E hr hsp
theorem FunC.binds {K : PySem.W.Frag} {x qual : Str} {st : Stmt} {f c : Addr} {fd : FuncData} {ps : List Str} (F : FunC K x qual st f fd c)
    (h : ∀ (kV doc pm : Value) (an : Option Addr) (ct : Value) (us : List Value), us.length = ps.length → bindArgs (PySem.W.fnOf x qual (defArgs st) (defBody st) (defScope st) .none kV doc pm an (.ref c) ct) ⟨us, []⟩ = pure (ps.zip us)) : Binds K fd ps [] := by
  obtain ⟨oc, od, kV, doc, pm, an, ct, osl, rfl, lk, hcd⟩ := F.ex
  exact .all (h kV doc pm an ct)
theorem exm_of {K : PySem.W.Frag} {C S : Addr} (h1 : PySem.W.subIn K (.ref S) (.type "BaseException") = some true) (h2 : PySem.W.isClsIn K S = true) (h3 : PySem.W.typeIn K (.ref S) = some (.type "type")) (h4 : PySem.W.subIn K (.ref C) (.ref S) = some true) :
    PySem.W.exmOne K (.ref C) (.ref S) = some true := by
  have e1 : (PySem.W.subIn K (.ref S) (.type "BaseException") == some true) = true := by rw [h1] <;> rfl
  have e2 : ((PySem.W.clsIn K S).isSome && PySem.W.typeIn K (.ref S) == some (.type "type")) = true := by
    have h2' : (PySem.W.clsIn K S).isSome = true := h2
    rw [h2', h3] <;> rfl
  show (if (PySem.W.subIn K (.ref S) (.type "BaseException") == some true) = true then (if ((PySem.W.clsIn K S).isSome && PySem.W.typeIn K (.ref S) == some (.type "type")) = true then PySem.W.subIn K (.ref C) (.ref S) else none) else none) = some true
  rw [if_pos e1, if_pos e2]
  exact h4

/-! ### generator expressions -/
theorem sm_tabbed {T : Tb} {H H' : Hp} {P : Addr} (hn : (T.map (·.1)).Nodup) (hP : (P, (none : Option Str)) ∈ T) (ht : GxR.TabG H P) (h : GxR.Tabbed P H H') : Sm T H H' := by
  obtain ⟨ps, e, _⟩ := ht
  have ne : ∀ b o, H b = some o → nTbl o → b ≠ P := fun b o q n z => by
    rw [z, e] at q
    cases q
    exact n
  refine ⟨fun b o q n => by rw [h.2 b (ne b o q n)]; exact q, fun k p hp => ?_, fun l hl => ?_⟩
  · by_cases hb : p.1 = P
    · have ep : p = (P, none) := by
        obtain ⟨i, hi, e1⟩ := List.getElem_of_mem hp
        obtain ⟨j, hj, e2⟩ := List.getElem_of_mem hP
        have hij : i = j := by
          have a1 : (T.map (·.1))[i]? = some P := by rw [List.getElem?_map, List.getElem?_eq_getElem hi, e1]; exact congrArg some hb
          have a2 : (T.map (·.1))[j]? = some P := by rw [List.getElem?_map, List.getElem?_eq_getElem hj, e2]; rfl
          exact nd_ix hn a1 a2
        subst hij
        rw [← e1, e2]
      rw [ep]
      exact h.1
    · have q := k p hp
      obtain ⟨P', w⟩ := p
      have hb : P' ≠ P := hb
      cases w with
      | none =>
        obtain ⟨ps', a1, a2⟩ := (show GxR.TabG H P' from q)
        exact ⟨ps', by rw [h.2 _ hb]; exact a1, a2⟩
      | some w =>
        obtain ⟨ps', a1, a2, a3⟩ := (show LamX.TabS H P' w from q)
        refine ⟨ps', by rw [h.2 _ hb]; exact a1, a2, fun pos cv hc => ?_⟩
        obtain ⟨c, e1, e2⟩ := a3 pos cv hc
        refine ⟨c, e1, ?_⟩
        rw [h.2 c (ne c _ e2 (by unfold LamX.CodeO; trivial))]
        exact e2
  · by_cases z : l = P
    · obtain ⟨ps', a1, _⟩ := h.1
      rw [z, a1] at hl
      cases hl
    · rw [← h.2 l z]
      exact hl
/-- the element of a generator over ints, in the generator's frame -/
def EltI (X : Cx) (scope : Scope) (x : Str) (elt : Expr) (F : Int → Value → Prop) : Prop :=
  ∀ (cenv : Env) (A' : Around) (E' : Value → Shared → Prop) (i : Int) (t : Tok) (s₂ : Shared) (m₂ : Str → Option Value), cenv.scope = scope → cenv.globals = X.env.globals → cenv.builtins = builtinsNs → A'.handled = none → A'.depth ≤ X.A.depth + 1 → A'.units ≤ X.A.units + 8 →
    X.K.In s₂.heap → s₂.heap.NoLimit → s₂.heap.Ns mainGlobals X.mg → (∃ mb, s₂.heap.Ns builtinsNs mb ∧ ∀ y : Str, y ≠ "__name__" → mb y = bootBuiltins y) → s₂.heap.Ns cenv.locals m₂ → m₂ x = some (.int i t) →
    wpAny (model X.prog X.w) A' (eval elt cenv) (fun y s₃ => F i y ∧ Keeps s₂ s₃) E' s₂
/-- over pairs of ints -/
def EltP (X : Cx) (scope : Scope) (xa xb : Str) (elt : Expr) (f : Int → Int → Int) : Prop :=
  ∀ (cenv : Env) (A' : Around) (E' : Value → Shared → Prop) (i j : Int) (t u : Tok) (s₂ : Shared) (m₂ : Str → Option Value), cenv.scope = scope → A'.handled = none →
    (-(2 ^ 64) < i ∧ i < 2 ^ 64) → s₂.heap.Ns cenv.locals m₂ → m₂ xa = some (.int i t) → m₂ xb = some (.int j u) →
    wpAny (model X.prog X.w) A' (eval elt cenv) (fun y s₃ => (∃ v, y = .int (f i j) v) ∧ Keeps s₂ s₃) E' s₂
section
variable {X : Cx} {pins : List (Addr × Obj)} {σ : L2.St} {H : Hp} {s : Shared}
theorem gen_tup {c P : Addr} {elt iter : Expr} {x : Str} {px gpos : Pos} {scope : Scope} {pb : Int → Bool} {te : TE} {k : Nat} {Q' : Value → Shared → Prop} {R : List Int → Hp → Prop}
    (hr : Room k X.A) (TB : GxR.TabB X.base X.mg c P) (hcode : X.env.code = .ref c) (S : GxR.GenS X.env scope x) (hi : PE X iter te) (hel : EltI X scope x elt (fun i y => y = .bool (pb i)))
    (hs : ∀ v, genFold iter X.env v = pure v) (I : Inv X pins σ H s) (h : te σ H fun v H1 => ∃ (a : Addr) (ns : List Int), v = .ref a ∧ SqT X.K H1 a (ns.map V.int) ∧ GxR.TabG H1 P ∧ R ns H1)
    (hQ : ∀ ns H1 g s5, R ns H1 → (∃ (fp wr : List Addr) (G : Array GenState → Array GenState → Prop) (F : Nat → Value → Prop) (St : Nat → Shared → Prop),
      WalksS X.prog X.w X.A.in1 g fp wr G ns.length F St ∧ St 0 s5 ∧ TruthOf X.prog X.w X.A.in1 F (fun j => (ns.map pb).getD j false) ∧ ∀ s', Moved wr G s5 s' → ∃ H2, GxR.Tabbed P H1 H2 ∧ Inv X pins σ H2 s') → Q' (.ref g) s5) :
    wpAny (model X.prog X.w) X.A (eval (.GeneratorExp elt [⟨.Name x px, iter, [], 0⟩] scope gpos) X.env) Q' X.xe s := by
  refine wpAny_GeneratorExp_walksQD hr.hd S.co (closure_ok S.free) S.cell S.dot S.loc S.kind (by have := hr.dp; omega) ?_ hs
  refine thn (hi.run pins s σ H _ I h) fun xv s1 ⟨v, H1, I1, r1, q1⟩ => ?_
  obtain ⟨a, ns, rfl, hS, ⟨ps, hP, ht⟩, q1⟩ := q1
  cases r1
  obtain ⟨its, rv, hTup, hz⟩ := I1.tuple hS
  have hT : s1.heap.IsTuple a its.toArray := let ⟨o, ho, hc, n, hd⟩ := hTup; ⟨o, ho, hc, n, hd⟩
  have hlt : a < s1.heap.objs.size := by obtain ⟨_, e, _⟩ := hT; exact Heap.lt_size e
  refine wpAny_pyIter_tuple hT ?_
  have hPs : s1.heap.get? P = some { cls := .none, data := .fields ps } := I1.hok P _ hP
  have hPlt : P < s1.heap.objs.size := Heap.lt_size hPs
  let o : Obj := { cls := .type "tuple_iterator", data := .fields #[.ref a, .int 0 0] }
  show (s1.heap.push o).NoLimit ∧ _
  have hP2 : (s1.heap.push o).get? P = some { cls := .none, data := .fields ps } := Heap.get?_push_of_some _ hPs
  have cd : PySem.W.CodeHd (s1.heap.push o) c P := TB.code.keeps fun b u e => Heap.get?_push_of_some _ (I1.bk b u e)
  have lim2 : (s1.heap.push o).NoLimit := I1.nolimit.push o
  have hni : ∀ (i : Nat) (v : Value), its.toArray[i]? = some v → ∃ (z : Int) (t : Tok), ns[i]? = some z ∧ v = .int z t := fun i v hv => by
    have hv' : its[i]? = some v := by simpa using hv
    have hl : i < (ns.map V.int).length := by
      rw [rv.length]
      exact (List.getElem?_eq_some_iff.mp hv').1
    obtain ⟨u, hu, ru⟩ := rv.get (List.getElem?_eq_getElem hl)
    rw [hv'] at hu
    cases hu
    rw [List.length_map] at hl
    rw [List.getElem_map] at ru
    obtain ⟨t, e⟩ := ru
    exact ⟨ns[i], t, List.getElem?_eq_getElem hl, e⟩
  have cont : ∀ (code : Value) (h3 : Heap) (tk : Nat) (ps' : Array Value), Heap.ExtBut P (s1.heap.push o) h3 → (s1.heap.push o).objs.size ≤ h3.objs.size → h3.get? P = some { cls := .none, data := .fields ps' } → (∃ more, ps' = ps ++ more) → TriplesOk ps'.toList →
      wpAny (model X.prog X.w) X.A (builtinsFor X.env.globals X.env.builtins) (fun bi s₄ =>
        ∃ Ia fp wr n₀ Pf St₀ pz F, Value.ref s1.heap.objs.size = .ref Ia ∧ (∀ A' : Around, A'.handled = none → Walks X.prog X.w A' Ia fp wr n₀ Pf St₀) ∧ St₀ 0 s₄.heap ∧ (∀ b ∈ fp, b < s₄.heap.objs.size) ∧ s₄.heap.NoLimit ∧ cStatics ∉ wr ∧
          (∀ href : Heap, (∀ b o, s₄.heap.get? b = some o → href.get? b = some o) →
            QuietGenD X.prog X.w (genEnv scope (cloFrom X.env.cells scope.names []) s₄.heap.objs.size code bi X.env) x [] elt (List.range s₄.heap.objs.size) wr Pf pz F href (X.A.depth + 1) (X.A.units + 8)) ∧
          (∀ a h₅ tk gs, gs.bare = true → s₄.heap.objs.size < a → h₅.objs.size = a + 1 → (∀ b o, s₄.heap.get? b = some o → h₅.get? b = some o) →
            WalksS X.prog X.w X.A.in4 a (a :: s₄.heap.objs.size :: List.range s₄.heap.objs.size) (s₄.heap.objs.size :: wr) (GenOnlyQ s₄.gens.size) (passing pz n₀ 0).length
              (fun j y => ∃ i, (passing pz n₀ 0)[j]? = some i ∧ F i y) (GenAt X.prog X.w X.A.in4 a s₄.gens.size s₄.heap.objs.size (List.range s₄.heap.objs.size) wr pz n₀ F) →
            GenAt X.prog X.w X.A.in4 a s₄.gens.size s₄.heap.objs.size (List.range s₄.heap.objs.size) wr pz n₀ F 0 { s₄ with gens := s₄.gens.push gs, toks := tk, heap := h₅ } →
            Q' (.ref a) { s₄ with gens := s₄.gens.push gs, toks := tk, heap := h₅ })) X.xe { s1 with heap := h3, toks := tk } := by
    intro code h3 tk ps' hx hsz hP3 hmore ht3
    obtain ⟨bm, ob, e1, e2, e3, e4, e5, e6, e7, e8⟩ := TB.bm
    have hcP : cStatics ≠ P := fun e => by
      obtain ⟨_, hns, _⟩ := I1.nolimit
      obtain ⟨o', es, ep, ho, hd, _⟩ := hns
      rw [e, hPs] at ho
      cases ho
      cases hd
    have hcl : cStatics < s1.heap.objs.size := let ⟨_, hns, _⟩ := I1.nolimit; hns.lt
    have sz2 : (s1.heap.push o).objs.size = s1.heap.objs.size + 1 := Heap.size_push ..
    have keep3 : ∀ b u, b ≠ P → s1.heap.get? b = some u → h3.get? b = some u := fun b u hb e => hx b u hb (Heap.get?_push_of_some _ e)
    have glob3 : h3.Ns X.env.globals X.mg := by rw [I1.ok.glob]; exact ((I1.mod.glob.keeps I1.bk).push o).extBut hx TB.gP
    refine wpAny_builtinsFor (m := X.mg) glob3 e1 e2 (keep3 _ _ e4 (I1.bk _ _ e5)) e6 e7 e8 ?_
    have haP : a ≠ P := fun e => by
      obtain ⟨o', ho', hc', _⟩ := hT
      rw [e, hPs] at ho'
      cases ho'
      cases hc'
    refine ⟨s1.heap.objs.size, [s1.heap.objs.size, a], [s1.heap.objs.size], its.toArray.size, (fun i v => its.toArray[i]? = some v), (fun i h => h.IsTupleIter s1.heap.objs.size a i ∧ h.IsTuple a its.toArray), (fun _ => true), (fun i y => ∃ z, ns[i]? = some z ∧ y = .bool (pb z)), rfl, fun A' hA => Walks.tuple hA _ _ (Nat.ne_of_lt hlt) its.toArray, ?_, ?_, lim2.extBut hx hcP, ?_, ?_, ?_⟩
    · have h0 : (s1.heap.push o).IsTupleIter s1.heap.objs.size a 0 ∧ (s1.heap.push o).IsTuple a its.toArray := ⟨⟨_, Heap.get?_push_size _ rfl, rfl, rfl⟩, hT.push _⟩
      refine (Walks.tuple (prog := X.prog) (w := X.w) hr.hd _ _ (Nat.ne_of_lt hlt) its.toArray).frame _ _ _ h0 fun b hb u e => hx b u (fun z => ?_) e
      rcases List.mem_cons.mp hb with z2 | z2
      · exact Nat.ne_of_lt hPlt (z.symm.trans z2)
      · rcases List.mem_cons.mp z2 with z2 | z2
        · exact haP (z2.symm.trans z)
        · cases z2
    · intro b hb
      show b < h3.objs.size
      have sz3 : s1.heap.objs.size + 1 ≤ h3.objs.size := by rw [← sz2]; exact hsz
      rcases List.mem_cons.mp hb with z | z
      · rw [z]
        exact sz3
      · rcases List.mem_cons.mp z with z | z
        · rw [z]
          exact Nat.lt_trans hlt sz3
        · cases z
    · intro z
      rcases List.mem_cons.mp z with z | z
      · exact Nat.ne_of_lt hcl z
      · cases z
    · intro href hhref
      have up : ∀ (s₂ : Shared), (∀ b ∈ List.range h3.objs.size, b ∉ [s1.heap.objs.size] → ∀ o, href.get? b = some o → s₂.heap.get? b = some o) → ∀ b u, b ≠ P → s1.heap.get? b = some u → s₂.heap.get? b = some u := fun s₂ hk b u hb e => by
        have h1 := keep3 b u hb e
        refine hk b (List.mem_range.mpr (Heap.lt_size h1)) (fun z => ?_) u (hhref b u h1)
        rcases List.mem_cons.mp z with z | z
        · rw [z] at e
          exact Nat.lt_irrefl _ (Heap.lt_size e)
        · cases z
      refine ⟨fun A' E' i v s₂ m₂ hA _ _ hPv hn hm hk => ?_, fun A' E' i v s₂ m₂ hA hD hU hPv hp hn hm hk => ?_⟩
      · simp only [List.forIn_nil]
        exact wpAny_pure ⟨rfl, GxR.keeps_refl _⟩
      · obtain ⟨z, t, hz1, rfl⟩ := hni i v hPv
        have u2 := up s₂ hk
        have baseK : ∀ b u, X.base.get? b = some u → b ≠ P → s₂.heap.get? b = some u := fun b u e hb => u2 b u hb (I1.bk b u e)
        have nP : X.base.get? P = none := by
          cases q : X.base.get? P with
          | none => rfl
          | some u =>
            have := (I1.bs P u q).2
            rw [hP] at this
            cases this
        have baseA : ∀ b u, X.base.get? b = some u → s₂.heap.get? b = some u := fun b u e => baseK b u e (fun z => by rw [z, nP] at e; cases e)
        obtain ⟨mb, hb1, hb2⟩ := I1.mod.blt
        exact wpAny_mono (hel _ A' E' z t s₂ m₂ rfl rfl rfl hA hD hU (I1.ok.mod.kin.keeps baseA) (I1.ok.mod.nolimit.keeps baseA) (I1.mod.glob.keeps baseA) ⟨mb, hb1.keeps baseA, hb2⟩ hn hm) (fun y s3 r => ⟨⟨z, hz1, r.1⟩, r.2⟩) fun _ _ e => e
    · intro g h5 tk5 gs hgb hag hsz5 hk5 W5 hat
      simp only [GxR.passing_true, List.length_range] at W5
      have hsize : its.toArray.size = ns.length := by
        have := rv.length
        rw [List.length_map] at this
        rw [List.size_toArray]
        exact this.symm
      rw [hsize] at W5 hat
      refine hQ ns H1 g _ q1 ⟨_, _, _, _, _, W5.in4_1, hat, ?_, fun s' hm => ?_⟩
      · intro j y sj Qj Ej hy hQj
        obtain ⟨i, hij, z, hz1, rfl⟩ := hy
        obtain ⟨hj, ej⟩ := List.getElem?_eq_some_iff.mp hij
        rw [List.getElem_range] at ej
        subst ej
        have e9 : (ns.map pb).getD j false = pb z := by rw [List.getD_eq_getElem?_getD, List.getElem?_map, hz1]; rfl
        have hQ2 : Qj ((ns.map pb).getD j false) sj := hQj
        rw [e9] at hQ2
        exact wpAny_truthy_bool hQ2
      · obtain ⟨more, em⟩ := hmore
        have nwr : ∀ b u, s1.heap.get? b = some u → b ∉ h3.objs.size :: [s1.heap.objs.size] := fun b u e hb => by
          have hl := Heap.lt_size e
          rcases List.mem_cons.mp hb with z | z
          · rw [z] at hl
            have h9 : (h3.objs.size : Nat) < s1.heap.objs.size := hl
            omega
          · rcases List.mem_cons.mp z with z | z
            · rw [z] at hl
              exact Nat.lt_irrefl _ hl
            · cases z
        have J := GxR.inv_tab (more := more) (h' := s'.heap) (g' := s'.gens) (d' := s'.drawn) (t' := s'.toks) I1 hP (fun b u hb e => hm.heap b u (nwr b u e) (hk5 b u (keep3 b u hb e)))
          (by rw [← em]; exact hm.heap P _ (nwr P _ hPs) (hk5 P _ hP3)) (AllBare.movedS (I1.bare.push hgb) hm)
        rw [GxR.sh_eta s1 s' hm.os] at J
        refine ⟨upd H1 P (.tbl (ps ++ more)), ⟨⟨ps ++ more, upd_same, by rw [← em]; exact ht3⟩, fun b hb => upd_ne hb⟩, J⟩
  refine ⟨lim2, ?_⟩
  cases hf : codeAmong gpos ps.toList with
  | none =>
    refine wpAny_genexprCodeX hcode (cd.code hP2 ht) (cd.tab hP2) hf fun c' h' tk hx hge hlt hco' _ htab' _ => ?_
    obtain ⟨o1, vs, f1, tf, fl, tg, inF, tx, tt, op, _, _, _, _, _, _, _, _, _, htr, _⟩ := hco'
    exact cont _ h' tk _ hx (Nat.le_trans hge (Nat.le_of_lt hlt)) htab'.2 ⟨_, rfl⟩ htr
  | some cv =>
    refine wpAny_genexprCode_hit hcode (cd.code hP2 ht) hf ?_
    exact cont cv (s1.heap.push o) s1.toks ps (Heap.ExtBut.refl _ _) (Nat.le_refl _) hP2 ⟨#[], by simp⟩ ht
theorem all_getD (ns : List Int) (pb : Int → Bool) : (List.range ns.length).all (fun j => (ns.map pb).getD j false) = ns.all pb := by
  rw [Bool.eq_iff_iff, List.all_eq_true, List.all_eq_true]
  constructor
  · intro h z hz
    obtain ⟨j, hj, e⟩ := List.getElem_of_mem hz
    have q := h j (List.mem_range.mpr hj)
    rw [List.getD_eq_getElem?_getD, List.getElem?_map, List.getElem?_eq_getElem hj] at q
    rw [← e]
    exact q
  · intro h j hj
    have hj' := List.mem_range.mp hj
    rw [List.getD_eq_getElem?_getD, List.getElem?_map, List.getElem?_eq_getElem hj']
    exact h _ (List.getElem_mem hj')
/-- all(test for x in e), e a tuple of ints -/
def tAllI (K : PySem.W.Frag) (T : Tb) (P : Addr) (pb : Int → Bool) (te : TE) : TE := fun σ H Q => te σ H fun v H1 => ∃ (a : Addr) (ns : List Int), v = .ref a ∧ SqT K H1 a (ns.map V.int) ∧ GxR.TabG H1 P ∧ (Ok T H1 ∧ ∀ H2, Sm T H1 H2 → Q (.bl (ns.all pb)) H2)
theorem pe_allI {T : Tb} {c P : Addr} {elt iter : Expr} {x : Str} {px p pos gpos : Pos} {scope : Scope} {pb : Int → Bool} {te : TE} {k : Nat} (hn : (T.map (·.1)).Nodup) (hPT : (P, (none : Option Str)) ∈ T)
    (hr : Room k X.A) (hg : Gl X "all") (hm : X.mg "all" = none) (hb : bootBuiltins "all" = some (.builtin "all")) (TB : GxR.TabB X.base X.mg c P) (hcode : X.env.code = .ref c) (S : GxR.GenS X.env scope x) (hi : PE X iter te) (hel : EltI X scope x elt (fun i y => y = .bool (pb i)))
    (hs : ∀ v, genFold iter X.env v = pure v)
    (he : starEach [.GeneratorExp elt [⟨.Name x px, iter, [], 0⟩] scope gpos] X.env = (false, eval (.GeneratorExp elt [⟨.Name x px, iter, [], 0⟩] scope gpos) X.env) :: starEach [] X.env := by rfl) :
    PE X (.Call (.Name "all" p) [.GeneratorExp elt [⟨.Name x px, iter, [], 0⟩] scope gpos] [] pos) (tAllI X.K T P pb te) := by
  refine ⟨fun pins s σ H Q I h => ?_⟩
  refine wpAny_Call_Name_kw (ld_blt I hg hm hb ?_)
  refine PyProof.Rows.callWith_builtin1 ?_ he (by rfl)
  rw [he]
  show wpAny _ _ (spliced ((false, eval (.GeneratorExp elt [⟨.Name x px, iter, [], 0⟩] scope gpos) X.env) :: backTo pos (starEach [] X.env))) _ _ s
  refine Calls.spliced_cons (gen_tup (R := fun ns H1 => Ok T H1 ∧ ∀ H2, Sm T H1 H2 → Q (.bl (ns.all pb)) H2) hr TB hcode S hi hel hs I h fun ns H1 g s5 hR hG => ?_)
  obtain ⟨fp, wr, G, F, St, W, hst, htr, hI⟩ := hG
  refine Calls.spliced_nil ?_
  refine call_all_walkS (W.self 0 _ _ _ hst ⟨g, fp, wr, G, _, F, St, _, rfl, W, hst, htr, fun s' hmv => ?_⟩)
  obtain ⟨H2, hT, J⟩ := hI s' hmv
  refine ⟨.bl _, H2, J, rfl, ?_⟩
  rw [all_getD ns pb]
  exact hR.2 H2 (sm_tabbed hn hPT (hR.1 _ hPT) hT)
end
section
variable {X : Cx} {pins : List (Addr × Obj)} {σ : L2.St} {H : Hp} {s : Shared}
/-- a list of pairs of ints -/
def Pairs (K : PySem.W.Frag) (H : Hp) (a : Addr) (ps : List (Int × Int)) : Prop := ∃ vs : List V, SqL K H a vs ∧ vs.length = ps.length ∧ ∀ (i : Nat) (p : Int × Int), ps[i]? = some p → ∃ b, vs[i]? = some (.ref b) ∧ SqT K H b [.int p.1, .int p.2]
theorem Pairs.keep {T : Tb} {K : PySem.W.Frag} {H H' : Hp} {a : Addr} {ps : List (Int × Int)} (h : Pairs K H a ps) (s : Sm T H H') : Pairs K H' a ps := by
  obtain ⟨vs, h1, h2, h3⟩ := h
  refine ⟨vs, s.seq h1, h2, fun i p e => ?_⟩
  obtain ⟨b, e1, e2⟩ := h3 i p e
  exact ⟨b, e1, same_tup s e2⟩
theorem gen_pairs {c P : Addr} {elt iter : Expr} {xa xb : Str} {pa pb pt gpos : Pos} {kt : Nat} {scope : Scope} {f : Int → Int → Int} {te : TE} {k : Nat} {Q' : Value → Shared → Prop} {R : List (Int × Int) → Hp → Prop}
    (hr : Room k X.A) (TB : GxR.TabB X.base X.mg c P) (hcode : X.env.code = .ref c) (S : GxR.GenS X.env scope xa) (hxb : scope.names.lookup xb = some .local) (hab : xa ≠ xb) (hi : PE X iter te) (hel : EltP X scope xa xb elt f)
    (hs : ∀ v, genFold iter X.env v = pure v) (I : Inv X pins σ H s) (h : te σ H fun v H1 => ∃ (a : Addr) (qs : List (Int × Int)), v = .ref a ∧ Pairs X.K H1 a qs ∧ (∀ q ∈ qs, -(2 ^ 64) < q.1 ∧ q.1 < 2 ^ 64) ∧ GxR.TabG H1 P ∧ R qs H1)
    (hQ : ∀ qs H1 g s5, R qs H1 → (∃ (fp wr : List Addr) (G : Array GenState → Array GenState → Prop) (F : Nat → Value → Prop) (St : Nat → Shared → Prop),
      WalksS X.prog X.w X.A.in1 g fp wr G qs.length F St ∧ St 0 s5 ∧ (∀ b ∈ fp, b < s5.heap.objs.size) ∧ (∀ i v, F i v → ∃ t, v = .int ((qs.map fun (q : Int × Int) => f q.1 q.2).getD i 0) t) ∧ ∀ s', Moved wr G s5 s' → ∃ H2, GxR.Tabbed P H1 H2 ∧ Inv X pins σ H2 s') → Q' (.ref g) s5) :
    wpAny (model X.prog X.w) X.A (eval (.GeneratorExp elt [⟨.Tuple [.Name xa pa, .Name xb pb] kt pt, iter, [], 0⟩] scope gpos) X.env) Q' X.xe s := by
  refine wpAny_GeneratorExp_walksQT hr.hd S.co (closure_ok S.free) S.cell S.dot S.loc hxb hab S.kind (by have := hr.dp; omega) ?_ hs
  refine thn (hi.run pins s σ H _ I h) fun xv s1 ⟨v, H1, I1, r1, q1⟩ => ?_
  obtain ⟨a, qs, rfl, ⟨vs, hS, hvl, hvp⟩, hbd, ⟨ps, hP, ht⟩, q1⟩ := q1
  cases r1
  obtain ⟨its, rv, ⟨o0, n0, ho0, hc0, _, hd0⟩, hz⟩ := I1.list hS
  have hL : s1.heap.IsList a its.toArray := ⟨o0, ho0, hc0, n0, hd0⟩
  have hlt : a < s1.heap.objs.size := Heap.lt_size ho0
  have hlen : its.toArray.size = qs.length := by rw [List.size_toArray, ← rv.length, hvl]
  have hpair : ∀ j, j < its.toArray.size → ∃ (b : Addr) (t u : Tok) (q : Int × Int), qs[j]? = some q ∧ its.toArray[j]? = some (.ref b) ∧ s1.heap.IsTuple b #[.int q.1 t, .int q.2 u] := fun j hj => by
    have hj' : j < qs.length := by rw [← hlen]; exact hj
    obtain ⟨b, e1, e2⟩ := hvp j _ (List.getElem?_eq_getElem hj')
    obtain ⟨u', hu, ru⟩ := rv.get e1
    obtain rfl : u' = Value.ref b := ru
    obtain ⟨its2, rv2, ⟨o2, ho2, hc2, n2, hd2⟩, _⟩ := I1.tuple e2
    cases rv2 with
    | cons r1 rr =>
      cases rr with
      | cons r2 rn =>
        cases rn
        obtain ⟨t1, rfl⟩ := r1
        obtain ⟨t2, rfl⟩ := r2
        exact ⟨b, t1, t2, qs[j], List.getElem?_eq_getElem hj', by simpa using hu, ⟨o2, ho2, hc2, n2, hd2⟩⟩
  refine wpAny_pyIter_list hL ?_
  have hPs : s1.heap.get? P = some { cls := .none, data := .fields ps } := I1.hok P _ hP
  have hPlt : P < s1.heap.objs.size := Heap.lt_size hPs
  let o : Obj := { cls := .type "list_iterator", data := .fields #[.ref a, .int 0 0] }
  show (s1.heap.push o).NoLimit ∧ _
  have hP2 : (s1.heap.push o).get? P = some { cls := .none, data := .fields ps } := Heap.get?_push_of_some _ hPs
  have cd : PySem.W.CodeHd (s1.heap.push o) c P := TB.code.keeps fun b u e => Heap.get?_push_of_some _ (I1.bk b u e)
  have lim2 : (s1.heap.push o).NoLimit := I1.nolimit.push o
  let Ts : Nat → Addr := fun j => match its.toArray[j]? with | some (.ref b) => b | _ => 0
  have hTs : ∀ j, j < its.toArray.size → its.toArray[j]? = some (.ref (Ts j)) := fun j hj => by
    obtain ⟨b, t, u, q, _, e, _⟩ := hpair j hj
    show _ = some (Value.ref (match its.toArray[j]? with | some (.ref b) => b | _ => 0))
    rw [e]
  have hvals : ∃ vals : Nat → Array Value, ∀ j, j < its.toArray.size → s1.heap.IsTuple (Ts j) (vals j) ∧ ∃ (t u : Tok) (q : Int × Int), qs[j]? = some q ∧ vals j = #[.int q.1 t, .int q.2 u] := by
    have : ∀ j, ∃ va : Array Value, j < its.toArray.size → s1.heap.IsTuple (Ts j) va ∧ ∃ (t u : Tok) (q : Int × Int), qs[j]? = some q ∧ va = #[.int q.1 t, .int q.2 u] := fun j => by
      by_cases hj : j < its.toArray.size
      · obtain ⟨b, t, u, q, e1, e, e2⟩ := hpair j hj
        have eb : Ts j = b := by
          have := hTs j hj
          rw [e] at this
          cases this
          rfl
        exact ⟨_, fun _ => ⟨by rw [eb]; exact e2, t, u, q, e1, rfl⟩⟩
      · exact ⟨#[], fun z => absurd z hj⟩
    exact ⟨fun j => Classical.choose (this j), fun j hj => Classical.choose_spec (this j) hj⟩
  obtain ⟨vals, hvals⟩ := hvals
  have hTlt : ∀ j, j < its.toArray.size → Ts j < s1.heap.objs.size := fun j hj => by
    obtain ⟨⟨o', ho', _⟩, _⟩ := hvals j hj
    exact Heap.lt_size ho'
  have W : ∀ A' : Around, A'.handled = none → WalksU X.prog X.w A' s1.heap.objs.size (s1.heap.objs.size :: a :: (List.range its.toArray.size).map Ts) [s1.heap.objs.size] its.toArray.size (fun j v => j < its.toArray.size ∧ v = vals j) _ _ :=
    fun A' hA => (WalksU.listOfTuples (prog := X.prog) (w := X.w) hA s1.heap.objs.size a (Nat.ne_of_lt hlt) its.toArray Ts vals hTs (fun j hj => Nat.ne_of_lt (hTlt j hj))).bound
  have notP : ∀ b, b ∈ s1.heap.objs.size :: a :: (List.range its.toArray.size).map Ts → b ≠ P := fun b hb z => by
    rcases List.mem_cons.mp hb with z2 | z2
    · exact Nat.ne_of_lt hPlt (z.symm.trans z2)
    · rcases List.mem_cons.mp z2 with z2 | z2
      · rw [← z, z2, ho0] at hPs
        cases hPs
        cases hc0
      · obtain ⟨j, hj, e⟩ := List.mem_map.mp z2
        obtain ⟨⟨o', ho', hc', _⟩, _⟩ := hvals j (List.mem_range.mp hj)
        rw [e, z, hPs] at ho'
        cases ho'
        cases hc'
  have cont : ∀ (code : Value) (h3 : Heap) (tk : Nat) (ps' : Array Value), Heap.ExtBut P (s1.heap.push o) h3 → (s1.heap.push o).objs.size ≤ h3.objs.size → h3.get? P = some { cls := .none, data := .fields ps' } → (∃ more, ps' = ps ++ more) → TriplesOk ps'.toList →
      wpAny (model X.prog X.w) X.A (builtinsFor X.env.globals X.env.builtins) (fun bi s₄ =>
        ∃ Ia fp wr n₀ Pt St₀ Mid pz F, Value.ref s1.heap.objs.size = .ref Ia ∧ (∀ A' : Around, A'.handled = none → WalksU X.prog X.w A' Ia fp wr n₀ Pt St₀ Mid) ∧ (∀ i vals, Pt i vals → ∃ va vb, vals = #[va, vb]) ∧ St₀ 0 s₄.heap ∧ (∀ b ∈ fp, b < s₄.heap.objs.size) ∧ s₄.heap.NoLimit ∧ cStatics ∉ wr ∧
          (∀ href : Heap, (∀ b o, s₄.heap.get? b = some o → href.get? b = some o) →
            QuietGenT X.prog X.w (genEnv scope (cloFrom X.env.cells scope.names []) s₄.heap.objs.size code bi X.env) xa xb [] elt (List.range s₄.heap.objs.size) wr Pt pz F href) ∧
          (∀ a h₅ tk gs, gs.bare = true → s₄.heap.objs.size < a → h₅.objs.size = a + 1 → (∀ b o, s₄.heap.get? b = some o → h₅.get? b = some o) →
            WalksS X.prog X.w X.A.in4 a (a :: s₄.heap.objs.size :: List.range s₄.heap.objs.size) (s₄.heap.objs.size :: wr) (GenOnlyQ s₄.gens.size) (passing pz n₀ 0).length
              (fun j y => ∃ i, (passing pz n₀ 0)[j]? = some i ∧ F i y) (GenAt X.prog X.w X.A.in4 a s₄.gens.size s₄.heap.objs.size (List.range s₄.heap.objs.size) wr pz n₀ F) →
            GenAt X.prog X.w X.A.in4 a s₄.gens.size s₄.heap.objs.size (List.range s₄.heap.objs.size) wr pz n₀ F 0 { s₄ with gens := s₄.gens.push gs, toks := tk, heap := h₅ } →
            Q' (.ref a) { s₄ with gens := s₄.gens.push gs, toks := tk, heap := h₅ })) X.xe { s1 with heap := h3, toks := tk } := by
    intro code h3 tk ps' hx hsz hP3 hmore ht3
    obtain ⟨bm, ob, e1, e2, e3, e4, e5, e6, e7, e8⟩ := TB.bm
    have hcP : cStatics ≠ P := fun e => by
      obtain ⟨_, hns, _⟩ := I1.nolimit
      obtain ⟨o', es, ep, ho, hd, _⟩ := hns
      rw [e, hPs] at ho
      cases ho
      cases hd
    have hcl : cStatics < s1.heap.objs.size := let ⟨_, hns, _⟩ := I1.nolimit; hns.lt
    have sz2 : (s1.heap.push o).objs.size = s1.heap.objs.size + 1 := Heap.size_push ..
    have sz3 : s1.heap.objs.size + 1 ≤ h3.objs.size := by rw [← sz2]; exact hsz
    have keep3 : ∀ b u, b ≠ P → s1.heap.get? b = some u → h3.get? b = some u := fun b u hb e => hx b u hb (Heap.get?_push_of_some _ e)
    have glob3 : h3.Ns X.env.globals X.mg := by rw [I1.ok.glob]; exact ((I1.mod.glob.keeps I1.bk).push o).extBut hx TB.gP
    refine wpAny_builtinsFor (m := X.mg) glob3 e1 e2 (keep3 _ _ e4 (I1.bk _ _ e5)) e6 e7 e8 ?_
    refine ⟨s1.heap.objs.size, _, [s1.heap.objs.size], its.toArray.size, _, _, _, (fun _ => true), (fun i y => ∃ q t, qs[i]? = some q ∧ y = .int (f q.1 q.2) t), rfl, W, ?_, ?_, ?_, lim2.extBut hx hcP, ?_, ?_, ?_⟩
    · rintro i va ⟨hi', rfl⟩
      obtain ⟨_, t, u, q, _, e⟩ := hvals i hi'
      exact ⟨_, _, e⟩
    · have h0 : (s1.heap.push o).IsListIter s1.heap.objs.size a 0 ∧ (s1.heap.push o).IsList a its.toArray ∧ ∀ k, k < its.toArray.size → (s1.heap.push o).IsTuple (Ts k) (vals k) :=
        ⟨⟨_, Heap.get?_push_size _ rfl, rfl, rfl⟩, hL.push _, fun k hk => (hvals k hk).1.push _⟩
      exact (W X.A hr.hd).frame _ _ _ h0 fun b hb u e => hx b u (notP b hb) e
    · intro b hb
      show b < h3.objs.size
      rcases List.mem_cons.mp hb with z | z
      · rw [z]
        exact sz3
      · rcases List.mem_cons.mp z with z | z
        · rw [z]
          exact Nat.lt_trans hlt sz3
        · obtain ⟨j, hj, e⟩ := List.mem_map.mp z
          rw [← e]
          exact Nat.lt_trans (hTlt j (List.mem_range.mp hj)) sz3
    · intro z
      rcases List.mem_cons.mp z with z | z
      · exact Nat.ne_of_lt hcl z
      · cases z
    · intro href hhref
      refine ⟨fun A' E' i va vb s₂ m₂ hA hPv hn hma hmb hk => ?_, fun A' E' i va vb s₂ m₂ hA hPv hp hn hma hmb hk => ?_⟩
      · simp only [List.forIn_nil]
        exact wpAny_pure ⟨rfl, GxR.keeps_refl _⟩
      · obtain ⟨hi', ev⟩ := hPv
        obtain ⟨_, t, u, q, hq, e⟩ := hvals i hi'
        rw [e] at ev
        obtain ⟨rfl, rfl⟩ : va = .int q.1 t ∧ vb = .int q.2 u := by simpa using congrArg Array.toList ev
        exact wpAny_mono (hel _ A' E' q.1 q.2 t u s₂ m₂ rfl hA (hbd q (List.mem_of_getElem? hq)) hn hma hmb) (fun y s3 r => ⟨let ⟨v, hv⟩ := r.1; ⟨q, v, hq, hv⟩, r.2⟩) fun _ _ e => e
    · intro g h5 tk5 gs hgb hag hsz5 hk5 W5 hat
      simp only [GxR.passing_true, List.length_range] at W5
      rw [hlen] at W5 hat
      refine hQ qs H1 g _ q1 ⟨_, _, _, _, _, W5.in4_1, hat, ?_, ?_, fun s' hm => ?_⟩
      · intro b hb
        show b < h5.objs.size
        have hag' : h3.objs.size < g := hag
        rcases List.mem_cons.mp hb with z | z
        · rw [z, hsz5]
          exact Nat.lt_succ_self _
        · rcases List.mem_cons.mp z with z | z
          · rw [z, hsz5]
            exact Nat.lt_succ_of_lt hag'
          · rw [hsz5]
            exact Nat.lt_succ_of_lt (Nat.lt_trans (List.mem_range.mp z) hag')
      · intro j y hy
        obtain ⟨i, hij, q, t, hq, rfl⟩ := hy
        obtain ⟨hj, ej⟩ := List.getElem?_eq_some_iff.mp hij
        rw [List.getElem_range] at ej
        subst ej
        exact ⟨t, by rw [List.getD_eq_getElem?_getD, List.getElem?_map, hq]; rfl⟩
      · obtain ⟨more, em⟩ := hmore
        have nwr : ∀ b u, s1.heap.get? b = some u → b ∉ h3.objs.size :: [s1.heap.objs.size] := fun b u e hb => by
          have hl := Heap.lt_size e
          rcases List.mem_cons.mp hb with z | z
          · rw [z] at hl
            have h9 : (h3.objs.size : Nat) < s1.heap.objs.size := hl
            omega
          · rcases List.mem_cons.mp z with z | z
            · rw [z] at hl
              exact Nat.lt_irrefl _ hl
            · cases z
        have J := GxR.inv_tab (more := more) (h' := s'.heap) (g' := s'.gens) (d' := s'.drawn) (t' := s'.toks) I1 hP (fun b u hb e => hm.heap b u (nwr b u e) (hk5 b u (keep3 b u hb e)))
          (by rw [← em]; exact hm.heap P _ (nwr P _ hPs) (hk5 P _ hP3)) (AllBare.movedS (I1.bare.push hgb) hm)
        rw [GxR.sh_eta s1 s' hm.os] at J
        refine ⟨upd H1 P (.tbl (ps ++ more)), ⟨⟨ps ++ more, upd_same, by rw [← em]; exact ht3⟩, fun b hb => upd_ne hb⟩, J⟩
  refine ⟨lim2, ?_⟩
  cases hf : codeAmong gpos ps.toList with
  | none =>
    refine wpAny_genexprCodeX hcode (cd.code hP2 ht) (cd.tab hP2) hf fun c' h' tk hx hge hlt hco' _ htab' _ => ?_
    obtain ⟨o1, vs, f1, tf, fl, tg, inF, tx, tt, op, _, _, _, _, _, _, _, _, _, htr, _⟩ := hco'
    exact cont _ h' tk _ hx (Nat.le_trans hge (Nat.le_of_lt hlt)) htab'.2 ⟨_, rfl⟩ htr
  | some cv =>
    refine wpAny_genexprCode_hit hcode (cd.code hP2 ht) hf ?_
    exact cont cv (s1.heap.push o) s1.toks ps (Heap.ExtBut.refl _ _) (Nat.le_refl _) hP2 ⟨#[], by simp⟩ ht
/-- sum(elt for a, b in e), e a list of pairs of ints -/
def tSumP (K : PySem.W.Frag) (T : Tb) (P : Addr) (f : Int → Int → Int) (te : TE) : TE := fun σ H Q => te σ H fun v H1 => ∃ (a : Addr) (qs : List (Int × Int)), v = .ref a ∧ Pairs K H1 a qs ∧ (∀ q ∈ qs, -(2 ^ 64) < q.1 ∧ q.1 < 2 ^ 64) ∧ GxR.TabG H1 P ∧
  ((Ok T H1 ∧ ∀ j, j < qs.length → InLong ((qs.map fun (q : Int × Int) => f q.1 q.2).getD j 0) ∧ InLong (((qs.map fun (q : Int × Int) => f q.1 q.2).take (j + 1)).sum)) ∧ ∀ H2, Sm T H1 H2 → Q (.int (qs.map fun (q : Int × Int) => f q.1 q.2).sum) H2)
theorem pe_sumP {T : Tb} {c P : Addr} {elt iter : Expr} {xa xb : Str} {pa pb pt p pos gpos : Pos} {kt : Nat} {scope : Scope} {f : Int → Int → Int} {te : TE} {k : Nat} (hn : (T.map (·.1)).Nodup) (hPT : (P, (none : Option Str)) ∈ T)
    (hr : Room k X.A) (hg : Gl X "sum") (hm : X.mg "sum" = none) (hb : bootBuiltins "sum" = some (.builtin "sum")) (TB : GxR.TabB X.base X.mg c P) (hcode : X.env.code = .ref c) (S : GxR.GenS X.env scope xa) (hxb : scope.names.lookup xb = some .local) (hab : xa ≠ xb) (hi : PE X iter te) (hel : EltP X scope xa xb elt f)
    (hs : ∀ v, genFold iter X.env v = pure v)
    (he : starEach [.GeneratorExp elt [⟨.Tuple [.Name xa pa, .Name xb pb] kt pt, iter, [], 0⟩] scope gpos] X.env = (false, eval (.GeneratorExp elt [⟨.Tuple [.Name xa pa, .Name xb pb] kt pt, iter, [], 0⟩] scope gpos) X.env) :: starEach [] X.env := by rfl) :
    PE X (.Call (.Name "sum" p) [.GeneratorExp elt [⟨.Tuple [.Name xa pa, .Name xb pb] kt pt, iter, [], 0⟩] scope gpos] [] pos) (tSumP X.K T P f te) := by
  refine ⟨fun pins s σ H Q I h => ?_⟩
  refine wpAny_Call_Name_kw (ld_blt I hg hm hb ?_)
  refine PyProof.Rows.callWith_builtin1 ?_ he (by rfl)
  rw [he]
  show wpAny _ _ (spliced ((false, eval (.GeneratorExp elt [⟨.Tuple [.Name xa pa, .Name xb pb] kt pt, iter, [], 0⟩] scope gpos) X.env) :: backTo pos (starEach [] X.env))) _ _ s
  refine Calls.spliced_cons (gen_pairs (R := fun qs H1 => (Ok T H1 ∧ ∀ j, j < qs.length → InLong ((qs.map fun (q : Int × Int) => f q.1 q.2).getD j 0) ∧ InLong (((qs.map fun (q : Int × Int) => f q.1 q.2).take (j + 1)).sum)) ∧ ∀ H2, Sm T H1 H2 → Q (.int (qs.map fun (q : Int × Int) => f q.1 q.2).sum) H2) hr TB hcode S hxb hab hi hel hs I h fun qs H1 g s5 hR hG => ?_)
  obtain ⟨fp, wr, G, F, St, W, hst, hfp, hval, hI⟩ := hG
  refine Calls.spliced_nil ?_
  refine call_sum_walkS (W.self 0 _ _ _ hst ⟨g, fp, wr, G, _, F, St, (fun i => (qs.map fun (q : Int × Int) => f q.1 q.2).getD i 0), rfl, W, hst, hfp, hval, fun j hj => ⟨(hR.1.2 j hj).1, by rw [preSum_getD]; exact (hR.1.2 j hj).2⟩, fun s' t' hmv => ?_⟩)
  obtain ⟨H2, hT, J⟩ := hI s' hmv
  refine ⟨.int _, H2, J, ⟨t', rfl⟩, ?_⟩
  rw [preSum_getD, show qs.length = (qs.map fun (q : Int × Int) => f q.1 q.2).length by rw [List.length_map], List.take_length]
  exact hR.2 H2 (sm_tabbed hn hPT (hR.1.1 _ hPT) hT)
end
def genB (scope : Scope) (x : Str) : Bool := decide (scope.kind = .function) && !scope.isCoroutine && (scope.names.all fun y => !decide (y.2 = .cell) && !decide (y.2 = .free)) && decide (scope.names.lookup (".0" : Str) = some .local) && decide (scope.names.lookup x = some .local)
theorem gens_by {env : Env} {scope : Scope} {x : Str} (h : genB scope x = true) : GxR.GenS env scope x := by
  unfold genB at h
  simp only [Bool.and_eq_true, Bool.not_eq_true', decide_eq_true_eq, decide_eq_false_iff_not, List.all_eq_true] at h
  obtain ⟨⟨⟨⟨h1, h2⟩, h3⟩, h4⟩, h5⟩ := h
  exact ⟨h1, h2, fun y hy => (h3 y hy).1, h4, h5, fun y hy e => absurd e (h3 y hy).2⟩

/-! ### sum over a tuple of pairs -/
theorem walksU_tup {prog : Program} {w : World} {A : Around} (hd0 : A.handled = none) (J tp : Addr) (hJ : tp ≠ J) (its : Array Value) (Ts : Nat → Addr) (vals : Nat → Array Value)
    (ht : ∀ j, j < its.size → its[j]? = some (.ref (Ts j))) (hn : ∀ j, j < its.size → Ts j ≠ J) :
    WalksU prog w A J (J :: tp :: (List.range its.size).map Ts) [J] its.size (fun j v => v = vals j)
      (fun j h => h.IsTupleIter J tp j ∧ h.IsTuple tp its ∧ ∀ n, n < its.size → h.IsTuple (Ts n) (vals n))
      (fun j Tt h => (j < its.size ∧ Tt = Ts j) ∧ h.IsTupleIter J tp (j + 1) ∧ h.IsTuple tp its ∧ ∀ n, n < its.size → h.IsTuple (Ts n) (vals n)) where
  sub := fun d hd => by
    rw [List.mem_singleton.mp hd]
    exact List.mem_cons_self
  frame := fun _ _ _ q hk => by
    refine ⟨q.1.at fun o e => hk J (by simp) o e, q.2.1.at fun o e => hk tp (by simp) o e, fun n hn' => (q.2.2 n hn').at fun o e => hk (Ts n) ?_ o e⟩
    exact List.mem_cons_of_mem _ (List.mem_cons_of_mem _ (List.mem_map.mpr ⟨n, List.mem_range.mpr hn', rfl⟩))
  item := fun i s Q E hi q hQ => by
    refine wpAny_pyNext_tuple_item q.1 q.2.1 (x := .ref (Ts i)) (ht i hi) fun h' q' b => ?_
    have all' : ∀ n, n < its.size → h'.IsTuple (Ts n) (vals n) := fun n hn' => (q.2.2 n hn').extBut b.extBut (hn n hn')
    refine hQ (Ts i) (vals i) h' s.toks rfl (all' i hi) ⟨⟨hi, rfl⟩, q', q.2.1.extBut b.extBut hJ, all'⟩ fun d o hd e => ?_
    exact b.extBut d o (fun z => hd (by simp [z])) e
  go := fun _ _ _ _ _ s Q _ hm hQ => by
    obtain ⟨o, ho, hc, hd⟩ := hm.2.1
    exact go_of ho hc hd (by decide) (hQ s.heap hm.2 fun _ _ _ e => e)
  apart := fun j Tt _ hm hmem => by
    have e := List.mem_singleton.mp hmem
    exact hn j hm.1.1 (hm.1.2 ▸ e)
  done := fun s Q E q hQ => wpAny_pyNext_tuple_end hd0 q.1 q.2.1 (by simp) fun h' b => hQ h' s.toks fun d o hd e => b d o (fun z => hd (by simp [z])) e
  self := fun _ _ _ _ q hQ => wpAny_pyIter_tupleiter q.1 hQ
section
variable {X : Cx} {pins : List (Addr × Obj)} {σ : L2.St} {H : Hp} {s : Shared}
/-- a tuple of pairs of ints -/
def PairsT (K : PySem.W.Frag) (H : Hp) (a : Addr) (ps : List (Int × Int)) : Prop := ∃ vs : List V, SqT K H a vs ∧ vs.length = ps.length ∧ ∀ (i : Nat) (p : Int × Int), ps[i]? = some p → ∃ b, vs[i]? = some (.ref b) ∧ SqT K H b [.int p.1, .int p.2]
theorem PairsT.keep {T : Tb} {K : PySem.W.Frag} {H H' : Hp} {a : Addr} {ps : List (Int × Int)} (h : PairsT K H a ps) (s : Sm T H H') : PairsT K H' a ps := by
  obtain ⟨vs, h1, h2, h3⟩ := h
  refine ⟨vs, same_tup s h1, h2, fun i p e => ?_⟩
  obtain ⟨b, e1, e2⟩ := h3 i p e
  exact ⟨b, e1, same_tup s e2⟩
theorem gen_pairsT {c P : Addr} {elt iter : Expr} {xa xb : Str} {pa pb pt gpos : Pos} {kt : Nat} {scope : Scope} {f : Int → Int → Int} {te : TE} {k : Nat} {Q' : Value → Shared → Prop} {R : List (Int × Int) → Hp → Prop}
    (hr : Room k X.A) (TB : GxR.TabB X.base X.mg c P) (hcode : X.env.code = .ref c) (S : GxR.GenS X.env scope xa) (hxb : scope.names.lookup xb = some .local) (hab : xa ≠ xb) (hi : PE X iter te) (hel : EltP X scope xa xb elt f)
    (hs : ∀ v, genFold iter X.env v = pure v) (I : Inv X pins σ H s) (h : te σ H fun v H1 => ∃ (a : Addr) (qs : List (Int × Int)), v = .ref a ∧ PairsT X.K H1 a qs ∧ (∀ q ∈ qs, -(2 ^ 64) < q.1 ∧ q.1 < 2 ^ 64) ∧ GxR.TabG H1 P ∧ R qs H1)
    (hQ : ∀ qs H1 g s5, R qs H1 → (∃ (fp wr : List Addr) (G : Array GenState → Array GenState → Prop) (F : Nat → Value → Prop) (St : Nat → Shared → Prop),
      WalksS X.prog X.w X.A.in1 g fp wr G qs.length F St ∧ St 0 s5 ∧ (∀ b ∈ fp, b < s5.heap.objs.size) ∧ (∀ i v, F i v → ∃ t, v = .int ((qs.map fun (q : Int × Int) => f q.1 q.2).getD i 0) t) ∧ ∀ s', Moved wr G s5 s' → ∃ H2, GxR.Tabbed P H1 H2 ∧ Inv X pins σ H2 s') → Q' (.ref g) s5) :
    wpAny (model X.prog X.w) X.A (eval (.GeneratorExp elt [⟨.Tuple [.Name xa pa, .Name xb pb] kt pt, iter, [], 0⟩] scope gpos) X.env) Q' X.xe s := by
  refine wpAny_GeneratorExp_walksQT hr.hd S.co (closure_ok S.free) S.cell S.dot S.loc hxb hab S.kind (by have := hr.dp; omega) ?_ hs
  refine thn (hi.run pins s σ H _ I h) fun xv s1 ⟨v, H1, I1, r1, q1⟩ => ?_
  obtain ⟨a, qs, rfl, ⟨vs, hS, hvl, hvp⟩, hbd, ⟨ps, hP, ht⟩, q1⟩ := q1
  cases r1
  obtain ⟨its, rv, ⟨o0, ho0, hc0, n0, hd0⟩, hz⟩ := I1.tuple hS
  have hL : s1.heap.IsTuple a its.toArray := ⟨o0, ho0, hc0, n0, hd0⟩
  have hlt : a < s1.heap.objs.size := Heap.lt_size ho0
  have hlen : its.toArray.size = qs.length := by rw [List.size_toArray, ← rv.length, hvl]
  have hpair : ∀ j, j < its.toArray.size → ∃ (b : Addr) (t u : Tok) (q : Int × Int), qs[j]? = some q ∧ its.toArray[j]? = some (.ref b) ∧ s1.heap.IsTuple b #[.int q.1 t, .int q.2 u] := fun j hj => by
    have hj' : j < qs.length := by rw [← hlen]; exact hj
    obtain ⟨b, e1, e2⟩ := hvp j _ (List.getElem?_eq_getElem hj')
    obtain ⟨u', hu, ru⟩ := rv.get e1
    obtain rfl : u' = Value.ref b := ru
    obtain ⟨its2, rv2, ⟨o2, ho2, hc2, n2, hd2⟩, _⟩ := I1.tuple e2
    cases rv2 with
    | cons r1 rr =>
      cases rr with
      | cons r2 rn =>
        cases rn
        obtain ⟨t1, rfl⟩ := r1
        obtain ⟨t2, rfl⟩ := r2
        exact ⟨b, t1, t2, qs[j], List.getElem?_eq_getElem hj', by simpa using hu, ⟨o2, ho2, hc2, n2, hd2⟩⟩
  refine wpAny_pyIter_tuple hL ?_
  have hPs : s1.heap.get? P = some { cls := .none, data := .fields ps } := I1.hok P _ hP
  have hPlt : P < s1.heap.objs.size := Heap.lt_size hPs
  let o : Obj := { cls := .type "tuple_iterator", data := .fields #[.ref a, .int 0 0] }
  show (s1.heap.push o).NoLimit ∧ _
  have hP2 : (s1.heap.push o).get? P = some { cls := .none, data := .fields ps } := Heap.get?_push_of_some _ hPs
  have cd : PySem.W.CodeHd (s1.heap.push o) c P := TB.code.keeps fun b u e => Heap.get?_push_of_some _ (I1.bk b u e)
  have lim2 : (s1.heap.push o).NoLimit := I1.nolimit.push o
  let Ts : Nat → Addr := fun j => match its.toArray[j]? with | some (.ref b) => b | _ => 0
  have hTs : ∀ j, j < its.toArray.size → its.toArray[j]? = some (.ref (Ts j)) := fun j hj => by
    obtain ⟨b, t, u, q, _, e, _⟩ := hpair j hj
    show _ = some (Value.ref (match its.toArray[j]? with | some (.ref b) => b | _ => 0))
    rw [e]
  have hvals : ∃ vals : Nat → Array Value, ∀ j, j < its.toArray.size → s1.heap.IsTuple (Ts j) (vals j) ∧ ∃ (t u : Tok) (q : Int × Int), qs[j]? = some q ∧ vals j = #[.int q.1 t, .int q.2 u] := by
    have : ∀ j, ∃ va : Array Value, j < its.toArray.size → s1.heap.IsTuple (Ts j) va ∧ ∃ (t u : Tok) (q : Int × Int), qs[j]? = some q ∧ va = #[.int q.1 t, .int q.2 u] := fun j => by
      by_cases hj : j < its.toArray.size
      · obtain ⟨b, t, u, q, e1, e, e2⟩ := hpair j hj
        have eb : Ts j = b := by
          have := hTs j hj
          rw [e] at this
          cases this
          rfl
        exact ⟨_, fun _ => ⟨by rw [eb]; exact e2, t, u, q, e1, rfl⟩⟩
      · exact ⟨#[], fun z => absurd z hj⟩
    exact ⟨fun j => Classical.choose (this j), fun j hj => Classical.choose_spec (this j) hj⟩
  obtain ⟨vals, hvals⟩ := hvals
  have hTlt : ∀ j, j < its.toArray.size → Ts j < s1.heap.objs.size := fun j hj => by
    obtain ⟨⟨o', ho', _⟩, _⟩ := hvals j hj
    exact Heap.lt_size ho'
  have W : ∀ A' : Around, A'.handled = none → WalksU X.prog X.w A' s1.heap.objs.size (s1.heap.objs.size :: a :: (List.range its.toArray.size).map Ts) [s1.heap.objs.size] its.toArray.size (fun j v => j < its.toArray.size ∧ v = vals j) _ _ :=
    fun A' hA => (walksU_tup (prog := X.prog) (w := X.w) hA s1.heap.objs.size a (Nat.ne_of_lt hlt) its.toArray Ts vals hTs (fun j hj => Nat.ne_of_lt (hTlt j hj))).bound
  have notP : ∀ b, b ∈ s1.heap.objs.size :: a :: (List.range its.toArray.size).map Ts → b ≠ P := fun b hb z => by
    rcases List.mem_cons.mp hb with z2 | z2
    · exact Nat.ne_of_lt hPlt (z.symm.trans z2)
    · rcases List.mem_cons.mp z2 with z2 | z2
      · rw [← z, z2, ho0] at hPs
        cases hPs
        cases hc0
      · obtain ⟨j, hj, e⟩ := List.mem_map.mp z2
        obtain ⟨⟨o', ho', hc', _⟩, _⟩ := hvals j (List.mem_range.mp hj)
        rw [e, z, hPs] at ho'
        cases ho'
        cases hc'
  have cont : ∀ (code : Value) (h3 : Heap) (tk : Nat) (ps' : Array Value), Heap.ExtBut P (s1.heap.push o) h3 → (s1.heap.push o).objs.size ≤ h3.objs.size → h3.get? P = some { cls := .none, data := .fields ps' } → (∃ more, ps' = ps ++ more) → TriplesOk ps'.toList →
      wpAny (model X.prog X.w) X.A (builtinsFor X.env.globals X.env.builtins) (fun bi s₄ =>
        ∃ Ia fp wr n₀ Pt St₀ Mid pz F, Value.ref s1.heap.objs.size = .ref Ia ∧ (∀ A' : Around, A'.handled = none → WalksU X.prog X.w A' Ia fp wr n₀ Pt St₀ Mid) ∧ (∀ i vals, Pt i vals → ∃ va vb, vals = #[va, vb]) ∧ St₀ 0 s₄.heap ∧ (∀ b ∈ fp, b < s₄.heap.objs.size) ∧ s₄.heap.NoLimit ∧ cStatics ∉ wr ∧
          (∀ href : Heap, (∀ b o, s₄.heap.get? b = some o → href.get? b = some o) →
            QuietGenT X.prog X.w (genEnv scope (cloFrom X.env.cells scope.names []) s₄.heap.objs.size code bi X.env) xa xb [] elt (List.range s₄.heap.objs.size) wr Pt pz F href) ∧
          (∀ a h₅ tk gs, gs.bare = true → s₄.heap.objs.size < a → h₅.objs.size = a + 1 → (∀ b o, s₄.heap.get? b = some o → h₅.get? b = some o) →
            WalksS X.prog X.w X.A.in4 a (a :: s₄.heap.objs.size :: List.range s₄.heap.objs.size) (s₄.heap.objs.size :: wr) (GenOnlyQ s₄.gens.size) (passing pz n₀ 0).length
              (fun j y => ∃ i, (passing pz n₀ 0)[j]? = some i ∧ F i y) (GenAt X.prog X.w X.A.in4 a s₄.gens.size s₄.heap.objs.size (List.range s₄.heap.objs.size) wr pz n₀ F) →
            GenAt X.prog X.w X.A.in4 a s₄.gens.size s₄.heap.objs.size (List.range s₄.heap.objs.size) wr pz n₀ F 0 { s₄ with gens := s₄.gens.push gs, toks := tk, heap := h₅ } →
            Q' (.ref a) { s₄ with gens := s₄.gens.push gs, toks := tk, heap := h₅ })) X.xe { s1 with heap := h3, toks := tk } := by
    intro code h3 tk ps' hx hsz hP3 hmore ht3
    obtain ⟨bm, ob, e1, e2, e3, e4, e5, e6, e7, e8⟩ := TB.bm
    have hcP : cStatics ≠ P := fun e => by
      obtain ⟨_, hns, _⟩ := I1.nolimit
      obtain ⟨o', es, ep, ho, hd, _⟩ := hns
      rw [e, hPs] at ho
      cases ho
      cases hd
    have hcl : cStatics < s1.heap.objs.size := let ⟨_, hns, _⟩ := I1.nolimit; hns.lt
    have sz2 : (s1.heap.push o).objs.size = s1.heap.objs.size + 1 := Heap.size_push ..
    have sz3 : s1.heap.objs.size + 1 ≤ h3.objs.size := by rw [← sz2]; exact hsz
    have keep3 : ∀ b u, b ≠ P → s1.heap.get? b = some u → h3.get? b = some u := fun b u hb e => hx b u hb (Heap.get?_push_of_some _ e)
    have glob3 : h3.Ns X.env.globals X.mg := by rw [I1.ok.glob]; exact ((I1.mod.glob.keeps I1.bk).push o).extBut hx TB.gP
    refine wpAny_builtinsFor (m := X.mg) glob3 e1 e2 (keep3 _ _ e4 (I1.bk _ _ e5)) e6 e7 e8 ?_
    refine ⟨s1.heap.objs.size, _, [s1.heap.objs.size], its.toArray.size, _, _, _, (fun _ => true), (fun i y => ∃ q t, qs[i]? = some q ∧ y = .int (f q.1 q.2) t), rfl, W, ?_, ?_, ?_, lim2.extBut hx hcP, ?_, ?_, ?_⟩
    · rintro i va ⟨hi', rfl⟩
      obtain ⟨_, t, u, q, _, e⟩ := hvals i hi'
      exact ⟨_, _, e⟩
    · have h0 : (s1.heap.push o).IsTupleIter s1.heap.objs.size a 0 ∧ (s1.heap.push o).IsTuple a its.toArray ∧ ∀ k, k < its.toArray.size → (s1.heap.push o).IsTuple (Ts k) (vals k) :=
        ⟨⟨_, Heap.get?_push_size _ rfl, rfl, rfl⟩, hL.push _, fun k hk => (hvals k hk).1.push _⟩
      exact (W X.A hr.hd).frame _ _ _ h0 fun b hb u e => hx b u (notP b hb) e
    · intro b hb
      show b < h3.objs.size
      rcases List.mem_cons.mp hb with z | z
      · rw [z]
        exact sz3
      · rcases List.mem_cons.mp z with z | z
        · rw [z]
          exact Nat.lt_trans hlt sz3
        · obtain ⟨j, hj, e⟩ := List.mem_map.mp z
          rw [← e]
          exact Nat.lt_trans (hTlt j (List.mem_range.mp hj)) sz3
    · intro z
      rcases List.mem_cons.mp z with z | z
      · exact Nat.ne_of_lt hcl z
      · cases z
    · intro href hhref
      refine ⟨fun A' E' i va vb s₂ m₂ hA hPv hn hma hmb hk => ?_, fun A' E' i va vb s₂ m₂ hA hPv hp hn hma hmb hk => ?_⟩
      · simp only [List.forIn_nil]
        exact wpAny_pure ⟨rfl, GxR.keeps_refl _⟩
      · obtain ⟨hi', ev⟩ := hPv
        obtain ⟨_, t, u, q, hq, e⟩ := hvals i hi'
        rw [e] at ev
        obtain ⟨rfl, rfl⟩ : va = .int q.1 t ∧ vb = .int q.2 u := by simpa using congrArg Array.toList ev
        exact wpAny_mono (hel _ A' E' q.1 q.2 t u s₂ m₂ rfl hA (hbd q (List.mem_of_getElem? hq)) hn hma hmb) (fun y s3 r => ⟨let ⟨v, hv⟩ := r.1; ⟨q, v, hq, hv⟩, r.2⟩) fun _ _ e => e
    · intro g h5 tk5 gs hgb hag hsz5 hk5 W5 hat
      simp only [GxR.passing_true, List.length_range] at W5
      rw [hlen] at W5 hat
      refine hQ qs H1 g _ q1 ⟨_, _, _, _, _, W5.in4_1, hat, ?_, ?_, fun s' hm => ?_⟩
      · intro b hb
        show b < h5.objs.size
        have hag' : h3.objs.size < g := hag
        rcases List.mem_cons.mp hb with z | z
        · rw [z, hsz5]
          exact Nat.lt_succ_self _
        · rcases List.mem_cons.mp z with z | z
          · rw [z, hsz5]
            exact Nat.lt_succ_of_lt hag'
          · rw [hsz5]
            exact Nat.lt_succ_of_lt (Nat.lt_trans (List.mem_range.mp z) hag')
      · intro j y hy
        obtain ⟨i, hij, q, t, hq, rfl⟩ := hy
        obtain ⟨hj, ej⟩ := List.getElem?_eq_some_iff.mp hij
        rw [List.getElem_range] at ej
        subst ej
        exact ⟨t, by rw [List.getD_eq_getElem?_getD, List.getElem?_map, hq]; rfl⟩
      · obtain ⟨more, em⟩ := hmore
        have nwr : ∀ b u, s1.heap.get? b = some u → b ∉ h3.objs.size :: [s1.heap.objs.size] := fun b u e hb => by
          have hl := Heap.lt_size e
          rcases List.mem_cons.mp hb with z | z
          · rw [z] at hl
            have h9 : (h3.objs.size : Nat) < s1.heap.objs.size := hl
            omega
          · rcases List.mem_cons.mp z with z | z
            · rw [z] at hl
              exact Nat.lt_irrefl _ hl
            · cases z
        have J := GxR.inv_tab (more := more) (h' := s'.heap) (g' := s'.gens) (d' := s'.drawn) (t' := s'.toks) I1 hP (fun b u hb e => hm.heap b u (nwr b u e) (hk5 b u (keep3 b u hb e)))
          (by rw [← em]; exact hm.heap P _ (nwr P _ hPs) (hk5 P _ hP3)) (AllBare.movedS (I1.bare.push hgb) hm)
        rw [GxR.sh_eta s1 s' hm.os] at J
        refine ⟨upd H1 P (.tbl (ps ++ more)), ⟨⟨ps ++ more, upd_same, by rw [← em]; exact ht3⟩, fun b hb => upd_ne hb⟩, J⟩
  refine ⟨lim2, ?_⟩
  cases hf : codeAmong gpos ps.toList with
  | none =>
    refine wpAny_genexprCodeX hcode (cd.code hP2 ht) (cd.tab hP2) hf fun c' h' tk hx hge hlt hco' _ htab' _ => ?_
    obtain ⟨o1, vs, f1, tf, fl, tg, inF, tx, tt, op, _, _, _, _, _, _, _, _, _, htr, _⟩ := hco'
    exact cont _ h' tk _ hx (Nat.le_trans hge (Nat.le_of_lt hlt)) htab'.2 ⟨_, rfl⟩ htr
  | some cv =>
    refine wpAny_genexprCode_hit hcode (cd.code hP2 ht) hf ?_
    exact cont cv (s1.heap.push o) s1.toks ps (Heap.ExtBut.refl _ _) (Nat.le_refl _) hP2 ⟨#[], by simp⟩ ht
/-- sum(elt for a, b in e), e a tuple of pairs of ints -/
def tSumPT (K : PySem.W.Frag) (T : Tb) (P : Addr) (f : Int → Int → Int) (te : TE) : TE := fun σ H Q => te σ H fun v H1 => ∃ (a : Addr) (qs : List (Int × Int)), v = .ref a ∧ PairsT K H1 a qs ∧ (∀ q ∈ qs, -(2 ^ 64) < q.1 ∧ q.1 < 2 ^ 64) ∧ GxR.TabG H1 P ∧
  ((Ok T H1 ∧ ∀ j, j < qs.length → InLong ((qs.map fun (q : Int × Int) => f q.1 q.2).getD j 0) ∧ InLong (((qs.map fun (q : Int × Int) => f q.1 q.2).take (j + 1)).sum)) ∧ ∀ H2, Sm T H1 H2 → Q (.int (qs.map fun (q : Int × Int) => f q.1 q.2).sum) H2)
theorem pe_sumPT {T : Tb} {c P : Addr} {elt iter : Expr} {xa xb : Str} {pa pb pt p pos gpos : Pos} {kt : Nat} {scope : Scope} {f : Int → Int → Int} {te : TE} {k : Nat} (hn : (T.map (·.1)).Nodup) (hPT : (P, (none : Option Str)) ∈ T)
    (hr : Room k X.A) (hg : Gl X "sum") (hm : X.mg "sum" = none) (hb : bootBuiltins "sum" = some (.builtin "sum")) (TB : GxR.TabB X.base X.mg c P) (hcode : X.env.code = .ref c) (S : GxR.GenS X.env scope xa) (hxb : scope.names.lookup xb = some .local) (hab : xa ≠ xb) (hi : PE X iter te) (hel : EltP X scope xa xb elt f)
    (hs : ∀ v, genFold iter X.env v = pure v)
    (he : starEach [.GeneratorExp elt [⟨.Tuple [.Name xa pa, .Name xb pb] kt pt, iter, [], 0⟩] scope gpos] X.env = (false, eval (.GeneratorExp elt [⟨.Tuple [.Name xa pa, .Name xb pb] kt pt, iter, [], 0⟩] scope gpos) X.env) :: starEach [] X.env := by rfl) :
    PE X (.Call (.Name "sum" p) [.GeneratorExp elt [⟨.Tuple [.Name xa pa, .Name xb pb] kt pt, iter, [], 0⟩] scope gpos] [] pos) (tSumPT X.K T P f te) := by
  refine ⟨fun pins s σ H Q I h => ?_⟩
  refine wpAny_Call_Name_kw (ld_blt I hg hm hb ?_)
  refine PyProof.Rows.callWith_builtin1 ?_ he (by rfl)
  rw [he]
  show wpAny _ _ (spliced ((false, eval (.GeneratorExp elt [⟨.Tuple [.Name xa pa, .Name xb pb] kt pt, iter, [], 0⟩] scope gpos) X.env) :: backTo pos (starEach [] X.env))) _ _ s
  refine Calls.spliced_cons (gen_pairsT (R := fun qs H1 => (Ok T H1 ∧ ∀ j, j < qs.length → InLong ((qs.map fun (q : Int × Int) => f q.1 q.2).getD j 0) ∧ InLong (((qs.map fun (q : Int × Int) => f q.1 q.2).take (j + 1)).sum)) ∧ ∀ H2, Sm T H1 H2 → Q (.int (qs.map fun (q : Int × Int) => f q.1 q.2).sum) H2) hr TB hcode S hxb hab hi hel hs I h fun qs H1 g s5 hR hG => ?_)
  obtain ⟨fp, wr, G, F, St, W, hst, hfp, hval, hI⟩ := hG
  refine Calls.spliced_nil ?_
  refine call_sum_walkS (W.self 0 _ _ _ hst ⟨g, fp, wr, G, _, F, St, (fun i => (qs.map fun (q : Int × Int) => f q.1 q.2).getD i 0), rfl, W, hst, hfp, hval, fun j hj => ⟨(hR.1.2 j hj).1, by rw [preSum_getD]; exact (hR.1.2 j hj).2⟩, fun s' t' hmv => ?_⟩)
  obtain ⟨H2, hT, J⟩ := hI s' hmv
  refine ⟨.int _, H2, J, ⟨t', rfl⟩, ?_⟩
  rw [preSum_getD, show qs.length = (qs.map fun (q : Int × Int) => f q.1 q.2).length by rw [List.length_map], List.take_length]
  exact hR.2 H2 (sm_tabbed hn hPT (hR.1.1 _ hPT) hT)
end

/-! ### elements of generator expressions, in the model's own words -/
section
variable {X : Cx} {scope : Scope} {xa xb : Str} {p1 p2 p3 : Pos}
theorem ldl {M : Model} {s : Shared} {env : Env} {m : Str → Option Value} {x : Str} {pos : Pos} {v : Value} {Q : Value → Shared → Prop} {A : Around} {E : Value → Shared → Prop} (hk : env.scope.kind = .function) (hl : env.kindOf x = some .local) (hn : s.heap.Ns env.locals m) (hv : m x = some v) (h : Q v s)
    (hd : (x == ("__debug__" : Str)) = false := by decide) : wpAny M A (eval (.Name x pos) env) Q E s := wpAny_Name (wpAny_loadName_local hk hl hn hv h) hd
theorem elt_first (hk : scope.kind = .function) (hl : scope.names.lookup xa = some .local) (hd : (xa == ("__debug__" : Str)) = false := by decide) : EltP X scope xa xb (.Name xa p1) (fun i _ => i) := by
  intro cenv A' E' i j t u s₂ m₂ hs hA hb hn hma hmb
  exact ldl (by rw [hs]; exact hk) (show cenv.scope.names.lookup xa = some .local by rw [hs]; exact hl) hn hma ⟨⟨t, rfl⟩, GxR.keeps_refl _⟩ hd
theorem elt_mul (hk : scope.kind = .function) (hl : scope.names.lookup xa = some .local) (hl2 : scope.names.lookup xb = some .local) (hd : (xa == ("__debug__" : Str)) = false := by decide) (hd2 : (xb == ("__debug__" : Str)) = false := by decide) :
    EltP X scope xa xb (.BinOp (.Name xa p1) .Mult (.Name xb p2) p3) (fun i j => i * j) := by
  intro cenv A' E' i j t u s₂ m₂ hs hA hb hn hma hmb
  refine wpAny_BinOp ?_
  refine ldl (by rw [hs]; exact hk) (show cenv.scope.names.lookup xa = some .local by rw [hs]; exact hl) hn hma ?_ hd
  refine ldl (by rw [hs]; exact hk) (show cenv.scope.names.lookup xb = some .local by rw [hs]; exact hl2) hn hmb ?_ hd2
  exact mul_int ⟨⟨_, rfl⟩, GxR.keeps_tok _ _⟩ (show CMul i j from .inl hb).ok
end
/-- isinstance(x, T) of an int at the name x -/
theorem isi_int {prog : Program} {w : World} {K : PySem.W.Frag} {A : Around} {E : Value → Shared → Prop} {s : Shared} {env : Env} {m mg mb : Str → Option Value} {x T : Str} {Ts : String} {i : Int} {t : Tok} {b : Bool} {q1 q2 q3 q4 : Pos} {Q : Value → Shared → Prop}
    (KX : K.In s.heap) (hk : env.scope.kind = .function) (hl : env.kindOf x = some .local) (hn : s.heap.Ns env.locals m) (hv : m x = some (.int i t)) (hg : s.heap.Ns env.globals mg) (hb : s.heap.Ns env.builtins mb) (hbb : ∀ y : Str, y ≠ "__name__" → mb y = bootBuiltins y)
    (gi : env.kindOf "isinstance" = some .globalImplicit) (gT : env.kindOf T = some .globalImplicit) (mi : mg "isinstance" = none) (mT : mg T = none) (hT : bootBuiltins T = some (.type Ts)) (hTn : T ≠ "__name__") (kt : kitB "int" Ts = some b)
    (h : ∀ tk, Q (.bool b) { s with toks := tk }) (hd : (x == ("__debug__" : Str)) = false) (hdT : (T == ("__debug__" : Str)) = false)
    (he1 : starEach [.Name x q2, .Name T q3] env = (false, eval (.Name x q2) env) :: starEach [.Name T q3] env := by rfl) (he2 : starEach [.Name T q3] env = [(false, eval (.Name T q3) env)] := by rfl) :
    wpAny (model prog w) A (eval (.Call (.Name "isinstance" q1) [.Name x q2, .Name T q3] [] q4) env) Q E s := by
  refine wpAny_Call_Name_kw (Calls.Name_function_global hk gi (Calls.loadGlobal_builtin hg mi hb ((hbb "isinstance" (by decide)).trans (by decide +kernel : bootBuiltins "isinstance" = some (.builtin "isinstance"))) ?_))
  refine PyProof.Rows.callWith_builtin1 ?_ he1 (by rw [he2]; rfl)
  rw [he1, he2]
  show wpAny _ _ (spliced ((false, eval (.Name x q2) env) :: (false, eval (.Name T q3) env) :: [])) _ _ s
  refine Calls.spliced_cons (ldl hk hl hn hv (Calls.spliced_cons (Calls.Name_function_global hk gT (Calls.loadGlobal_builtin hg mT hb ((hbb T hTn).trans hT) (Calls.spliced_nil ?_)) hdT)) hd)
  exact PySem.W.kia_one PySem.W.kitx_int KX True.intro (kit_ty kt) (fun z => nomatch z) h
/-- the text of is_number -/
def numBody (n0 n1 n2 n3 n4 n5 n6 n7 n8 n9 n10 : Pos) : List Stmt := [.Return (some (.BoolOp .And [.Call (.Name "isinstance" n0) [.Name "thing" n1, .Name "int" n2] [] n3, .UnaryOp .Not (.Call (.Name "isinstance" n4) [.Name "thing" n5, .Name "bool" n6] [] n7) n8] n9)) n10]
def numArgs (p : Pos) : Arguments := { posonlyargs := [], args := [{ arg := "thing", annotation := none, pos := p }], vararg := none, kwonlyargs := [], kw_defaults := [], kwarg := none, defaults := [] }
def numScope : Scope := { kind := .function, names := [(PySem.Str.ofString "thing", .local), (PySem.Str.ofString "isinstance", .globalImplicit), (PySem.Str.ofString "int", .globalImplicit), (PySem.Str.ofString "bool", .globalImplicit)], isGenerator := false, isCoroutine := false, more := [] }
/-- what of is_number's text the walk needs -/
def NumAt (K : PySem.W.Frag) (f : Addr) : Prop := ∃ (oc : Value) (od : Option Addr) (kV doc pm : Value) (an : Option Addr) (cdv ct : Value) (osl : Array (Option Value)) (p n0 n1 n2 n3 n4 n5 n6 n7 n8 n9 n10 : Pos),
  K.lookup f = some ⟨oc, od, .func (PySem.W.fnOf "is_number" "is_number" (numArgs p) (numBody n0 n1 n2 n3 n4 n5 n6 n7 n8 n9 n10) numScope .none kV doc pm an cdv ct), osl⟩ ∧ PySem.W.codeIn K cdv "is_number" = true
theorem num_call {prog : Program} {w : World} {K : PySem.W.Frag} {mg mb : Str → Option Value} {A : Around} {E : Value → Shared → Prop} {s : Shared} {f : Addr} {i : Int} {t : Tok} {Q : Value → Shared → Prop} (N : NumAt K f) (KX : K.In s.heap) (hlim : s.heap.NoLimit) (hg : s.heap.Ns mainGlobals mg)
    (hb : s.heap.Ns builtinsNs mb) (hbb : ∀ y : Str, y ≠ "__name__" → mb y = bootBuiltins y) (mi : mg "isinstance" = none) (m1 : mg "int" = none) (m2 : mg "bool" = none) (hroom : A.depth < recursionLimit) (hq : ∀ s', Keeps s s' → Q (.bool true) s') :
    wpAny (model prog w) A (call (.ref f) [.int i t]) Q E s := by
  obtain ⟨oc, od, kV, doc, pm, an, cdv, ct, osl, p, n0, n1, n2, n3, n4, n5, n6, n7, n8, n9, n10, lk, hcd⟩ := N
  refine wpAny_call ?_
  refine Att.call_fn (binds := [("thing", .int i t)]) KX hlim lk hcd hroom (BindsTo.of_eq (by first | rfl | with_unfolding_all rfl)) (by first | rfl | decide | with_unfolding_all rfl) (fun s₁ IC => ?_) rfl rfl rfl
  obtain ⟨h₁, tk₁, rfl⟩ := IC.toInCall.same
  have kp : ∀ b o, s.heap.get? b = some o → h₁.get? b = some o := IC.toInCall.keep
  have hn := IC.toInCall.ns
  show wpAny _ _ (execs _ _) _ _ _
  refine wpAny_execs_cons (wpAny_Return_some ?_)
  refine BoolOp_and ?_
  refine isi_int (mg := mg) (mb := mb) (b := true) (KX.keeps kp) rfl rfl hn (by first | rfl | with_unfolding_all rfl | kernel_rfl) (hg.keeps kp) (hb.keeps kp) hbb rfl rfl mi m1 (by decide +kernel : bootBuiltins "int" = some (.type "int")) (by decide) kb_int_int (fun tk => ?_) (by decide) (by decide)
  refine wpAny_truthy_bool ?_
  show wpAny _ _ (eval (.BoolOp .And [.UnaryOp .Not (.Call (.Name "isinstance" n4) [.Name "thing" n5, .Name "bool" n6] [] n7) n8] n9) _) _ _ _
  refine BoolOp_one (UnaryOp_ ?_)
  refine isi_int (mg := mg) (mb := mb) (b := false) (KX.keeps kp) rfl rfl hn (by first | rfl | with_unfolding_all rfl | kernel_rfl) (hg.keeps kp) (hb.keeps kp) hbb rfl rfl mi m2 (by decide +kernel : bootBuiltins "bool" = some (.type "bool")) (by decide) kb_int_bool (fun tk => ?_) (by decide) (by decide)
  refine not_of (wpAny_truthy_bool ?_)
  exact hq _ ⟨h₁, tk, rfl, kp⟩
/-- the text of is_within -/
def withBody (n0 n1 n2 n3 n4 n5 n6 n7 n8 : Pos) : List Stmt := [.Return (some (.BoolOp .And [.Call (.Name "is_number" n0) [.Name "thing" n1] [] n2, .Compare (.Name "least" n3) [.LtE, .LtE] [.Name "thing" n4, .Name "most" n5] n6] n7)) n8]
def withArgs (p1 p2 p3 : Pos) : Arguments := { posonlyargs := [], args := [{ arg := "thing", annotation := none, pos := p1 }, { arg := "least", annotation := none, pos := p2 }, { arg := "most", annotation := none, pos := p3 }], vararg := none, kwonlyargs := [], kw_defaults := [], kwarg := none, defaults := [] }
def withScope : Scope := { kind := .function, names := [(PySem.Str.ofString "thing", .local), (PySem.Str.ofString "least", .local), (PySem.Str.ofString "most", .local), (PySem.Str.ofString "is_number", .globalImplicit)], isGenerator := false, isCoroutine := false, more := [] }
def WithAt (K : PySem.W.Frag) (f : Addr) : Prop := ∃ (oc : Value) (od : Option Addr) (kV doc pm : Value) (an : Option Addr) (cdv ct : Value) (osl : Array (Option Value)) (p1 p2 p3 n0 n1 n2 n3 n4 n5 n6 n7 n8 : Pos),
  K.lookup f = some ⟨oc, od, .func (PySem.W.fnOf "is_within" "is_within" (withArgs p1 p2 p3) (withBody n0 n1 n2 n3 n4 n5 n6 n7 n8) withScope .none kV doc pm an cdv ct), osl⟩ ∧ PySem.W.codeIn K cdv "is_within" = true
theorem with_call {prog : Program} {w : World} {K : PySem.W.Frag} {mg mb : Str → Option Value} {A : Around} {E : Value → Shared → Prop} {s : Shared} {f fn : Addr} {i l n : Int} {t tl tn : Tok} {Q : Value → Shared → Prop} (Wt : WithAt K f) (N : NumAt K fn) (kN : PySem.W.keepIn K (.ref fn) = true) (gN : mg "is_number" = some (.ref fn)) (KX : K.In s.heap) (hlim : s.heap.NoLimit) (hg : s.heap.Ns mainGlobals mg)
    (hb : s.heap.Ns builtinsNs mb) (hbb : ∀ y : Str, y ≠ "__name__" → mb y = bootBuiltins y) (mi : mg "isinstance" = none) (m1 : mg "int" = none) (m2 : mg "bool" = none) (hroom : A.depth + 1 < recursionLimit) (hq : ∀ s', Keeps s s' → Q (.bool (decide (l ≤ i) && decide (i ≤ n))) s') :
    wpAny (model prog w) A (call (.ref f) [.int i t, .int l tl, .int n tn]) Q E s := by
  obtain ⟨oc, od, kV, doc, pm, an, cdv, ct, osl, p1, p2, p3, n0, n1, n2, n3, n4, n5, n6, n7, n8, lk, hcd⟩ := Wt
  refine wpAny_call ?_
  refine Att.call_fn (binds := [("thing", .int i t), ("least", .int l tl), ("most", .int n tn)]) KX hlim lk hcd (by omega) (BindsTo.of_eq (by first | rfl | with_unfolding_all rfl)) (by first | rfl | decide | with_unfolding_all rfl) (fun s₁ IC => ?_) rfl rfl rfl
  obtain ⟨h₁, tk₁, rfl⟩ := IC.toInCall.same
  have kp : ∀ b o, s.heap.get? b = some o → h₁.get? b = some o := IC.toInCall.keep
  have hn := IC.toInCall.ns
  have hlim1 : h₁.NoLimit := hlim.keeps kp
  have hg1 := hg.keeps kp
  show wpAny _ _ (execs _ _) _ _ _
  refine wpAny_execs_cons (wpAny_Return_some ?_)
  refine BoolOp_and ?_
  refine wpAny_Call_Name_kw (Calls.Name_function_global rfl rfl (Calls.loadGlobal_global hg1 gN ?_))
  refine PySem.W.callWith_K (h₀ := h₁) (KX.keeps kp) kN ?_ (by rfl) (by rfl)
  show wpAny _ _ (spliced ((false, eval (.Name "thing" n1) _) :: [])) _ _ _
  refine Calls.spliced_cons (ldl (v := .int i t) rfl rfl hn (by first | rfl | with_unfolding_all rfl | kernel_rfl) (Calls.spliced_nil ⟨KX.keeps kp, ?_⟩) (by decide))
  refine num_call N (KX.keeps kp) hlim1 hg1 (hb.keeps kp) hbb mi m1 m2 (by show A.depth + 1 < _; omega) (fun s' hks => ?_)
  obtain ⟨h', tk', rfl, hkp⟩ := hks
  refine wpAny_truthy_bool ?_
  show wpAny _ _ (eval (.BoolOp .And [.Compare (.Name "least" n3) [.LtE, .LtE] [.Name "thing" n4, .Name "most" n5] n6] n7) _) _ _ _
  refine BoolOp_one ?_
  have kp2 : ∀ b o, s.heap.get? b = some o → h'.get? b = some o := fun b o e => hkp b o (kp b o e)
  refine Compare_chain (ldl (v := .int l tl) rfl rfl (hn.keeps hkp) (by first | rfl | with_unfolding_all rfl | kernel_rfl) (chain_link (ldl (v := .int i t) rfl rfl (hn.keeps hkp) (by first | rfl | with_unfolding_all rfl | kernel_rfl) (le_int (wpAny_truthy_bool ?_)) (by decide))) (by decide)) (by with_unfolding_all rfl)
  by_cases h1 : l ≤ i
  · rw [if_pos (decide_eq_true h1)]
    refine chain_last (ldl (v := .int n tn) rfl rfl (hn.keeps hkp) (by first | rfl | with_unfolding_all rfl | kernel_rfl) ?_ (by decide))
    refine le_int ?_
    have := hq ⟨h', s.gens, s.drawn, tk', s.os⟩ ⟨h', tk', rfl, kp2⟩
    rw [decide_eq_true h1, Bool.true_and] at this
    exact this
  · rw [if_neg (fun z => h1 (of_decide_eq_true z))]
    have := hq ⟨h', s.gens, s.drawn, tk', s.os⟩ ⟨h', tk', rfl, kp2⟩
    rw [decide_eq_false h1, Bool.false_and] at this
    show _
    rw [decide_eq_false h1]
    exact this
/-- is_within(x, 1, MOST) -/
theorem elt_num {X : Cx} {scope : Scope} {x M : Str} {f fn : Addr} {n : Int} {tn : Tok} {q0 q1 q2 q3 q4 : Pos} {k : Nat} (hr : Room k X.A) (Wt : WithAt X.K f) (kW : PySem.W.keepIn X.K (.ref f) = true) (gW : X.mg "is_within" = some (.ref f)) (N : NumAt X.K fn) (kp : PySem.W.keepIn X.K (.ref fn) = true) (gf : X.mg "is_number" = some (.ref fn)) (gM : X.mg M = some (.int n tn)) (hglob : X.env.globals = mainGlobals)
    (mi : X.mg "isinstance" = none) (m1 : X.mg "int" = none) (m2 : X.mg "bool" = none) (hk : scope.kind = .function) (hl : scope.names.lookup x = some .local) (hf : scope.names.lookup ("is_within" : Str) = some .globalImplicit) (hM : scope.names.lookup M = some .globalImplicit)
    (hd : (x == ("__debug__" : Str)) = false := by decide) (hdM : (M == ("__debug__" : Str)) = false := by decide) :
    EltI X scope x (.Call (.Name "is_within" q0) [.Name x q1, .Constant (.int 1) 0 q2, .Name M q3] [] q4) (fun i y => y = .bool (decide (1 ≤ i) && decide (i ≤ n))) := by
  intro cenv A' E' i t s₂ m₂ hs hG hB hA hD hU KX hlim hg hbl hn hm
  obtain ⟨mb, hb, hbb⟩ := hbl
  have hk' : cenv.scope.kind = .function := by rw [hs]; exact hk
  have hl' : cenv.kindOf x = some .local := show cenv.scope.names.lookup x = some .local by rw [hs]; exact hl
  have hf' : cenv.kindOf "is_within" = some .globalImplicit := show cenv.scope.names.lookup ("is_within" : Str) = _ by rw [hs]; exact hf
  have hM' : cenv.kindOf M = some .globalImplicit := show cenv.scope.names.lookup M = _ by rw [hs]; exact hM
  have hg' : s₂.heap.Ns cenv.globals X.mg := by rw [hG, hglob]; exact hg
  refine wpAny_Call_Name_kw (Calls.Name_function_global hk' hf' (Calls.loadGlobal_global hg' gW ?_))
  refine PySem.W.callWith_K (h₀ := s₂.heap) KX kW ?_ (by rfl) (by rfl)
  show wpAny _ _ (spliced ((false, eval (.Name x q1) cenv) :: (false, eval (.Constant (.int 1) 0 q2) cenv) :: (false, eval (.Name M q3) cenv) :: [])) _ _ s₂
  refine Calls.spliced_cons (ldl hk' hl' hn hm (Calls.spliced_cons (wpAny_Constant_int (Calls.spliced_cons (Calls.Name_function_global hk' hM' (Calls.loadGlobal_global hg' gM (Calls.spliced_nil ⟨KX, ?_⟩)) hdM)))) hd)
  exact with_call Wt N kp gf KX hlim hg hb hbb mi m1 m2 (by have := hr.dp; omega) (fun s' hks => ⟨rfl, hks⟩)

/-! ### x(lambda: body), the tables kept -/
theorem sm_lam {T : Tb} {H H' : Hp} {P : Addr} {q : Str} (hn : (T.map (·.1)).Nodup) (hP : (P, some q) ∈ T) (ht : LamX.TabS H P q) (h1 : LamX.TabS H' P q) (h2 : ∀ b o, b ≠ P → H b = some o → H' b = some o) : Sm T H H' := by
  obtain ⟨ps, e, _⟩ := ht
  have ne : ∀ b o, H b = some o → nTbl o → b ≠ P := fun b o q n z => by
    rw [z, e] at q
    cases q
    exact n
  refine ⟨fun b o q n => h2 b o (ne b o q n) q, fun k p hp => ?_, fun l hl => ?_⟩
  · by_cases hb : p.1 = P
    · have ep : p = (P, some q) := by
        obtain ⟨i, hi, e1⟩ := List.getElem_of_mem hp
        obtain ⟨j, hj, e2⟩ := List.getElem_of_mem hP
        have hij : i = j := by
          have a1 : (T.map (·.1))[i]? = some P := by rw [List.getElem?_map, List.getElem?_eq_getElem hi, e1]; exact congrArg some hb
          have a2 : (T.map (·.1))[j]? = some P := by rw [List.getElem?_map, List.getElem?_eq_getElem hj, e2]; rfl
          exact nd_ix hn a1 a2
        subst hij
        rw [← e1, e2]
      rw [ep]
      exact h1
    · have z := k p hp
      obtain ⟨P', w⟩ := p
      have hb : P' ≠ P := hb
      cases w with
      | none =>
        obtain ⟨ps', a1, a2⟩ := (show GxR.TabG H P' from z)
        exact ⟨ps', h2 _ _ hb a1, a2⟩
      | some w =>
        obtain ⟨ps', a1, a2, a3⟩ := (show LamX.TabS H P' w from z)
        refine ⟨ps', h2 _ _ hb a1, a2, fun pos cv hc => ?_⟩
        obtain ⟨c, e1, e2⟩ := a3 pos cv hc
        exact ⟨c, e1, h2 c _ (ne c _ e2 (by unfold LamX.CodeO; trivial)) e2⟩
  · by_cases z : l = P
    · obtain ⟨ps', a1, _⟩ := h1
      rw [z, a1] at hl
      cases hl
    · cases q' : H l with
      | none => rfl
      | some o =>
        rw [h2 l o z q'] at hl
        cases hl
section
variable {X : Cx} {pins : List (Addr × Obj)} {σ : L2.St} {H : Hp} {s : Shared}
/-- the lambda is made: its code object is new, or found in the table; all else stays -/
theorem lam_make3 {c P : Addr} {params : Arguments} {body : Expr} {scope : Scope} {pos : Pos} {E : Value → Shared → Prop} {Q : Value → Shared → Prop} (I : Inv X pins σ H s) (TB : LamX.TabB X.base X.mg c P) (hcode : X.env.code = .ref c)
    (hT : LamX.TabS H P (X.env.qual ++ "<lambda>")) (hdef : defaultsOf params X.env = ([], [])) (hfree : ∀ y ∈ scope.names, y.2 = .free → ∃ c, X.env.cells.lookup y.1 = some c)
    (h : ∀ (f c' : Addr) (pm ctv : Value) (H1 : Hp) (s' : Shared), Inv X pins σ H1 s' → (∀ b o, b ≠ P → H b = some o → H1 b = some o) → LamX.TabS H1 P (X.env.qual ++ "<lambda>") →
      s'.heap.get? f = some (PySem.W.kla_obj "<lambda>" (X.env.qual ++ "<lambda>") params body scope (cloFrom X.env.cells scope.names []) pm c' ctv) → H1 f = none → f ∉ frs X.stack → H1 c' = some (LamX.CodeO c' (X.env.qual ++ "<lambda>")) → Q (.ref f) s') :
    wpAny (model X.prog X.w) X.A (eval (.Lambda params body scope pos) X.env) Q E s := by
  obtain ⟨ps, hP, ht, ha⟩ := hT
  refine PySem.W.kla_eval hdef ?_
  have bP : s.heap.BuiltinsAt X.mg P := TB.bm.keeps I.bk
  have hP' : s.heap.get? P = some { cls := .none, data := .fields ps } := I.hok P _ hP
  have nofr : ∀ f, s.heap.objs.size ≤ f → f ∉ frs X.stack := fun f hf z => by
    rcases List.mem_cons.mp (I.stkSub _ z) with e | e
    · have h1 := I.lt
      rw [← e] at h1
      exact Nat.lt_irrefl _ (Nat.lt_of_lt_of_le h1 hf)
    · exact I.nofs hf e
  cases hc : codeAmong pos ps.toList with
  | none =>
    refine PySem.W.kla_makeFunction (mg := X.mg) (c := c) (P := P) (ps := ps) (closure_ok hfree) I.ok.glob (I.mod.glob.keeps I.bk) hcode (TB.code.keeps I.bk) hP' ht hc TB.gP bP fun c' ctv h' tk hx hge hlt hrec htb => ?_
    obtain ⟨c2, oc, vs, t, e2, hoc, hd, hv⟩ := hrec
    cases e2
    have hsz : s.heap.objs.size ≤ h'.objs.size := Nat.le_trans hge (Nat.le_of_lt hlt)
    have nC : H c' = none := I.hok.fresh hge
    have I1 := LamX.inv_table (t' := tk) (more := #[rawInt pos.line, rawInt pos.col, .ref c']) (h' := h'.push (PySem.W.kla_obj "<lambda>" (X.env.qual ++ "<lambda>") params body scope (cloFrom X.env.cells scope.names []) ((X.mg "__name__").getD .none) c' ctv)) I hP
      (fun b o hb e => Heap.get?_push_of_some _ (hx b o hb e)) (Heap.get?_push_of_some _ htb) hge ⟨oc, vs, t, Heap.get?_push_of_some _ hoc, hd, hv⟩
    have hE : ∀ b o, b ≠ P → H b = some o → upd (upd H P (.tbl (ps ++ #[rawInt pos.line, rawInt pos.col, .ref c']))) c' (LamX.CodeO c' (X.env.qual ++ "<lambda>")) b = some o := fun b o hb e => by
      rw [upd_ne (ne_of_none e nC), upd_ne hb]
      exact e
    have eL : (ps ++ #[rawInt pos.line, rawInt pos.col, .ref c']).toList = ps.toList ++ [rawInt pos.line, rawInt pos.col, .ref c'] := by simp
    refine h h'.objs.size c' ((X.mg "__name__").getD .none) ctv _ _ I1 hE ?_ (Heap.get?_push_size _ rfl) ?_ (nofr _ hsz) upd_same
    · refine ⟨_, by rw [upd_ne (ne_of_none hP nC), upd_same], by rw [eL]; exact PySem.TriplesOk_snoc _ _ _ _ ht, fun p' cv hcv => ?_⟩
      rw [eL] at hcv
      rcases LamX.among_app _ ht hcv with z | z
      · obtain ⟨c0, e1, e2⟩ := ha p' cv z
        refine ⟨c0, e1, hE _ _ (fun z => ?_) e2⟩
        rw [z, hP] at e2
        unfold LamX.CodeO at e2
        cases e2
      · exact ⟨c', z, upd_same⟩
    · have n1 : h'.objs.size ≠ c' := Nat.ne_of_gt hlt
      have n2 : h'.objs.size ≠ P := Nat.ne_of_gt (Nat.lt_of_lt_of_le (Heap.lt_size hP') hsz)
      rw [upd_ne n1, upd_ne n2]
      exact I.hok.fresh hsz
  | some cv =>
    obtain ⟨c', e, hco⟩ := ha pos cv hc
    subst e
    refine PySem.W.kla_makeFunctionHit (mg := X.mg) (c := c) (P := P) (ps := ps) (closure_ok hfree) I.ok.glob (I.mod.glob.keeps I.bk) hcode (TB.code.keeps I.bk) hP' ht hc bP fun ctv h' tk hx hsz => ?_
    have I1 : Inv X pins σ H { s with heap := h'.push (PySem.W.kla_obj "<lambda>" (X.env.qual ++ "<lambda>") params body scope (cloFrom X.env.cells scope.names []) ((X.mg "__name__").getD .none) c' ctv), toks := tk } := I.kept fun b o e => Heap.get?_push_of_some _ (hx b o e)
    exact h h'.objs.size c' ((X.mg "__name__").getD .none) ctv H _ I1 (fun _ _ _ e => e) ⟨ps, hP, ht, ha⟩ (Heap.get?_push_size _ rfl) (I.hok.fresh hsz) (nofr _ hsz) hco
/-- the def that is given the lambda: as LamX.GivesTo -/
def tLm (T : Tb) (P : Addr) (q : Str) (TT : (XK → Hp → VK → Prop) → Hp → VK → Prop) (t : XK → TE) : TE := fun σ H Q => LamX.TabS H P q ∧ ∀ H1, Sm T H H1 → TT (fun E H' Q' => t E σ H' Q') H1 Q
theorem pe_lam {T : Tb} {TT : (XK → Hp → VK → Prop) → Hp → VK → Prop} {x a : Str} {g c P : Addr} {k : Nat} {pg : Arguments} {bg : List Stmt} {sg : Scope} {dV kV doc pm cdv ct oc : Value} {an od : Option Addr} {osl : Array (Option Value)} {Ng : List Str}
    {params : Arguments} {body : Expr} {scope : Scope} {t : XK → TE} {p lpos pos : Pos} (hn : (T.map (·.1)).Nodup) (hg : Gl X x) (hm : X.mg x = some (.ref g)) (hk : PySem.W.keepIn X.K (.ref g) = true)
    (lk : X.K.lookup g = some ⟨oc, od, .func (PySem.W.fnOf x x pg bg sg dV kV doc pm an cdv ct), osl⟩) (hcg : PySem.W.codeIn X.K cdv x = true) (hb : L2.Binds X.K (PySem.W.fnOf x x pg bg sg dV kV doc pm an cdv ct) [a] []) (Sg : FnScope Ng [a] sg) (hNg : Ng[0]? = some a) (hva : Vis sg a)
    (hG : LamX.GivesTo X Ng x sg g cdv bg a (X.env.qual ++ "<lambda>") TT)
    (TB : LamX.TabB X.base X.mg c P) (hcode : X.env.code = .ref c) (hmT : (P, some (X.env.qual ++ "<lambda>")) ∈ T) (hr : Room (k + 2) X.A) (L : LamX.LamS X.env.scope scope) (hdef : defaultsOf params X.env = ([], []))
    (hbind : ∀ (q : Str) (cl : List (Str × Addr)) (pm cv ctv : Value), bindArgs (PySem.W.kla_fn "<lambda>" q params body scope cl pm cv ctv) ⟨[], []⟩ = pure [])
    (hbody : ∀ (A : Around) (outer : List Env) (s : Shared) (H : Hp) (E : XK) (f c' : Addr), Room k (A.deeper (LamX.lamEnv X scope s.heap.objs.size f c')) → PE (LamX.lamCx X A outer s H E scope f c') body (t E))
    (hdb : (x == ("__debug__" : Str)) = false := by decide) (hd : (a == ("__debug__" : Str)) = false := by decide) (hcd : (a == ("__classdict__" : Str)) = false := by decide) :
    PE X (.Call (.Name x p) [.Lambda params body scope lpos] [] pos) (tLm T P (X.env.qual ++ "<lambda>") TT t) := by
  refine ⟨fun pins s σ H Q I h => ?_⟩
  obtain ⟨hT, h⟩ := h
  refine wpAny_Call_Name_kw (ld_glob I hg hm ?_ hdb)
  refine PySem.W.callWith_K (h₀ := X.base) I.ok.mod.kin hk ?_ (by rfl) (by rfl)
  show wpAny _ _ (spliced ((false, eval (.Lambda params body scope lpos) X.env) :: backTo pos (starEach [] X.env))) _ _ s
  refine Calls.spliced_cons (lam_make3 I TB hcode hT hdef (L.has I.ok) fun f c' pm' ctv H1 s' I1 eN T1 hf hfn hfr hco => ?_)
  refine Calls.spliced_nil ⟨I1.kIn, ?_⟩
  have rc : codeAny (model X.prog X.w) X.A (.call (.ref g) ⟨[.ref f], []⟩) (CR C8.CX0 X.stack X.prog X.w H1 s' Q C8.E0) s' := by
    refine LamX.run_ofS (N := Ng) (ps := [a]) (us := [.ref f]) (vs := [.ref f]) lk hcg Sg hr I1.env0 (hb s' [.ref f] I1.kIn rfl) (.cons rfl .nil) rfl fun hr' => ?_
    obtain ⟨t', ht', hq'⟩ := hG f c' s' H1 Q (fun E H' Q' => t E σ H' Q') (fun W pn xe E p1 p2 tk hW => LamX.pe_act (i := 0) I1 L hf hfn hfr (hbind _ _ _ _ _) tk hW hr' (fun A outer s H hr2 => hbody A outer s H E f c' hr2) hNg hva hd hcd) hco (h H1 (sm_lam hn hmT hT T1 eN))
    exact ⟨t', ht'.nox, hq'⟩
  refine wpAny_call (codeAny_mono rc fun r s2 hq => ?_)
  cases r with
  | error e => exact (show False from hq).elim
  | ok fl =>
    cases fl with
    | ret u => exact I1.after hq
    | next => exact False.elim hq
    | brk => exact False.elim hq
    | cont => exact False.elim hq
/-- word(asked): try: return ("told", asked()) / except PailError as e: return (e.word,) -/
def TTw (K : PySem.W.Frag) (CP : Addr) : (XK → Hp → VK → Prop) → Hp → VK → Prop := fun tl H Q =>
  tl (fun cls d H' => ∃ word, Rf K CP word cls d H' ∧ ∀ p, H' p = none → Q (.ref p) (upd H' p (.tup [.str word]))) H (fun v H' => ([V.str "told", v] : List V).length ≤ sizeLine ∧ ∀ p, H' p = none → Q (.ref p) (upd H' p (.tup [.str "told", v])))
theorem word_gives {x a e n q : Str} {sg : Scope} {g CP : Addr} {cdg : Value} {Ng : List Str} {i j0 j1 j2 : Nat} {p1 p2 p3 p4 p5 p6 p7 p8 p9 q1 q2 q3 : Pos} (hnd : Ng.Nodup) (hi : Ng[i]? = some n) (hln : sg.names.lookup n = some .local) (hge : sg.names.lookup e = some .globalImplicit) (hme : X.mg e = some (.ref CP)) (hde : (e == ("__debug__" : Str)) = false)
    (hdn : (n == ("__debug__" : Str)) = false) (hcn : (n == ("__classdict__" : Str)) = false) (hlen : ∀ f : Addr, (L2.start Ng [V.ref f])[0]? = some (some (V.ref f))) :
    LamX.GivesTo X Ng x sg g cdg [.Try [.Return (some (.Tuple [.Constant (.str "told") j0 p1, .Call (.Name a p2) [] [] p3] j1 p4)) p5] [.ExceptHandler (some (.Name e p6)) (some n) [.Return (some (.Tuple [.Attribute (.Name n q1) "word" q2] j2 q3)) p7] p8] [] [] p9] a q (TTw X.K CP) := by
  intro f c' s H Q tl act hc h
  have hgl : Gl (cxOf C8.CX0 X.prog X.w X.K X.mg X.base Ng x sg g cdg X.A X.stack s H C8.E0).nox e := hge
  refine ⟨_, pss_one (ps_try_as (X := (cxOf C8.CX0 X.prog X.w X.K X.mg X.base Ng x sg g cdg X.A X.stack s H C8.E0).nox) (i := i) (c := .ref CP)
      (tb := fun W D σ H => ∃ Ech : XK, (∀ cls d (σ' : L2.St) H', Ech cls d H' → σ'.length = Ng.length → W cls d σ' H') ∧ σ[0]? = some (some (.ref f)) ∧ H c' = some (LamX.CodeO c' q) ∧ tl Ech H (fun v H' => ([V.str "told", v] : List V).length ≤ sizeLine ∧ ∀ p, H' p = none → D.rt (.ref p) (upd H' p (.tup [.str "told", v]))))
      (ts := fun b cls d => tRet (tTup (tCons (tXw X.K b cls d (tVar i)) tNil)))
      rfl rfl hnd hi hln ⟨hgl, hde, .inl hme⟩ LamX.takes0 (fun W pn xe tk _ => ?_) (fun b oe cls d pn hz hf => pss_one (ps_ret (pe_tup (pa_cons (pe_xw hz hf (pe_var hi (.inl hln) hdn hcn)) pa_nil))))), ?_⟩
  · refine ⟨fun pins s' σ H' D I h' => ?_⟩
    obtain ⟨Ech, hW, h1, h2, h3⟩ := h'
    have tk2 : Takes ((cxOf C8.CX0 X.prog X.w X.K X.mg X.base Ng x sg g cdg X.A X.stack s H C8.E0).tr pn xe) (fun cls d σ' H' => σ'.length = Ng.length → W cls d σ' H') :=
      fun u s' ⟨a, B, sI, pins, σ, H, cls, d, e, I, nb, up, sky, na, os, ag, w⟩ => tk u s' ⟨a, B, sI, pins, σ, H, cls, d, e, I, nb, up, sky, na, os, ag, w I.len⟩
    have hp := act _ pn xe Ech p2 p3 tk2 (fun cls d σ' H' he hl => hW cls d σ' H' he hl)
    have hq := pss_one (ps_ret (pos := p5) (pe_tup (x1 := j1) (pos := p4) (pa_cons (pe_str (x := "told") (j := j0) (pos := p1)) (pa_cons hp pa_nil))))
    exact hq.run pins s' σ H' D I ⟨h1, h2, h3⟩
  · refine ⟨fun cls d H' => ∃ word, Rf X.K CP word cls d H' ∧ ∀ p, H' p = none → Q (.ref p) (upd H' p (.tup [.str word])), fun cls d σ' H' hE hl => ?_, hlen f, hc, h⟩
    obtain ⟨word, ⟨C, dd, rfl, rfl, xf, nw, ex, hdd⟩, hq⟩ := hE
    refine ⟨true, ex, fun _ b hb => ?_, fun z => by cases z⟩
    have hil : i < σ'.length := by
      rw [hl]
      exact (List.getElem?_eq_some_iff.mp hi).1
    exact ⟨.ref b, List.getElem?_set_self hil, rfl, C, dd, .str word, rfl, xf, nw, rfl, hdd, by show 1 ≤ sizeLine; decide, fun p hp => hq p hp⟩
end
/-- the law's own word: what a call tells, or the word of its refusal -/
structure Word (K : PySem.W.Frag) (mg : Str → Option Value) (CP : Addr) : Prop where
  ex : ∃ (g : Addr) (fd : FuncData), Fun K "_law_word" "_law_word" s_l_word g fd ∧ mg "_law_word" = some (.ref g) ∧ Binds K fd ["_law_asked"] [] ∧ mg "PailError" = some (.ref CP)
theorem pe_word {X : Cx} {T : Tb} {CP c P : Addr} {k : Nat} {params : Arguments} {body : Expr} {scope : Scope} {t : XK → TE} {p lpos pos : Pos} (W : Word X.K X.mg CP) (hn : (T.map (·.1)).Nodup) (hg : Gl X "_law_word") (TB : LamX.TabB X.base X.mg c P) (hcode : X.env.code = .ref c)
    (hmT : (P, some (X.env.qual ++ "<lambda>")) ∈ T) (hr : Room (k + 2) X.A) (L : LamX.LamS X.env.scope scope) (hdef : defaultsOf params X.env = ([], []))
    (hbind : ∀ (q : Str) (cl : List (Str × Addr)) (pm cv ctv : Value), bindArgs (PySem.W.kla_fn "<lambda>" q params body scope cl pm cv ctv) ⟨[], []⟩ = pure [])
    (hbody : ∀ (A : Around) (outer : List Env) (s : Shared) (H : Hp) (E : XK) (f c' : Addr), Room k (A.deeper (LamX.lamEnv X scope s.heap.objs.size f c')) → PE (LamX.lamCx X A outer s H E scope f c') body (t E)) :
    PE X (.Call (.Name "_law_word" p) [.Lambda params body scope lpos] [] pos) (tLm T P (X.env.qual ++ "<lambda>") (TTw X.K CP) t) := by
  obtain ⟨g, fd, F, hm, hb, hP⟩ := W.ex
  have kp := F.kp
  obtain ⟨oc, od, kV, doc, pm, an, cdv, ct, osl, rfl, lk, hcg⟩ := F.ex
  exact pe_lam hn hg hm kp lk hcg hb sc_l_word rfl (.inl rfl) (word_gives (i := 1) (n := "e") (e := "PailError") (a := "_law_asked") sc_l_word.nd rfl rfl rfl hP (by decide) (by decide) (by decide) (fun _ => rfl)) TB hcode hmT hr L hdef hbind hbody

/-! ### one own class: fields, methods, making -/
section
variable {X : Cx} {C : Addr} {f : Str} {e o value : Expr} {te ta tv : TE} {pos pos' apos p : Pos}
def tFc (C : Addr) (te : TE) (f : Str) : TE := fun σ H Q => te σ H fun x H1 => ∃ a dx fs v, x = .ref a ∧ H1 a = some (.ins C dx fs) ∧ fs.lookup f = some v ∧ Q v H1
theorem pe_fc (c : Cls X.K C) (n : NoAttr X.K C f) (he : PE X e te) (hb : attributeBase e f X.env (eval e X.env) = eval e X.env := by rfl) : PE X (.Attribute e f pos) (tFc C te f) := by
  refine ⟨fun pins s σ H Q I h => attr_of hb (thn (he.run pins s σ H _ I h) fun u s1 hh => ?_)⟩
  obtain ⟨x, H1, I1, rx, a, dx, fs, v, ex, ea, l, q⟩ := hh
  subst ex
  obtain rfl : u = Value.ref a := rx
  exact getattr_ok I1 ea c n l fun u' s2 I2 ru => ⟨v, H1, I2, ru, q⟩
def sFc (C : Addr) (ta tv : TE) (f : Str) : TS := fun D σ H => tv σ H fun y H1 => ta σ H1 fun x H2 => ∃ a dx fs, x = .ref a ∧ H2 a = some (.ins C dx fs) ∧ fs.length < 1000 ∧ D.nx σ (upd H2 a (.ins C dx (putF f y fs)))
theorem ps_fc (c : Cls X.K C) (n : NoAttr X.K C f) (ha : PE X o ta) (hv : PE X value tv) (hs : swapsWith value (some (.Attribute o f pos')) pos.line X.env = pure false := by rfl) : PS X (.Assign [.Attribute o f pos'] value pos) (sFc C ta tv f) := by
  refine ⟨fun pins s σ H D I h => plainObj_wpAny_Assign_Attribute (thn (hv.run pins s σ H _ I h) fun u s1 hh => ?_) hs⟩
  obtain ⟨y, H1, I1, ry, q⟩ := hh
  refine thn (ha.run pins s1 σ H1 _ I1 q) fun ov s2 hk => ?_
  obtain ⟨x, H2, I2, rx, a, dx, fs, ex, ea, l, q2⟩ := hk
  subst ex
  obtain rfl : ov = Value.ref a := rx
  exact setattr_ok I2 ea c n l ry fun s3 I3 => ⟨σ, _, I3, q2⟩
end
/-- a method, ready to be called; one that may raise -/
structure Mt (P : Program) (w : World) (K : PySem.W.Frag) (mg : Str → Option Value) (base : Heap) (C : Addr) (k : Nat) (m : Str) (ps : List Str) (sp : Sp) : Prop where
  ex : ∃ f fd, FnOk P w K mg base CX0 k f fd ps sp ∧ Meth K C m f ∧ Binds K fd ps []
structure Mx (P : Program) (w : World) (K : PySem.W.Frag) (mg : Str → Option Value) (base : Heap) (C : Addr) (k : Nat) (m : Str) (ps : List Str) (sp : Sp) : Prop where
  ex : ∃ f fd, FnOk P w K mg base (L2.CX P w) k f fd ps sp ∧ Meth K C m f ∧ Binds K fd ps []
structure Mn (P : Program) (w : World) (K : PySem.W.Frag) (mg : Str → Option Value) (base : Heap) (C : Addr) (k : Nat) (x : Str) (ps : List Str) (sp : Sp) : Prop where
  ex : ∃ f fd, FnOk P w K mg base CX0 k f fd ps sp ∧ Mk K C f ∧ Binds K fd ps [] ∧ mg x = some (.ref C)
structure Mnx (P : Program) (w : World) (K : PySem.W.Frag) (mg : Str → Option Value) (base : Heap) (C : Addr) (k : Nat) (x : Str) (ps : List Str) (sp : Sp) : Prop where
  ex : ∃ f fd, FnOk P w K mg base (L2.CX P w) k f fd ps sp ∧ Mk K C f ∧ Binds K fd ps [] ∧ mg x = some (.ref C)
section
variable {X : Cx} {C : Addr} {k : Nat} {m x : Str} {ps : List Str} {sp : Sp} {o e : Expr} {es : List Expr} {ta : TE} {t : TA} {p pos apos : Pos} {E : XK} {pl : Sem Bool}
theorem pe_mt (M : Mt X.prog X.w X.K X.mg X.base C k m ps sp) (c : Cls X.K C) (hr : Room k X.A) (he : PE X o ta) (ha : PA X (e :: es) t)
    (hst : starEach (e :: es) X.env = (false, eval e X.env) :: starEach es X.env := by rfl) (hpl : (backTo pos (starEach es X.env)).any (·.1) = false := by rfl)
    (ht : eval (.Call (.Attribute o m apos) (e :: es) [] pos) X.env = (do
      let ov ← eval o X.env
      standAt apos.atName
      let (f, first) ← holding [ov] (getMethod ov m pl)
      callWith pos f first (backTo pos (starEach (e :: es) X.env)) (backToKw pos (keywordEach [] X.env))) := by rfl) :
    PE X (.Call (.Attribute o m apos) (e :: es) [] pos) (tMeth C m sp [] E0 ta t) := by
  obtain ⟨f, fd, h, mm, b⟩ := M.ex
  exact pe_meth he c mm h hr b .nil pass0 ha hst hpl ht
theorem pe_mt0 (M : Mt X.prog X.w X.K X.mg X.base C k m ps sp) (c : Cls X.K C) (hr : Room k X.A) (he : PE X o ta)
    (ht : eval (.Call (.Attribute o m apos) [] [] pos) X.env = (do
      let ov ← eval o X.env
      standAt apos.atName
      let (f, first) ← holding [ov] (getMethod ov m pl)
      callWith pos f first (backTo pos (starEach [] X.env)) (backToKw pos (keywordEach [] X.env))) := by rfl) :
    PE X (.Call (.Attribute o m apos) [] [] pos) (tMeth C m sp [] E0 ta tNil) := by
  obtain ⟨f, fd, h, mm, b⟩ := M.ex
  exact pe_meth0 he c mm h hr b .nil pass0 ht
theorem pe_mx (M : Mx X.prog X.w X.K X.mg X.base C k m ps sp) (c : Cls X.K C) (hr : Room k X.A) (tk : Takes X (fun cls d _ H => E cls d H)) (he : PE X o ta) (ha : PA X (e :: es) t)
    (hst : starEach (e :: es) X.env = (false, eval e X.env) :: starEach es X.env := by rfl) (hpl : (backTo pos (starEach es X.env)).any (·.1) = false := by rfl)
    (ht : eval (.Call (.Attribute o m apos) (e :: es) [] pos) X.env = (do
      let ov ← eval o X.env
      standAt apos.atName
      let (f, first) ← holding [ov] (getMethod ov m pl)
      callWith pos f first (backTo pos (starEach (e :: es) X.env)) (backToKw pos (keywordEach [] X.env))) := by rfl) :
    PE X (.Call (.Attribute o m apos) (e :: es) [] pos) (tMeth C m sp [] E ta t) := by
  obtain ⟨f, fd, h, mm, b⟩ := M.ex
  exact pe_meth he c mm h hr b .nil (passes_call tk fun _ _ _ _ h => h) ha hst hpl ht
theorem pe_mx_ (M : Mx X.prog X.w X.K X.mg X.base C k m ps sp) (c : Cls X.K C) (hr : Room k X.A) (he : PE X o ta) (ha : PA X (e :: es) t)
    (hst : starEach (e :: es) X.env = (false, eval e X.env) :: starEach es X.env := by rfl) (hpl : (backTo pos (starEach es X.env)).any (·.1) = false := by rfl)
    (ht : eval (.Call (.Attribute o m apos) (e :: es) [] pos) X.env = (do
      let ov ← eval o X.env
      standAt apos.atName
      let (f, first) ← holding [ov] (getMethod ov m pl)
      callWith pos f first (backTo pos (starEach (e :: es) X.env)) (backToKw pos (keywordEach [] X.env))) := by rfl) :
    PE X (.Call (.Attribute o m apos) (e :: es) [] pos) (tMeth C m sp [] E0 ta t) := by
  obtain ⟨f, fd, h, mm, b⟩ := M.ex
  exact pe_meth he c mm h hr b .nil passL ha hst hpl ht
theorem pe_mn (M : Mn X.prog X.w X.K X.mg X.base C k x ps sp) (hr : Room (k + 1) X.A) (ha : PA X (e :: es) t) (hg : Gl X x := by rfl) (hdb : (x == ("__debug__" : Str)) = false := by decide)
    (he : starEach (e :: es) X.env = (false, eval e X.env) :: starEach es X.env := by rfl) (hpl : (backTo pos (starEach es X.env)).any (·.1) = false := by rfl) :
    PE X (.Call (.Name x p) (e :: es) [] pos) (tMake C sp [] E0 t) := by
  obtain ⟨f, fd, h, mm, b, g⟩ := M.ex
  exact pe_make mm h hr hg g b .nil pass0 ha hdb he hpl
theorem pe_mnx (M : Mnx X.prog X.w X.K X.mg X.base C k x ps sp) (hr : Room (k + 1) X.A) (tk : Takes X (fun cls d _ H => E cls d H)) (ha : PA X (e :: es) t) (hg : Gl X x := by rfl) (hdb : (x == ("__debug__" : Str)) = false := by decide)
    (he : starEach (e :: es) X.env = (false, eval e X.env) :: starEach es X.env := by rfl) (hpl : (backTo pos (starEach es X.env)).any (·.1) = false := by rfl) :
    PE X (.Call (.Name x p) (e :: es) [] pos) (tMake C sp [] E t) := by
  obtain ⟨f, fd, h, mm, b, g⟩ := M.ex
  exact pe_make mm h hr hg g b .nil (passes_call tk fun _ _ _ _ h => h) ha hdb he hpl
theorem pe_mnx_ (M : Mnx X.prog X.w X.K X.mg X.base C k x ps sp) (hr : Room (k + 1) X.A) (ha : PA X (e :: es) t) (hg : Gl X x := by rfl) (hdb : (x == ("__debug__" : Str)) = false := by decide)
    (he : starEach (e :: es) X.env = (false, eval e X.env) :: starEach es X.env := by rfl) (hpl : (backTo pos (starEach es X.env)).any (·.1) = false := by rfl) :
    PE X (.Call (.Name x p) (e :: es) [] pos) (tMake C sp [] E0 t) := by
  obtain ⟨f, fd, h, mm, b, g⟩ := M.ex
  exact pe_make mm h hr hg g b .nil passL ha hdb he hpl
end

/-! ### classes made without arguments; methods without arguments that may raise; f(e, *y) of a local f -/
section
variable {X : Cx} {C : Addr} {k : Nat} {m x : Str} {ps : List Str} {sp : Sp} {o e : Expr} {es : List Expr} {ta : TE} {t : TA} {p pos apos : Pos} {E : XK} {pl : Sem Bool}
theorem pe_mn0 (M : Mn X.prog X.w X.K X.mg X.base C k x ps sp) (hr : Room (k + 1) X.A) (hg : Gl X x := by rfl) (hdb : (x == ("__debug__" : Str)) = false := by decide) : PE X (.Call (.Name x p) [] [] pos) (tMake C sp [] E0 tNil) := by
  obtain ⟨f, fd, h, mm, b, g⟩ := M.ex
  exact pe_make0 mm h hr hg g b .nil pass0 hdb
theorem pe_mx0 (M : Mx X.prog X.w X.K X.mg X.base C k m ps sp) (c : Cls X.K C) (hr : Room k X.A) (tk : Takes X (fun cls d _ H => E cls d H)) (he : PE X o ta)
    (ht : eval (.Call (.Attribute o m apos) [] [] pos) X.env = (do
      let ov ← eval o X.env
      standAt apos.atName
      let (f, first) ← holding [ov] (getMethod ov m pl)
      callWith pos f first (backTo pos (starEach [] X.env)) (backToKw pos (keywordEach [] X.env))) := by rfl) :
    PE X (.Call (.Attribute o m apos) [] [] pos) (tMeth C m sp [] E ta tNil) := by
  obtain ⟨f, fd, h, mm, b⟩ := M.ex
  exact pe_meth0 he c mm h hr b .nil (passes_call tk fun _ _ _ _ h => h) ht
theorem pe_mx0_ (M : Mx X.prog X.w X.K X.mg X.base C k m ps sp) (c : Cls X.K C) (hr : Room k X.A) (he : PE X o ta)
    (ht : eval (.Call (.Attribute o m apos) [] [] pos) X.env = (do
      let ov ← eval o X.env
      standAt apos.atName
      let (f, first) ← holding [ov] (getMethod ov m pl)
      callWith pos f first (backTo pos (starEach [] X.env)) (backToKw pos (keywordEach [] X.env))) := by rfl) :
    PE X (.Call (.Attribute o m apos) [] [] pos) (tMeth C m sp [] E0 ta tNil) := by
  obtain ⟨f, fd, h, mm, b⟩ := M.ex
  exact pe_meth0 he c mm h hr b .nil passL ht
end
/-- one of several defs, its promise with it -/
structure HeldX (P : Program) (w : World) (K : PySem.W.Frag) (mg : Str → Option Value) (base : Heap) (k : Nat) (f : Addr) (sp : Sp) : Prop where
  ex : ∃ (fd : FuncData) (ps : List Str) (j : Nat), j ≤ k ∧ FnOk P w K mg base (L2.CX P w) j f fd ps sp ∧ PySem.W.keepIn K (.ref f) = true ∧ Binds K fd ps []
def tCallX (i : Nat) (Fam : Addr → Sp → Prop) (E : XK) (t : TA) : TE := fun σ H Q => ∃ f sp, σ[i]? = some (some (.ref f)) ∧ Fam f sp ∧ t σ H fun vs H1 => sp vs H1 Q E
theorem pe_callX {X : Cx} {k i : Nat} {Fam : Addr → Sp → Prop} {E : XK} {x : Str} {e : Expr} {es : List Expr} {t : TA} {p pos : Pos} (hF : ∀ f sp, Fam f sp → HeldX X.prog X.w X.K X.mg X.base k f sp) (hr : Room k X.A) (tk : Takes X (fun cls d _ H => E cls d H)) (hN : X.N[i]? = some x) (hv : Vis X.env.scope x) (ha : PA X (e :: es) t)
    (hd1 : (x == ("__debug__" : Str)) = false := by decide) (hd2 : (x == ("__classdict__" : Str)) = false := by decide)
    (he : starEach (e :: es) X.env = (false, eval e X.env) :: starEach es X.env := by rfl) (hst : (backTo pos (starEach es X.env)).any (·.1) = true := by rfl) : PE X (.Call (.Name x p) (e :: es) [] pos) (tCallX i Fam E t) := by
  refine ⟨fun pins s σ H Q I ⟨f, sp, hs, hm, ht⟩ => ?_⟩
  obtain ⟨fd, ps, j, hj, F, kp, b⟩ := (hF f sp hm).ex
  refine wpAny_Call_Name_kw (thn ((pe_var (pos := p) (i := i) hN hv hd1 hd2).run pins s σ H (fun v G => v = .ref f ∧ G = H) I ⟨.ref f, hs, rfl, rfl⟩) fun u s1 ⟨v, G, I1, rv, q⟩ => ?_)
  obtain ⟨rfl, rfl⟩ := q
  cases rv
  refine PySem.W.callWith_S2 (h₀ := X.base) I.ok.mod.kin kp (thn (ha.run pos pins s1 σ _ _ I1 ht) fun us s2 ⟨vs, H2, I2, r, q⟩ => ⟨I2.kIn, ?_⟩) he hst
  refine run_fn F (hr.mono hj) b .nil (passes_call tk fun _ _ _ _ h => h) I2 r ?_
  rw [List.append_nil]
  exact q
/-- what is never reached -/
theorem pe_nvr {X : Cx} {e : Expr} : PE X e (fun _ _ _ => False) := ⟨fun _ _ _ _ _ _ h => h.elim⟩

def sp_p_common_divisor (K : PySem.W.Frag) (T : Tb) : Sp := fun vs H Q _ => ∃ a b : Nat, vs = [.int a, .int b] ∧ Q (.int (Nat.gcd a b : Nat)) H
theorem ok_p_common_divisor {f : Addr} {fd : FuncData} (F : Fun K "common_divisor" "common_divisor" s_p_common_divisor f fd) : FnOk P w K mg base CX0 1 f fd ["one", "other"] (sp_p_common_divisor K T) := by
  refine F.ok sc_p_common_divisor (fun vs H Q E h => ?_) (fun cdv A outer s H vs Q E hr h => ?_)
  · obtain ⟨a, b, rfl, _⟩ := h
    rfl
  · obtain ⟨a, b, rfl, q⟩ := h
    refine ⟨_, (pss_cons (ps_while PassesOwn.never (pt_truth (pv 1) (by intro _; rfl)) (pss_one (ps_par (i := 0) (j := 1) (by rfl) sc_p_common_divisor.nd rfl rfl (by decide) rfl rfl (pa_cons (pv 1) (pa_cons (pe_op op_mod (pv 0) (pv 1)) pa_nil)) (by rfl))))
      (pss_one (ps_ret (pv 0)))), ?_⟩
    refine while_by (fun σ H' => ∃ x y : Nat, σ = [some (.int x), some (.int y)] ∧ H' = H ∧ Nat.gcd x y = Nat.gcd a b) (fun σ _ => match σ with | [_, some (.int y)] => y.toNat | _ => 0) ⟨a, b, rfl, rfl, rfl⟩ ?_ ?_
    · rintro σ H' ⟨x, y, rfl, rfl, hg⟩
      refine ⟨_, rfl, _, rfl, ite2 (fun e => ?_) (fun e => ?_)⟩
      · have hy : 0 < y := by
          cases y with
          | zero => cases e
          | succ n => exact Nat.succ_pos n
        refine ⟨_, rfl, _, rfl, _, rfl, _, _, rfl, rfl, (by show (0 : Int) < (y : Int); omega), _, _, rfl, ⟨y, x % y, ?_, rfl, ?_⟩, ?_⟩
        · show [some (V.int y), some (V.int ((x : Int) % (y : Int)))] = _
          rw [Int.natCast_emod]
        · rw [← hg, Nat.gcd_comm x y, Nat.gcd_rec y x, Nat.gcd_comm]
        · show ((x : Int) % (y : Int)).toNat < (y : Int).toNat
          rw [← Int.natCast_emod, Int.toNat_natCast, Int.toNat_natCast]
          exact Nat.mod_lt _ hy
      · have hy : y = 0 := by
          cases y with
          | zero => rfl
          | succ n => exact absurd rfl e
        subst hy
        refine ⟨_, rfl, ?_⟩
        rw [← hg, Nat.gcd_zero_right] at q
        exact q
    · rintro σ H Q Q' m ⟨v, e, k, t, q⟩
      exact ⟨v, e, k, t, m _ _ q⟩

def Bd (n : Nat) (x : Am) : Prop := x.1.natAbs < 2 ^ n ∧ x.2.natAbs < 2 ^ n
theorem Bd.mono {n m : Nat} {x : Am} (h : Bd n x) (e : n ≤ m) : Bd m x := ⟨Nat.lt_of_lt_of_le h.1 (Nat.pow_le_pow_right (by decide) e), Nat.lt_of_lt_of_le h.2 (Nat.pow_le_pow_right (by decide) e)⟩
def plusA (x y : Am) : Am := amt (x.1 * y.2 + y.1 * x.2) (x.2 * y.2)
def minusA (x y : Am) : Am := amt (x.1 * y.2 - y.1 * x.2) (x.2 * y.2)
def timesA (x y : Am) : Am := amt (x.1 * y.1) (x.2 * y.2)
def overA (x y : Am) : Am := amt (x.1 * y.2) (x.2 * y.1)
def belowA (x y : Am) : Bool := decide (x.1 * y.2 < y.1 * x.2)
def spBin (pre : Am → Am → Prop) (g : Am → Am → Am) (K : PySem.W.Frag) (T : Tb) : Sp := fun vs H Q _ => ∃ a b x y, vs = [.ref a, .ref b] ∧ SqT K H a (tv x) ∧ SqT K H b (tv y) ∧ (Bd 4000 x ∧ Bd 4000 y) ∧ pre x y ∧
  ∀ p H', Sm T H H' → H p = none → H' p = some (.tup (tv (g x y))) → Q (.ref p) H'
abbrev sp_p_plus : PySem.W.Frag → Tb → Sp := spBin (fun x y => 0 < x.2 ∧ 0 < y.2) plusA
abbrev sp_p_minus : PySem.W.Frag → Tb → Sp := spBin (fun x y => 0 < x.2 ∧ 0 < y.2) minusA
abbrev sp_p_times : PySem.W.Frag → Tb → Sp := spBin (fun x y => 0 < x.2 ∧ 0 < y.2) timesA
abbrev sp_p_over : PySem.W.Frag → Tb → Sp := spBin (fun x y => 0 < x.2 ∧ 0 < y.2 ∧ y.1 ≠ 0) overA
def sp_p_below (K : PySem.W.Frag) (T : Tb) : Sp := fun vs H Q _ => ∃ a b x y, vs = [.ref a, .ref b] ∧ SqT K H a (tv x) ∧ SqT K H b (tv y) ∧ (Bd 4000 x ∧ Bd 4000 y) ∧ Q (.bl (belowA x y)) H
theorem wm {i j : Int} (hi : i.natAbs < 2 ^ 4000) (hj : j.natAbs < 2 ^ 4000) : CMulW i j := wide_mul hi hj (by decide) (by decide) (by decide)
theorem wl {i j : Int} (hi : i.natAbs < 2 ^ 4000) (hj : j.natAbs < 2 ^ 4000) : (i * j).natAbs < 2 ^ 8900 := Nat.lt_trans (wide_lt hi hj) (Nat.pow_lt_pow_right (by decide) (by decide))

def sp_p_amount (K : PySem.W.Frag) (T : Tb) : Sp := fun vs H Q _ => ∃ n d : Int, vs = [.int n, .int d] ∧ d ≠ 0 ∧ d.natAbs < 2 ^ 8900 ∧ ∀ p H', Sm T H H' → H p = none → H' p = some (.tup (tv (amt n d))) → Q (.ref p) H'
theorem gcd_bound {n d : Int} (hd : d ≠ 0) (hb : d.natAbs < 2 ^ 8900) : 0 < Nat.gcd n.natAbs d.natAbs ∧ (Nat.gcd n.natAbs d.natAbs) < 2 ^ 8900 :=
  ⟨Nat.gcd_pos_of_pos_right _ (by omega), Nat.lt_of_le_of_lt (Nat.gcd_le_right _ (by omega)) hb⟩
theorem ok_p_amount {f : Addr} {fd : FuncData} (F : Fun K "amount" "amount" s_p_amount f fd) (B : Bn mg) (F_p_common_divisor : Fn P w K mg base 1 "common_divisor" ["one", "other"] (sp_p_common_divisor K T)) : FnOk P w K mg base CX0 2 f fd ["num", "den"] (sp_p_amount K T) := by
  refine F.ok sc_p_amount (fun vs H Q E h => ?_) (fun cdv A outer s H vs Q E hr h => ?_)
  · obtain ⟨n, d, rfl, _⟩ := h
    rfl
  · obtain ⟨n, d, rfl, hd, hb, q⟩ := h
    refine ⟨_, (pss_cons (ps_if (pt_cmpR op_lt (pv 1) pe_int (nomark _)) (pss_one (ps_par (i := 0) (j := 1) (by rfl) sc_p_amount.nd rfl rfl (by decide) rfl rfl (pa_cons (pe_un un_neg (pv 0)) (pa_cons (pe_un un_neg (pv 1)) pa_nil)) (by rfl))) pss_nil)
      (pss_cons (ps_set (i := 2) sc_p_amount.nd rfl (.inl rfl) (pe_fn F_p_common_divisor (hr.mono (by decide)) (pa_cons (pe_callB call_abs (by rfl) B.abs_ (by decide +kernel) (pa_cons (pv 0) pa_nil)) (pa_cons (pv 1) pa_nil))))
      (pss_one (ps_ret (pe_tup (pa_cons (pe_op op_fdivW (pv 0) (pv 2)) (pa_cons (pe_op op_fdivW (pv 1) (pv 2)) pa_nil))))))), ?_⟩
    have hg := gcd_bound (n := n) hd hb
    refine seq_if (fun σ' H' => H' = H ∧ σ' = [some (.int (if d < 0 then -n else n)), some (.int d.natAbs), none]) (fun σ' H' p => ?_) (fun k => ?_)
    · obtain ⟨rfl, rfl⟩ := p
      refine ⟨_, rfl, _, rfl, _, rfl, n.natAbs, d.natAbs, ?_, ?_⟩
      · have : (if (if d < 0 then -n else n) < 0 then -(if d < 0 then -n else n) else (if d < 0 then -n else n)) = (n.natAbs : Int) := by split <;> split <;> omega
        rw [this] <;> rfl
      · refine ⟨_, rfl, _, rfl, _, _, rfl, rfl, wide_div (b := 8900) (by omega) (by rw [Int.natAbs_natCast]; exact hg.2) (by decide) (by decide), ?_⟩
        refine ⟨_, rfl, _, rfl, _, _, rfl, rfl, wide_div (b := 8900) (by omega) (by rw [Int.natAbs_natCast]; exact hg.2) (by decide) (by decide), ?_⟩
        refine ⟨by show 2 ≤ sizeLine; decide, fun p hp => ?_⟩
        exact q p _ (same_upd hp) hp upd_same
    · refine ⟨_, rfl, _, _, rfl, rfl, _, rfl, ite2 (fun e => ?_) (fun e => ?_)⟩
      · have e' : d < 0 := of_decide_eq_true e
        refine ⟨_, rfl, _, rfl, _, rfl, _, rfl, _, _, rfl, ?_⟩
        refine k _ _ ⟨rfl, ?_⟩
        rw [if_pos e', show ((d.natAbs : Nat) : Int) = -d by omega]
        all_goals rfl
      · have e' : ¬ d < 0 := fun z => e (decide_eq_true z)
        refine k _ _ ⟨rfl, ?_⟩
        rw [if_neg e', show ((d.natAbs : Nat) : Int) = d by omega]
        all_goals rfl

/-! ### amounts as rationals -/
def am (r : Rat) : Am := (r.num, (r.den : Int))
def vl (x : Am) : Rat := (x.1 : Rat) / (x.2 : Rat)
theorem am_low (r : Rat) : Low (am r) := ⟨by have := r.den_nz; show (0 : Int) < (r.den : Int); omega, by show Nat.gcd r.num.natAbs ((r.den : Int)).natAbs = 1; rw [Int.natAbs_natCast]; exact r.reduced⟩
theorem am_pos (r : Rat) : 0 < (am r).2 := (am_low r).1
theorem vl_am (r : Rat) : vl (am r) = r := by
  show (r.num : Rat) / ((r.den : Int) : Rat) = r
  have := Rat.num_divInt_den r
  rw [Rat.divInt_eq_div] at this
  exact this
theorem ci {a b : Int} (h : (a : Rat) = (b : Rat)) : a = b := Rat.intCast_inj.mp h
theorem cn {a : Int} (h : a ≠ 0) : (a : Rat) ≠ 0 := fun z => h (ci z)
theorem cp {a : Int} (h : 0 < a) : (0 : Rat) < (a : Rat) := Rat.intCast_pos.mpr h
theorem vl_eq {x y : Am} (hx : Low x) (hy : Low y) (e : vl x = vl y) : x = y := by
  refine low_eq hx hy (ci ?_)
  have h1 := cn (a := x.2) (by have := hx.1; omega)
  have h2 := cn (a := y.2) (by have := hy.1; omega)
  unfold vl at e
  rw [Rat.intCast_mul, Rat.intCast_mul]
  grind
theorem am_vl {x : Am} (hx : Low x) : am (vl x) = x := vl_eq (am_low _) hx (vl_am _)
theorem am_inj {a b : Rat} (h : am a = am b) : a = b := by rw [← vl_am a, h, vl_am]
theorem vl_amt {n d : Int} (hd : d ≠ 0) : vl (amt n d) = (n : Rat) / (d : Rat) := by
  have s := amt_spec (n := n) hd
  have h1 := cn (a := (amt n d).2) (by have := s.1.1; omega)
  have h2 := cn hd
  have e : (((amt n d).1 * d : Int) : Rat) = ((n * (amt n d).2 : Int) : Rat) := by rw [s.2.1]
  rw [Rat.intCast_mul, Rat.intCast_mul] at e
  unfold vl
  grind
theorem amt_am {n d : Int} (hd : d ≠ 0) : amt n d = am ((n : Rat) / (d : Rat)) := by
  rw [← vl_amt hd, am_vl (amt_spec hd).1]
theorem vle (x : Am) : vl x = (x.1 : Rat) / (x.2 : Rat) := rfl
theorem plus_am (a b : Rat) : plusA (am a) (am b) = am (a + b) := by
  have h1 := am_pos a
  have h2 := am_pos b
  unfold plusA
  rw [amt_am (by exact Int.mul_ne_zero (by omega) (by omega))]
  congr 1
  have e1 := vl_am a
  have e2 := vl_am b
  have k1 := cn (a := (am a).2) (by omega)
  have k2 := cn (a := (am b).2) (by omega)
  unfold vl at e1 e2
  rw [Rat.intCast_add, Rat.intCast_mul, Rat.intCast_mul, Rat.intCast_mul]
  grind
theorem minus_am (a b : Rat) : minusA (am a) (am b) = am (a - b) := by
  have h1 := am_pos a
  have h2 := am_pos b
  unfold minusA
  rw [amt_am (by exact Int.mul_ne_zero (by omega) (by omega))]
  congr 1
  have e1 := vl_am a
  have e2 := vl_am b
  have k1 := cn (a := (am a).2) (by omega)
  have k2 := cn (a := (am b).2) (by omega)
  unfold vl at e1 e2
  rw [Rat.intCast_sub, Rat.intCast_mul, Rat.intCast_mul, Rat.intCast_mul]
  grind
theorem times_am (a b : Rat) : timesA (am a) (am b) = am (a * b) := by
  have h1 := am_pos a
  have h2 := am_pos b
  unfold timesA
  rw [amt_am (by exact Int.mul_ne_zero (by omega) (by omega))]
  congr 1
  have e1 := vl_am a
  have e2 := vl_am b
  have k1 := cn (a := (am a).2) (by omega)
  have k2 := cn (a := (am b).2) (by omega)
  unfold vl at e1 e2
  rw [Rat.intCast_mul, Rat.intCast_mul]
  grind
theorem am_ne {b : Rat} (h : b ≠ 0) : (am b).1 ≠ 0 := fun z => h (by
  rw [← vl_am b]
  unfold vl
  rw [z]
  show (0 : Rat) / _ = 0
  grind)
theorem over_am (a b : Rat) (hb : b ≠ 0) : overA (am a) (am b) = am (a / b) := by
  have h1 := am_pos a
  have h2 := am_pos b
  have h3 := am_ne hb
  unfold overA
  rw [amt_am (by exact Int.mul_ne_zero (by omega) h3)]
  congr 1
  have e1 := vl_am a
  have e2 := vl_am b
  have k1 := cn (a := (am a).2) (by omega)
  have k2 := cn (a := (am b).2) (by omega)
  have k3 := cn h3
  unfold vl at e1 e2
  rw [Rat.intCast_mul, Rat.intCast_mul]
  grind
theorem below_am (a b : Rat) : belowA (am a) (am b) = decide (a < b) := by
  have h1 := am_pos a
  have h2 := am_pos b
  have k1 := cp h1
  have k2 := cp h2
  have e1 := vl_am a
  have e2 := vl_am b
  unfold belowA
  rw [decide_eq_decide, ← Rat.intCast_lt_intCast, Rat.intCast_mul, Rat.intCast_mul]
  unfold vl at e1 e2
  have f1 : ((am a).1 : Rat) = a * ((am a).2 : Rat) := by grind
  have f2 : ((am b).1 : Rat) = b * ((am b).2 : Rat) := by grind
  rw [f1, f2]
  have k3 := Rat.mul_pos k1 k2
  constructor
  · intro h
    by_cases z : a < b
    · exact z
    · have := Rat.mul_le_mul_of_nonneg_right (a := b) (b := a) (Rat.not_lt.mp z) (Rat.le_of_lt k3)
      grind
  · intro h
    have := Rat.mul_lt_mul_of_pos_right h k3
    grind
theorem am_int (z : Int) : am (z : Rat) = (z, 1) := by
  refine vl_eq (am_low _) ⟨by show (0 : Int) < 1; decide, by show Nat.gcd _ 1 = 1; exact Nat.gcd_one_right _⟩ ?_
  rw [vl_am]
  show (z : Rat) = (z : Rat) / ((1 : Int) : Rat)
  have : ((1 : Int) : Rat) = 1 := rfl
  rw [this]
  grind
theorem am_zero : am 0 = (0, 1) := am_int 0
theorem am_one : am 1 = (1, 1) := am_int 1
theorem am_eq_iff {a b : Rat} : am a = am b ↔ a = b := ⟨am_inj, fun h => by rw [h]⟩
theorem sub_nn {a b : Rat} (h : a < b) : 0 ≤ b - a := by grind
theorem sub_nn' {a b : Rat} (h : a ≤ b) : 0 ≤ b - a := by grind
theorem sub_le' {a b c : Rat} (h : b ≤ c) (h0 : 0 ≤ a) : b - a ≤ c := by grind
theorem neg_le {a c : Rat} (h : 0 ≤ a) (hc : 0 ≤ c) : -c ≤ a := by grind

/-! ### walking -/
def mnI (p q : Int) : Int := if q < p then q else p
def spd : List Int → List Rat → List Int
  | p :: ns, x :: xs => (match xs, spd ns xs with
      | y :: _, s :: _ => if x = y then mnI p s else p
      | _, _ => p) :: spd ns xs
  | _, _ => []
theorem spd_len : ∀ (ns : List Int) (xs : List Rat), ns.length = xs.length → (spd ns xs).length = ns.length
  | [], [], _ => rfl
  | [], _ :: _, h => by simp at h
  | _ :: _, [], h => by simp at h
  | p :: ns, x :: xs, h => by
    have := spd_len ns xs (by simpa using h)
    simp only [spd, List.length_cons, this]
theorem spd_step {ns : List Int} {xs : List Rat} (hl : ns.length = xs.length) {j : Nat} (hj : j < ns.length) :
    spd (ns.drop j) (xs.drop j) = (if h : j + 1 < ns.length then (if xs[j] = xs[j + 1] then mnI ns[j] ((spd (ns.drop (j + 1)) (xs.drop (j + 1))).headD 0) else ns[j]) else ns[j]) :: spd (ns.drop (j + 1)) (xs.drop (j + 1)) := by
  rw [List.drop_eq_getElem_cons hj, List.drop_eq_getElem_cons (show j < xs.length by omega)]
  by_cases h : j + 1 < ns.length
  · rw [dif_pos h]
    have e2 := List.drop_eq_getElem_cons (show j + 1 < xs.length by omega)
    have l := spd_len (ns.drop (j + 1)) (xs.drop (j + 1)) (by rw [List.length_drop, List.length_drop, hl])
    simp only [spd]
    cases hs : spd (ns.drop (j + 1)) (xs.drop (j + 1)) with
    | nil => rw [hs, List.length_drop] at l; simp at l; omega
    | cons s r =>
      rw [e2]
      simp
  · rw [dif_neg h]
    have e1 : ns.drop (j + 1) = [] := List.drop_eq_nil_of_le (by omega)
    have e2 : xs.drop (j + 1) = [] := List.drop_eq_nil_of_le (by omega)
    rw [e1, e2]
    simp [spd]
/-- the law's own -/
def ptl (x : Rat) : Int → List Int → List Rat → Int
  | p, q :: ns, y :: ys => ptl x (if y = x then mnI p q else p) ns ys
  | p, _, _ => p
theorem mnI_assoc (p q r : Int) : mnI (mnI p q) r = mnI p (mnI q r) := by unfold mnI; grind
theorem ptl_min (x : Rat) (p : Int) : ∀ (q : Int) (ns : List Int) (ys : List Rat), ptl x (mnI p q) ns ys = mnI p (ptl x q ns ys)
  | q, [], _ => by cases ‹List Rat› <;> rfl
  | q, _ :: _, [] => rfl
  | q, r :: ns, y :: ys => by
    simp only [ptl]
    by_cases h : y = x
    · rw [if_pos h, if_pos h, mnI_assoc, ptl_min x p]
    · rw [if_neg h, if_neg h, ptl_min x p]
theorem ptl_none (x : Rat) (p : Int) : ∀ (ns : List Int) (ys : List Rat), (∀ y ∈ ys, y ≠ x) → ptl x p ns ys = p
  | [], _, _ => by cases ‹List Rat› <;> rfl
  | _ :: _, [], _ => rfl
  | r :: ns, y :: ys, h => by
    simp only [ptl]
    rw [if_neg (h y List.mem_cons_self)]
    exact ptl_none x p ns ys fun z hz => h z (List.mem_cons_of_mem _ hz)
theorem spd_ptl : ∀ (p : Int) (x : Rat) (ns : List Int) (xs : List Rat), ns.length = xs.length → (x :: xs).Pairwise (· ≤ ·) → (spd (p :: ns) (x :: xs)).headD 0 = ptl x p ns xs
  | p, x, [], [], _, _ => rfl
  | _, _, [], _ :: _, h, _ => by simp at h
  | _, _, _ :: _, [], h, _ => by simp at h
  | p, x, q :: ns, y :: ys, h, hp => by
    have hp' := List.pairwise_cons.mp hp
    have ih := spd_ptl q y ns ys (by simpa using h) hp'.2
    have l := spd_len (q :: ns) (y :: ys) h
    cases hs : spd (q :: ns) (y :: ys) with
    | nil => rw [hs] at l; simp at l
    | cons s r =>
      rw [hs, List.headD_cons] at ih
      have e0 : spd (p :: q :: ns) (x :: y :: ys) = (if x = y then mnI p s else p) :: (s :: r) := by
        have : spd (p :: q :: ns) (x :: y :: ys) = (match y :: ys, spd (q :: ns) (y :: ys) with | y :: _, s :: _ => if x = y then mnI p s else p | _, _ => p) :: spd (q :: ns) (y :: ys) := rfl
        rw [this, hs]
      rw [e0, List.headD_cons]
      simp only [ptl]
      by_cases e : x = y
      · subst e
        rw [if_pos rfl, if_pos rfl, ptl_min, ih]
      · have hxy := hp'.1 y List.mem_cons_self
        have hl := (List.pairwise_cons.mp hp'.2).1
        rw [if_neg e, if_neg (fun z => e z.symm)]
        refine (ptl_none x p ns ys fun z hz => ?_).symm
        have := hl z hz
        grind
theorem spd_get {ns : List Int} {xs : List Rat} (hl : ns.length = xs.length) (hp : xs.Pairwise (· ≤ ·)) : ∀ {j : Nat} (hj : j < ns.length), (spd ns xs)[j]? = some (ptl xs[j] ns[j] (ns.drop (j + 1)) (xs.drop (j + 1))) := by
  intro j hj
  induction j generalizing ns xs with
  | zero =>
    match ns, xs, hl, hp, hj with
    | p :: ns, x :: xs, hl, hp, _ =>
      have := spd_ptl p x ns xs (by simpa using hl) hp
      simp only [spd] at this ⊢
      simp only [List.headD_cons] at this
      simp [this]
  | succ j ih =>
    match ns, xs, hl, hp, hj with
    | p :: ns, x :: xs, hl, hp, hj =>
      have := ih (ns := ns) (xs := xs) (by simpa using hl) (List.pairwise_cons.mp hp).2 (by simpa using hj)
      simp only [spd]
      simpa using this

/-! ### amounts over a common lower number -/
def Fr (D : Int) (r : Rat) : Prop := ∃ z : Int, r = (z : Rat) / (D : Rat)
theorem Fr.add {D : Int} {a b : Rat} (ha : Fr D a) (hb : Fr D b) : Fr D (a + b) := by
  obtain ⟨x, rfl⟩ := ha
  obtain ⟨y, rfl⟩ := hb
  exact ⟨x + y, by rw [Rat.intCast_add]; grind⟩
theorem Fr.sub {D : Int} {a b : Rat} (ha : Fr D a) (hb : Fr D b) : Fr D (a - b) := by
  obtain ⟨x, rfl⟩ := ha
  obtain ⟨y, rfl⟩ := hb
  exact ⟨x - y, by rw [Rat.intCast_sub]; grind⟩
theorem Fr.mulI {D : Int} {a : Rat} (ha : Fr D a) (k : Int) : Fr D ((k : Rat) * a) := by
  obtain ⟨x, rfl⟩ := ha
  exact ⟨k * x, by rw [Rat.intCast_mul]; grind⟩
theorem Fr.divI {D : Int} {a : Rat} (hD : D ≠ 0) (ha : Fr D a) {k : Int} (hk : k ≠ 0) : Fr (D * k) (a / (k : Rat)) := by
  obtain ⟨x, rfl⟩ := ha
  have h1 := cn hD
  have h2 := cn hk
  exact ⟨x, by rw [Rat.intCast_mul]; grind⟩
theorem Fr.int {D : Int} (hD : D ≠ 0) (k : Int) : Fr D (k : Rat) := ⟨k * D, by have := cn hD; rw [Rat.intCast_mul]; grind⟩
theorem Fr.zero {D : Int} (hD : D ≠ 0) : Fr D 0 := Fr.int hD 0
theorem Fr.scale {D : Int} {a : Rat} (hD : D ≠ 0) (ha : Fr D a) {k : Int} (hk : k ≠ 0) : Fr (D * k) a := by
  obtain ⟨x, rfl⟩ := ha
  have h1 := cn hD
  have h2 := cn hk
  exact ⟨x * k, by rw [Rat.intCast_mul, Rat.intCast_mul]; grind⟩
theorem Fr.of {n d D k : Int} (hd : d ≠ 0) (hk : k ≠ 0) (e : D = d * k) : Fr D ((n : Rat) / (d : Rat)) := by
  subst e
  have h1 := cn hd
  have h2 := cn hk
  exact ⟨n * k, by rw [Rat.intCast_mul, Rat.intCast_mul]; grind⟩
theorem ile {a b : Int} (h : (a : Rat) ≤ (b : Rat)) : a ≤ b := Rat.intCast_le_intCast.mp h
theorem fr_bd {D B : Int} {r : Rat} {k : Nat} (hD : 0 < D) (h : Fr D r) (h0 : -(B : Rat) ≤ r) (h1 : r ≤ (B : Rat)) (hb : (B * D).natAbs < 2 ^ k) (hd : D.natAbs < 2 ^ k) : Bd k (am r) := by
  obtain ⟨z, rfl⟩ := h
  have kD := cp hD
  have e1 : z ≤ B * D := ile (by
    rw [Rat.intCast_mul]
    have := Rat.mul_le_mul_of_nonneg_right h1 (Rat.le_of_lt kD)
    rw [Rat.div_mul_cancel (cn (by omega))] at this
    exact this)
  have e2 : -(B * D) ≤ z := ile (by
    rw [Rat.intCast_neg, Rat.intCast_mul]
    have := Rat.mul_le_mul_of_nonneg_right h0 (Rat.le_of_lt kD)
    rw [Rat.div_mul_cancel (cn (by omega)), Rat.neg_mul] at this
    exact this)
  have s := amt_spec (n := z) (d := D) (by omega)
  rw [← amt_am (by omega)]
  exact ⟨Nat.lt_of_le_of_lt (Nat.le_trans s.2.2.1 (by omega)) hb, Nat.lt_of_le_of_lt s.2.2.2 hd⟩

/-! ### meetings -/
def mnR (a b : Rat) : Rat := if b < a then b else a
def meetF (g : List Int) (ps : List Rat) (h : Rat) : Nat → Rat
  | 0 => h
  | i + 1 => if g.getD (i + 1) 0 < g.getD i 0 then mnR (meetF g ps h i) ((ps.getD (i + 1) 0 - ps.getD i 0) / ((g.getD i 0 - g.getD (i + 1) 0 : Int) : Rat)) else meetF g ps h i
def lastH (L : Int) (ns : List Int) (ps : List Rat) : Rat := ((L : Rat) - ps.getD (ns.length - 1) 0) / ((ns.getD (ns.length - 1) 0 : Int) : Rat)
def meetM (L : Int) (ns : List Int) (ps : List Rat) : Rat := meetF (spd ns ps) ps (lastH L ns ps) (ns.length - 1)
/-- hands on a way of labour L, all places over D -/
structure Wk (D L : Int) (ns : List Int) (ps : List Rat) : Prop where
  eq : ns.length = ps.length
  n8 : ns.length ≤ 8
  pace : ∀ n ∈ ns, 1 ≤ n ∧ n ≤ 12
  rise : ps.Pairwise (· ≤ ·)
  nn : ∀ p ∈ ps, 0 ≤ p
  fire : ∀ p ∈ ps, p ≤ (L : Rat)
  fr : ∀ p ∈ ps, Fr D p
theorem getD_mem {α : Type} {l : List α} {i : Nat} {d : α} (h : i < l.length) : l.getD i d ∈ l := by
  rw [List.getD_eq_getElem?_getD, List.getElem?_eq_getElem h]
  exact List.getElem_mem h
theorem getD_lt {α : Type} {l : List α} {i : Nat} {d : α} (h : i < l.length) : l.getD i d = l[i] := by
  rw [List.getD_eq_getElem?_getD, List.getElem?_eq_getElem h]
  rfl
theorem spd_at {ns : List Int} {xs : List Rat} (hl : ns.length = xs.length) {j : Nat} (hj : j < ns.length) : (spd ns xs).drop j = spd (ns.drop j) (xs.drop j) := by
  induction j generalizing ns xs with
  | zero => rfl
  | succ j ih =>
    match ns, xs, hl, hj with
    | p :: ns, x :: xs, hl, hj =>
      simp only [spd, List.drop_succ_cons]
      exact ih (by simpa using hl) (by simpa using hj)
theorem spd_rec {ns : List Int} {xs : List Rat} (hl : ns.length = xs.length) {j : Nat} (hj : j < ns.length) :
    (spd ns xs).getD j 0 = if j + 1 < ns.length ∧ xs.getD j 0 = xs.getD (j + 1) 0 then mnI (ns.getD j 0) ((spd ns xs).getD (j + 1) 0) else ns.getD j 0 := by
  have st := spd_step hl hj
  have e0 : (spd ns xs).getD j 0 = ((spd ns xs).drop j).headD 0 := by
    rw [List.getD_eq_getElem?_getD, List.headD_eq_head?_getD, List.head?_drop]
  rw [e0, spd_at hl hj, st, List.headD_cons, getD_lt hj]
  by_cases h : j + 1 < ns.length
  · rw [dif_pos h, getD_lt (show j < xs.length by omega), getD_lt (show j + 1 < xs.length by omega)]
    have e1 : (spd (ns.drop (j + 1)) (xs.drop (j + 1))).headD 0 = (spd ns xs).getD (j + 1) 0 := by
      rw [← spd_at hl h, List.getD_eq_getElem?_getD, List.headD_eq_head?_getD, List.head?_drop]
    rw [e1]
    by_cases e : xs[j] = xs[j + 1]
    · rw [if_pos e, if_pos ⟨h, e⟩]
    · rw [if_neg e, if_neg (fun z => e z.2)]
  · rw [dif_neg h, if_neg (fun z => h z.1)]
theorem mnI_le_l (p q : Int) : mnI p q ≤ p := by unfold mnI; split <;> omega
theorem mnI_le_r (p q : Int) : mnI p q ≤ q := by unfold mnI; split <;> omega
section
variable {D L : Int} {ns : List Int} {ps : List Rat}
theorem spd_bd (w : Wk D L ns ps) : ∀ {j : Nat}, j < ns.length → 1 ≤ (spd ns ps).getD j 0 ∧ (spd ns ps).getD j 0 ≤ 12 := by
  have key : ∀ k j, j < ns.length → ns.length - j ≤ k → 1 ≤ (spd ns ps).getD j 0 ∧ (spd ns ps).getD j 0 ≤ 12 := by
    intro k
    induction k with
    | zero => intro j h1 h2; omega
    | succ k ih =>
      intro j h1 h2
      have hp := w.pace _ (getD_mem (d := 0) h1)
      rw [spd_rec w.eq h1]
      split
      · rename_i h
        have := ih (j + 1) h.1 (by omega)
        unfold mnI
        split <;> omega
      · exact hp
  intro j h
  exact key _ j h (Nat.le_refl _)
theorem spd_same (w : Wk D L ns ps) {j : Nat} (h : j + 1 < ns.length) (e : ps.getD j 0 = ps.getD (j + 1) 0) : (spd ns ps).getD j 0 ≤ (spd ns ps).getD (j + 1) 0 := by
  rw [spd_rec w.eq (show j < ns.length by omega), if_pos ⟨h, e⟩]
  exact mnI_le_r _ _
theorem spd_last (w : Wk D L ns ps) (h : 0 < ns.length) : (spd ns ps).getD (ns.length - 1) 0 = ns.getD (ns.length - 1) 0 := by
  rw [spd_rec w.eq (by omega), if_neg (fun z => by omega)]
theorem ps_le (w : Wk D L ns ps) {j : Nat} (h : j + 1 < ns.length) : ps.getD j 0 ≤ ps.getD (j + 1) 0 := by
  have h2 : j + 1 < ps.length := by have := w.eq; omega
  rw [getD_lt (show j < ps.length by omega), getD_lt h2]
  exact List.pairwise_iff_getElem.mp w.rise j (j + 1) (by omega) h2 (by omega)
/-- where the one behind is quicker, they are apart -/
theorem apart (w : Wk D L ns ps) {j : Nat} (h : j + 1 < ns.length) (g : (spd ns ps).getD (j + 1) 0 < (spd ns ps).getD j 0) : ps.getD j 0 < ps.getD (j + 1) 0 := by
  have h1 := ps_le w h
  by_cases e : ps.getD j 0 = ps.getD (j + 1) 0
  · have := spd_same w h e
    omega
  · grind
theorem mnR_le_l (a b : Rat) : mnR a b ≤ a := by unfold mnR; split <;> grind
theorem mnR_le_r (a b : Rat) : mnR a b ≤ b := by unfold mnR; split <;> grind
theorem mnR_or (a b : Rat) : mnR a b = a ∨ mnR a b = b := by unfold mnR; split <;> simp
def cand (g : List Int) (ps : List Rat) (j : Nat) : Rat := (ps.getD (j + 1) 0 - ps.getD j 0) / ((g.getD j 0 - g.getD (j + 1) 0 : Int) : Rat)
theorem meetF_or (g : List Int) (ps : List Rat) (h : Rat) : ∀ i, meetF g ps h i = h ∨ ∃ j, j < i ∧ g.getD (j + 1) 0 < g.getD j 0 ∧ meetF g ps h i = cand g ps j
  | 0 => .inl rfl
  | i + 1 => by
    simp only [meetF]
    split
    · rename_i hg
      rcases mnR_or (meetF g ps h i) ((ps.getD (i + 1) 0 - ps.getD i 0) / ((g.getD i 0 - g.getD (i + 1) 0 : Int) : Rat)) with e | e
      · rw [e]
        rcases meetF_or g ps h i with e | ⟨j, hj, hgj, e⟩
        · exact .inl e
        · exact .inr ⟨j, by omega, hgj, e⟩
      · rw [e]
        exact .inr ⟨i, by omega, hg, rfl⟩
    · rcases meetF_or g ps h i with e | ⟨j, hj, hgj, e⟩
      · exact .inl e
      · exact .inr ⟨j, by omega, hgj, e⟩
theorem meetF_le (g : List Int) (ps : List Rat) (h : Rat) : ∀ i, meetF g ps h i ≤ h ∧ ∀ j, j < i → g.getD (j + 1) 0 < g.getD j 0 → meetF g ps h i ≤ cand g ps j
  | 0 => ⟨by simp only [meetF]; grind, fun j hj => by omega⟩
  | i + 1 => by
    have ih := meetF_le g ps h i
    simp only [meetF]
    split
    · rename_i hg
      have a := mnR_le_l (meetF g ps h i) ((ps.getD (i + 1) 0 - ps.getD i 0) / ((g.getD i 0 - g.getD (i + 1) 0 : Int) : Rat))
      have b := mnR_le_r (meetF g ps h i) ((ps.getD (i + 1) 0 - ps.getD i 0) / ((g.getD i 0 - g.getD (i + 1) 0 : Int) : Rat))
      refine ⟨by grind, fun j hj hgj => ?_⟩
      by_cases e : j = i
      · subst e; exact b
      · have := ih.2 j (by omega) hgj
        grind
    · rename_i hg
      refine ⟨ih.1, fun j hj hgj => ?_⟩
      by_cases e : j = i
      · subst e; exact absurd hgj hg
      · exact ih.2 j (by omega) hgj
theorem lt_div {a b : Rat} {k : Int} (hk : 0 < k) (h : a < b) : 0 < (b - a) / (k : Rat) := (Rat.lt_div_iff (cp hk)).mpr (by rw [Rat.zero_mul]; grind)
theorem div_mul {a : Rat} {k : Int} (hk : 0 < k) : a / (k : Rat) * (k : Rat) = a := Rat.div_mul_cancel (cn (by omega))
theorem div_le1 {a : Rat} {k : Int} (hk : 1 ≤ k) (ha : 0 ≤ a) : a / (k : Rat) ≤ a := by
  have e := div_mul (a := a) (show 0 < k by omega)
  have kp := cp (show 0 < k by omega)
  have h1 : (1 : Rat) ≤ (k : Rat) := Rat.intCast_le_intCast.mpr hk
  by_cases c : a / (k : Rat) < 0
  · have := Rat.mul_lt_mul_of_pos_right c kp
    grind
  · have := Rat.mul_le_mul_of_nonneg_left h1 (Rat.not_lt.mp c)
    grind
/-- the hours up to the i-th step of the search: over one of 1 to 12 parts -/
theorem meetF_ok (w : Wk D L ns ps) (hD : D ≠ 0) (hn : 0 < ns.length) {i : Nat} (hi : i ≤ ns.length - 1) : ∃ k : Int, 1 ≤ k ∧ k ≤ 12 ∧ Fr (D * k) (meetF (spd ns ps) ps (lastH L ns ps) i) ∧ 0 ≤ meetF (spd ns ps) ps (lastH L ns ps) i ∧ meetF (spd ns ps) ps (lastH L ns ps) i ≤ (L : Rat) := by
  have hle := w.eq
  have p0 := w.pace _ (getD_mem (d := 0) (show ns.length - 1 < ns.length by omega))
  have q0 := w.nn _ (getD_mem (d := 0) (show ns.length - 1 < ps.length by omega))
  have q1 := w.fire _ (getD_mem (d := 0) (show ns.length - 1 < ps.length by omega))
  have q2 := w.fr _ (getD_mem (d := 0) (show ns.length - 1 < ps.length by omega))
  have dp := cp (show 0 < ns.getD (ns.length - 1) 0 by omega)
  have em : lastH L ns ps * ((ns.getD (ns.length - 1) 0 : Int) : Rat) = (L : Rat) - ps.getD (ns.length - 1) 0 := div_mul (by omega)
  have h1 : (1 : Rat) ≤ ((ns.getD (ns.length - 1) 0 : Int) : Rat) := Rat.intCast_le_intCast.mpr p0.1
  have l0 : 0 ≤ lastH L ns ps := by
    by_cases c : lastH L ns ps < 0
    · have := Rat.mul_lt_mul_of_pos_right c dp
      grind
    · exact Rat.not_lt.mp c
  have lL : lastH L ns ps ≤ (L : Rat) := by
    have := Rat.mul_le_mul_of_nonneg_left h1 l0
    grind
  rcases meetF_or (spd ns ps) ps (lastH L ns ps) i with e | ⟨j, hj, hg, e⟩
  · rw [e]
    exact ⟨_, p0.1, p0.2, ((Fr.int hD L).sub q2).divI hD (by omega), l0, lL⟩
  · rw [e]
    have hj1 : j + 1 < ns.length := by omega
    have b0 := spd_bd w (show j < ns.length by omega)
    have b1 := spd_bd w hj1
    have ap := apart w hj1 hg
    have r2 := w.fr _ (getD_mem (d := 0) (show j < ps.length by omega))
    have r3 := w.fr _ (getD_mem (d := 0) (show j + 1 < ps.length by omega))
    refine ⟨(spd ns ps).getD j 0 - (spd ns ps).getD (j + 1) 0, by omega, by omega, (r3.sub r2).divI hD (by omega), Rat.le_of_lt (lt_div (by omega) ap), ?_⟩
    rw [← e]
    exact Rat.le_trans (meetF_le (spd ns ps) ps (lastH L ns ps) i).1 lL
theorem meet_pos (w : Wk D L ns ps) (hn : 0 < ns.length) (hf : ∀ p ∈ ps, p < (L : Rat)) : 0 < meetM L ns ps := by
  have hle := w.eq
  unfold meetM
  rcases meetF_or (spd ns ps) ps (lastH L ns ps) (ns.length - 1) with e | ⟨j, hj, hg, e⟩
  · rw [e]
    have p0 := w.pace _ (getD_mem (d := 0) (show ns.length - 1 < ns.length by omega))
    exact lt_div (by omega) (hf _ (getD_mem (d := 0) (show ns.length - 1 < ps.length by omega)))
  · rw [e]
    exact lt_div (by omega) (apart w (by omega) hg)
/-- for so long nobody is beyond the next one -/
theorem meet_order (w : Wk D L ns ps) {t : Rat} (h0 : 0 ≤ t) (ht : t ≤ meetM L ns ps) {j : Nat} (hj : j + 1 < ns.length) :
    ps.getD j 0 + t * (((spd ns ps).getD j 0 : Int) : Rat) ≤ ps.getD (j + 1) 0 + t * (((spd ns ps).getD (j + 1) 0 : Int) : Rat) := by
  have h1 := ps_le w hj
  by_cases g : (spd ns ps).getD (j + 1) 0 < (spd ns ps).getD j 0
  · have c := (meetF_le (spd ns ps) ps (lastH L ns ps) (ns.length - 1)).2 j (by omega) g
    have c2 : t ≤ cand (spd ns ps) ps j := Rat.le_trans ht c
    have kp := cp (show 0 < (spd ns ps).getD j 0 - (spd ns ps).getD (j + 1) 0 by omega)
    have e : cand (spd ns ps) ps j * (((spd ns ps).getD j 0 - (spd ns ps).getD (j + 1) 0 : Int) : Rat) = ps.getD (j + 1) 0 - ps.getD j 0 := div_mul (by omega)
    have := Rat.mul_le_mul_of_nonneg_right c2 (Rat.le_of_lt kp)
    rw [e, Rat.intCast_sub] at this
    grind
  · have k : (((spd ns ps).getD j 0 : Int) : Rat) ≤ (((spd ns ps).getD (j + 1) 0 : Int) : Rat) := Rat.intCast_le_intCast.mpr (by omega)
    have := Rat.mul_le_mul_of_nonneg_left k h0
    grind
theorem meet_fire (w : Wk D L ns ps) (hn : 0 < ns.length) {t : Rat} (ht : t ≤ meetM L ns ps) : ps.getD (ns.length - 1) 0 + t * (((spd ns ps).getD (ns.length - 1) 0 : Int) : Rat) ≤ (L : Rat) := by
  have c := (meetF_le (spd ns ps) ps (lastH L ns ps) (ns.length - 1)).1
  have c2 : t ≤ lastH L ns ps := Rat.le_trans ht c
  have p0 := w.pace _ (getD_mem (d := 0) (show ns.length - 1 < ns.length by omega))
  have e : lastH L ns ps * ((ns.getD (ns.length - 1) 0 : Int) : Rat) = (L : Rat) - ps.getD (ns.length - 1) 0 := div_mul (by omega)
  rw [spd_last w hn]
  have := Rat.mul_le_mul_of_nonneg_right c2 (Rat.le_of_lt (cp (show 0 < ns.getD (ns.length - 1) 0 by omega)))
  grind
/-- somebody has come up -/
theorem meet_come (w : Wk D L ns ps) (hn : 0 < ns.length) : (ps.getD (ns.length - 1) 0 + meetM L ns ps * (((spd ns ps).getD (ns.length - 1) 0 : Int) : Rat) = (L : Rat)) ∨
    ∃ j, j + 1 < ns.length ∧ ps.getD j 0 ≠ ps.getD (j + 1) 0 ∧ ps.getD j 0 + meetM L ns ps * (((spd ns ps).getD j 0 : Int) : Rat) = ps.getD (j + 1) 0 + meetM L ns ps * (((spd ns ps).getD (j + 1) 0 : Int) : Rat) := by
  have p0 := w.pace _ (getD_mem (d := 0) (show ns.length - 1 < ns.length by omega))
  unfold meetM
  rcases meetF_or (spd ns ps) ps (lastH L ns ps) (ns.length - 1) with e | ⟨j, hj, hg, e⟩
  · refine .inl ?_
    rw [e, spd_last w hn]
    have e : lastH L ns ps * ((ns.getD (ns.length - 1) 0 : Int) : Rat) = (L : Rat) - ps.getD (ns.length - 1) 0 := div_mul (by omega)
    grind
  · refine .inr ⟨j, by omega, ?_, ?_⟩
    · have := apart w (j := j) (by omega) hg
      grind
    · rw [e]
      have e : cand (spd ns ps) ps j * (((spd ns ps).getD j 0 - (spd ns ps).getD (j + 1) 0 : Int) : Rat) = ps.getD (j + 1) 0 - ps.getD j 0 := div_mul (by omega)
      rw [Rat.intCast_sub] at e
      grind
end

theorem shaped_am (x : Am) : SeqAt.shaped (.tuple [.int x.1, .int x.2]) = true := by
  simp [SeqAt.shaped, PyData.canLay0, PyData.canLayAll0, PyData.depth, PyData.depthAll]
theorem eqv_am (x y : Am) : PyData.eqv (.tuple [.int x.1, .int x.2]) (.tuple [.int y.1, .int y.2]) = decide (x = y) := by
  obtain ⟨a, b⟩ := x
  obtain ⟨c, d⟩ := y
  simp only [PyData.eqv, PyData.eqvAll, Bool.and_true, Prod.mk.injEq]
  by_cases h1 : a = c <;> by_cases h2 : b = d <;> simp [h1, h2]
theorem ne_am {x y : Am} (h : x = y) : (!PyData.eqv (.tuple [.int x.1, .int x.2]) (.tuple [.int y.1, .int y.2])) = false := by rw [eqv_am, decide_eq_true h]; rfl

theorem dpa_ints {K : PySem.W.Frag} {H : Hp} : ∀ ns : List Int, DpAll K H (ns.map V.int) (ns.map PyData.int)
  | [] => .nil
  | n :: ns => .cons (.int n) (dpa_ints ns)
theorem dp_ints {K : PySem.W.Frag} {H : Hp} {a : Addr} {ns : List Int} (h : SqL K H a (ns.map V.int)) : Dp K H (.ref a) (.list (ns.map PyData.int)) := .lst h (dpa_ints ns)
theorem depOk_ints {n : Nat} {ns : List Int} (h : ns.length ≤ 9000) : depOk (n + 1) (.list (ns.map PyData.int)) = true := by
  show (decide ((ns.map PyData.int).length ≤ 9000) && (ns.map PyData.int).all (depOk n)) = true
  rw [List.length_map, decide_eq_true h, Bool.true_and, List.all_map]
  exact List.all_eq_true.mpr fun q _ => by cases n <;> rfl
theorem depOk_amsN {n : Nat} {qs : List Am} (h : qs.length ≤ 9000) : depOk (n + 2) (.list (qs.map amD)) = true := by
  show (decide ((qs.map amD).length ≤ 9000) && (qs.map amD).all (depOk (n + 1))) = true
  rw [List.length_map, decide_eq_true h, Bool.true_and, List.all_map]
  refine List.all_eq_true.mpr fun q _ => ?_
  cases n <;> rfl

theorem ok_p_plus {f : Addr} {fd : FuncData} (F : Fun K "plus" "plus" s_p_plus f fd) (F_p_amount : Fn P w K mg base 2 "amount" ["num", "den"] (sp_p_amount K T)) : FnOk P w K mg base CX0 3 f fd ["one", "other"] (sp_p_plus K T) := by
  refine F.ok sc_p_plus (fun vs H Q E h => ?_) (fun cdv A outer s H vs Q E hr h => ?_)
  · obtain ⟨a, b, x, y, rfl, _⟩ := h
    rfl
  · obtain ⟨a, b, x, y, rfl, ha, hb, ⟨bx, by_⟩, ⟨hx, hy⟩, q⟩ := h
    refine ⟨_, (pss_one (ps_ret (pe_fn F_p_amount (hr.mono (by decide)) (pa_cons (pe_op op_add (pe_op op_mulW (pe_ix ix_tup (pv 0) pe_int (fun _ _ => rfl)) (pe_ix ix_tup (pv 1) pe_int (fun _ _ => rfl))) (pe_op op_mulW (pe_ix ix_tup (pv 1) pe_int (fun _ _ => rfl)) (pe_ix ix_tup (pv 0) pe_int (fun _ _ => rfl)))) (pa_cons (pe_op op_mulW (pe_ix ix_tup (pv 0) pe_int (fun _ _ => rfl)) (pe_ix ix_tup (pv 1) pe_int (fun _ _ => rfl))) pa_nil))))), ?_⟩
    refine ⟨_, rfl, a, _, 0, .int x.1, rfl, rfl, ha, atI_nat (j := 0) rfl, _, rfl, b, _, 1, .int y.2, rfl, rfl, hb, atI_nat (j := 1) rfl, _, _, rfl, rfl, wm bx.1 by_.2, ?_⟩
    refine ⟨_, rfl, b, _, 0, .int y.1, rfl, rfl, hb, atI_nat (j := 0) rfl, _, rfl, a, _, 1, .int x.2, rfl, rfl, ha, atI_nat (j := 1) rfl, _, _, rfl, rfl, wm by_.1 bx.2, _, _, rfl, rfl, ?_⟩
    refine ⟨_, rfl, a, _, 1, .int x.2, rfl, rfl, ha, atI_nat (j := 1) rfl, _, rfl, b, _, 1, .int y.2, rfl, rfl, hb, atI_nat (j := 1) rfl, _, _, rfl, rfl, wm bx.2 by_.2, ?_⟩
    exact ⟨_, _, rfl, Int.mul_ne_zero (by omega) (by omega), wl bx.2 by_.2, q⟩

theorem ok_p_below {f : Addr} {fd : FuncData} (F : Fun K "below" "below" s_p_below f fd) : FnOk P w K mg base CX0 1 f fd ["one", "other"] (sp_p_below K T) := by
  refine F.ok sc_p_below (fun vs H Q E h => ?_) (fun cdv A outer s H vs Q E hr h => ?_)
  · obtain ⟨a, b, x, y, rfl, _⟩ := h
    rfl
  · obtain ⟨a, b, x, y, rfl, ha, hb, ⟨bx, by_⟩, q⟩ := h
    refine ⟨_, (pss_one (ps_ret (pe_cmpR op_lt (pe_op op_mulW (pe_ix ix_tup (pv 0) pe_int (fun _ _ => rfl)) (pe_ix ix_tup (pv 1) pe_int (fun _ _ => rfl))) (pe_op op_mulW (pe_ix ix_tup (pv 1) pe_int (fun _ _ => rfl)) (pe_ix ix_tup (pv 0) pe_int (fun _ _ => rfl))) (nomark _)))), ?_⟩
    refine ⟨_, rfl, a, _, 0, .int x.1, rfl, rfl, ha, atI_nat (j := 0) rfl, _, rfl, b, _, 1, .int y.2, rfl, rfl, hb, atI_nat (j := 1) rfl, _, _, rfl, rfl, wm bx.1 by_.2, ?_⟩
    exact ⟨_, rfl, b, _, 0, .int y.1, rfl, rfl, hb, atI_nat (j := 0) rfl, _, rfl, a, _, 1, .int x.2, rfl, rfl, ha, atI_nat (j := 1) rfl, _, _, rfl, rfl, wm by_.1 bx.2, _, _, rfl, rfl, q⟩

theorem ok_PailError {f : Addr} {fd : FuncData} (F : Fun K "__init__" "PailError.__init__" s_p_PailError___init__ f fd) (mV : mg "ValueError" = none) (vV : PySem.W.findCls K (.type "ValueError") (.type "type") "__init__" = some (.val (.builtin "ValueError.__init__"))) :
    FnOk P w K mg base CX0 1 f fd ["self", "word"] (spInit2 K) := by
  refine F.ok sc_p_PailError___init__ (fun vs H Q E h => ?_) (fun cdv A outer s H vs Q E hr h => ?_)
  · obtain ⟨a, C, w, rfl, _⟩ := h
    rfl
  · obtain ⟨a, C, w, rfl, oc, nw, ea, q⟩ := h
    refine ⟨_, (pss_cons (ps_expr (pe_veinit (by rfl) mV vV (pa_cons (pv 0) (pa_cons (pv 1) pa_nil))))
      (pss_one (ps_ost (pv 0) (pv 1)))), ?_⟩
    refine ⟨_, rfl, _, rfl, a, C, [.str w], rfl, by show 1 ≤ 1000; decide, oc, ea, ?_⟩
    exact ⟨_, rfl, _, rfl, a, C, rfl, oc, nw, .inl ⟨ea, fun dx n ne => q dx n ne⟩⟩
theorem ok_BadWay {f fP CP : Addr} {fd fdP : FuncData} {mc : Value} (F : Fun K "__init__" "BadWay.__init__" s_p_BadWay___init__ f fd) (cr : ClX.CRead K CP mc) (hat : PySem.W.findCls K (.ref CP) mc "__init__" = some (.val (.ref fP))) (FP : FnOk P w K mg base CX0 1 fP fdP ["self", "word"] (spInit2 K))
    (gP : mg "PailError" = some (.ref CP)) (kP : PySem.W.keepIn K (.ref fP) = true) (bP : Binds K fdP ["self", "word"] []) : FnOk P w K mg base CX0 2 f fd ["self"] (spInit "bad way" K) := by
  refine F.ok sc_p_BadWay___init__ (fun vs H Q E h => ?_) (fun cdv A outer s H vs Q E hr h => ?_)
  · obtain ⟨a, C, rfl, _⟩ := h
    rfl
  · obtain ⟨a, C, rfl, oc, nw, ea, q⟩ := h
    refine ⟨_, (pss_one (ps_expr (pe_clsfn cr hat FP hr (by rfl) gP kP bP (pa_cons (pv 0) (pa_cons pe_str pa_nil))))), ?_⟩
    exact ⟨_, rfl, a, C, "bad way", rfl, oc, nw, ea, q⟩
theorem ok_BadName {f fP CP : Addr} {fd fdP : FuncData} {mc : Value} (F : Fun K "__init__" "BadName.__init__" s_p_BadName___init__ f fd) (cr : ClX.CRead K CP mc) (hat : PySem.W.findCls K (.ref CP) mc "__init__" = some (.val (.ref fP))) (FP : FnOk P w K mg base CX0 1 fP fdP ["self", "word"] (spInit2 K))
    (gP : mg "PailError" = some (.ref CP)) (kP : PySem.W.keepIn K (.ref fP) = true) (bP : Binds K fdP ["self", "word"] []) : FnOk P w K mg base CX0 2 f fd ["self"] (spInit "bad name" K) := by
  refine F.ok sc_p_BadName___init__ (fun vs H Q E h => ?_) (fun cdv A outer s H vs Q E hr h => ?_)
  · obtain ⟨a, C, rfl, _⟩ := h
    rfl
  · obtain ⟨a, C, rfl, oc, nw, ea, q⟩ := h
    refine ⟨_, (pss_one (ps_expr (pe_clsfn cr hat FP hr (by rfl) gP kP bP (pa_cons (pv 0) (pa_cons pe_str pa_nil))))), ?_⟩
    exact ⟨_, rfl, a, C, "bad name", rfl, oc, nw, ea, q⟩
theorem ok_Taken {f fP CP : Addr} {fd fdP : FuncData} {mc : Value} (F : Fun K "__init__" "Taken.__init__" s_p_Taken___init__ f fd) (cr : ClX.CRead K CP mc) (hat : PySem.W.findCls K (.ref CP) mc "__init__" = some (.val (.ref fP))) (FP : FnOk P w K mg base CX0 1 fP fdP ["self", "word"] (spInit2 K))
    (gP : mg "PailError" = some (.ref CP)) (kP : PySem.W.keepIn K (.ref fP) = true) (bP : Binds K fdP ["self", "word"] []) : FnOk P w K mg base CX0 2 f fd ["self"] (spInit "taken" K) := by
  refine F.ok sc_p_Taken___init__ (fun vs H Q E h => ?_) (fun cdv A outer s H vs Q E hr h => ?_)
  · obtain ⟨a, C, rfl, _⟩ := h
    rfl
  · obtain ⟨a, C, rfl, oc, nw, ea, q⟩ := h
    refine ⟨_, (pss_one (ps_expr (pe_clsfn cr hat FP hr (by rfl) gP kP bP (pa_cons (pv 0) (pa_cons pe_str pa_nil))))), ?_⟩
    exact ⟨_, rfl, a, C, "taken", rfl, oc, nw, ea, q⟩
theorem ok_BadPace {f fP CP : Addr} {fd fdP : FuncData} {mc : Value} (F : Fun K "__init__" "BadPace.__init__" s_p_BadPace___init__ f fd) (cr : ClX.CRead K CP mc) (hat : PySem.W.findCls K (.ref CP) mc "__init__" = some (.val (.ref fP))) (FP : FnOk P w K mg base CX0 1 fP fdP ["self", "word"] (spInit2 K))
    (gP : mg "PailError" = some (.ref CP)) (kP : PySem.W.keepIn K (.ref fP) = true) (bP : Binds K fdP ["self", "word"] []) : FnOk P w K mg base CX0 2 f fd ["self"] (spInit "bad pace" K) := by
  refine F.ok sc_p_BadPace___init__ (fun vs H Q E h => ?_) (fun cdv A outer s H vs Q E hr h => ?_)
  · obtain ⟨a, C, rfl, _⟩ := h
    rfl
  · obtain ⟨a, C, rfl, oc, nw, ea, q⟩ := h
    refine ⟨_, (pss_one (ps_expr (pe_clsfn cr hat FP hr (by rfl) gP kP bP (pa_cons (pv 0) (pa_cons pe_str pa_nil))))), ?_⟩
    exact ⟨_, rfl, a, C, "bad pace", rfl, oc, nw, ea, q⟩
theorem ok_Full {f fP CP : Addr} {fd fdP : FuncData} {mc : Value} (F : Fun K "__init__" "Full.__init__" s_p_Full___init__ f fd) (cr : ClX.CRead K CP mc) (hat : PySem.W.findCls K (.ref CP) mc "__init__" = some (.val (.ref fP))) (FP : FnOk P w K mg base CX0 1 fP fdP ["self", "word"] (spInit2 K))
    (gP : mg "PailError" = some (.ref CP)) (kP : PySem.W.keepIn K (.ref fP) = true) (bP : Binds K fdP ["self", "word"] []) : FnOk P w K mg base CX0 2 f fd ["self"] (spInit "full" K) := by
  refine F.ok sc_p_Full___init__ (fun vs H Q E h => ?_) (fun cdv A outer s H vs Q E hr h => ?_)
  · obtain ⟨a, C, rfl, _⟩ := h
    rfl
  · obtain ⟨a, C, rfl, oc, nw, ea, q⟩ := h
    refine ⟨_, (pss_one (ps_expr (pe_clsfn cr hat FP hr (by rfl) gP kP bP (pa_cons (pv 0) (pa_cons pe_str pa_nil))))), ?_⟩
    exact ⟨_, rfl, a, C, "full", rfl, oc, nw, ea, q⟩
theorem ok_NoHand {f fP CP : Addr} {fd fdP : FuncData} {mc : Value} (F : Fun K "__init__" "NoHand.__init__" s_p_NoHand___init__ f fd) (cr : ClX.CRead K CP mc) (hat : PySem.W.findCls K (.ref CP) mc "__init__" = some (.val (.ref fP))) (FP : FnOk P w K mg base CX0 1 fP fdP ["self", "word"] (spInit2 K))
    (gP : mg "PailError" = some (.ref CP)) (kP : PySem.W.keepIn K (.ref fP) = true) (bP : Binds K fdP ["self", "word"] []) : FnOk P w K mg base CX0 2 f fd ["self"] (spInit "no hand" K) := by
  refine F.ok sc_p_NoHand___init__ (fun vs H Q E h => ?_) (fun cdv A outer s H vs Q E hr h => ?_)
  · obtain ⟨a, C, rfl, _⟩ := h
    rfl
  · obtain ⟨a, C, rfl, oc, nw, ea, q⟩ := h
    refine ⟨_, (pss_one (ps_expr (pe_clsfn cr hat FP hr (by rfl) gP kP bP (pa_cons (pv 0) (pa_cons pe_str pa_nil))))), ?_⟩
    exact ⟨_, rfl, a, C, "no hand", rfl, oc, nw, ea, q⟩
theorem ok_Called {f fP CP : Addr} {fd fdP : FuncData} {mc : Value} (F : Fun K "__init__" "Called.__init__" s_p_Called___init__ f fd) (cr : ClX.CRead K CP mc) (hat : PySem.W.findCls K (.ref CP) mc "__init__" = some (.val (.ref fP))) (FP : FnOk P w K mg base CX0 1 fP fdP ["self", "word"] (spInit2 K))
    (gP : mg "PailError" = some (.ref CP)) (kP : PySem.W.keepIn K (.ref fP) = true) (bP : Binds K fdP ["self", "word"] []) : FnOk P w K mg base CX0 2 f fd ["self"] (spInit "called" K) := by
  refine F.ok sc_p_Called___init__ (fun vs H Q E h => ?_) (fun cdv A outer s H vs Q E hr h => ?_)
  · obtain ⟨a, C, rfl, _⟩ := h
    rfl
  · obtain ⟨a, C, rfl, oc, nw, ea, q⟩ := h
    refine ⟨_, (pss_one (ps_expr (pe_clsfn cr hat FP hr (by rfl) gP kP bP (pa_cons (pv 0) (pa_cons pe_str pa_nil))))), ?_⟩
    exact ⟨_, rfl, a, C, "called", rfl, oc, nw, ea, q⟩
theorem ok_NotCalled {f fP CP : Addr} {fd fdP : FuncData} {mc : Value} (F : Fun K "__init__" "NotCalled.__init__" s_p_NotCalled___init__ f fd) (cr : ClX.CRead K CP mc) (hat : PySem.W.findCls K (.ref CP) mc "__init__" = some (.val (.ref fP))) (FP : FnOk P w K mg base CX0 1 fP fdP ["self", "word"] (spInit2 K))
    (gP : mg "PailError" = some (.ref CP)) (kP : PySem.W.keepIn K (.ref fP) = true) (bP : Binds K fdP ["self", "word"] []) : FnOk P w K mg base CX0 2 f fd ["self"] (spInit "not called" K) := by
  refine F.ok sc_p_NotCalled___init__ (fun vs H Q E h => ?_) (fun cdv A outer s H vs Q E hr h => ?_)
  · obtain ⟨a, C, rfl, _⟩ := h
    rfl
  · obtain ⟨a, C, rfl, oc, nw, ea, q⟩ := h
    refine ⟨_, (pss_one (ps_expr (pe_clsfn cr hat FP hr (by rfl) gP kP bP (pa_cons (pv 0) (pa_cons pe_str pa_nil))))), ?_⟩
    exact ⟨_, rfl, a, C, "not called", rfl, oc, nw, ea, q⟩
theorem ok_NoNext {f fP CP : Addr} {fd fdP : FuncData} {mc : Value} (F : Fun K "__init__" "NoNext.__init__" s_p_NoNext___init__ f fd) (cr : ClX.CRead K CP mc) (hat : PySem.W.findCls K (.ref CP) mc "__init__" = some (.val (.ref fP))) (FP : FnOk P w K mg base CX0 1 fP fdP ["self", "word"] (spInit2 K))
    (gP : mg "PailError" = some (.ref CP)) (kP : PySem.W.keepIn K (.ref fP) = true) (bP : Binds K fdP ["self", "word"] []) : FnOk P w K mg base CX0 2 f fd ["self"] (spInit "no next" K) := by
  refine F.ok sc_p_NoNext___init__ (fun vs H Q E h => ?_) (fun cdv A outer s H vs Q E hr h => ?_)
  · obtain ⟨a, C, rfl, _⟩ := h
    rfl
  · obtain ⟨a, C, rfl, oc, nw, ea, q⟩ := h
    refine ⟨_, (pss_one (ps_expr (pe_clsfn cr hat FP hr (by rfl) gP kP bP (pa_cons (pv 0) (pa_cons pe_str pa_nil))))), ?_⟩
    exact ⟨_, rfl, a, C, "no next", rfl, oc, nw, ea, q⟩
theorem ok_Busy {f fP CP : Addr} {fd fdP : FuncData} {mc : Value} (F : Fun K "__init__" "Busy.__init__" s_p_Busy___init__ f fd) (cr : ClX.CRead K CP mc) (hat : PySem.W.findCls K (.ref CP) mc "__init__" = some (.val (.ref fP))) (FP : FnOk P w K mg base CX0 1 fP fdP ["self", "word"] (spInit2 K))
    (gP : mg "PailError" = some (.ref CP)) (kP : PySem.W.keepIn K (.ref fP) = true) (bP : Binds K fdP ["self", "word"] []) : FnOk P w K mg base CX0 2 f fd ["self"] (spInit "busy" K) := by
  refine F.ok sc_p_Busy___init__ (fun vs H Q E h => ?_) (fun cdv A outer s H vs Q E hr h => ?_)
  · obtain ⟨a, C, rfl, _⟩ := h
    rfl
  · obtain ⟨a, C, rfl, oc, nw, ea, q⟩ := h
    refine ⟨_, (pss_one (ps_expr (pe_clsfn cr hat FP hr (by rfl) gP kP bP (pa_cons (pv 0) (pa_cons pe_str pa_nil))))), ?_⟩
    exact ⟨_, rfl, a, C, "busy", rfl, oc, nw, ea, q⟩
theorem ok_Idle {f fP CP : Addr} {fd fdP : FuncData} {mc : Value} (F : Fun K "__init__" "Idle.__init__" s_p_Idle___init__ f fd) (cr : ClX.CRead K CP mc) (hat : PySem.W.findCls K (.ref CP) mc "__init__" = some (.val (.ref fP))) (FP : FnOk P w K mg base CX0 1 fP fdP ["self", "word"] (spInit2 K))
    (gP : mg "PailError" = some (.ref CP)) (kP : PySem.W.keepIn K (.ref fP) = true) (bP : Binds K fdP ["self", "word"] []) : FnOk P w K mg base CX0 2 f fd ["self"] (spInit "idle" K) := by
  refine F.ok sc_p_Idle___init__ (fun vs H Q E h => ?_) (fun cdv A outer s H vs Q E hr h => ?_)
  · obtain ⟨a, C, rfl, _⟩ := h
    rfl
  · obtain ⟨a, C, rfl, oc, nw, ea, q⟩ := h
    refine ⟨_, (pss_one (ps_expr (pe_clsfn cr hat FP hr (by rfl) gP kP bP (pa_cons (pv 0) (pa_cons pe_str pa_nil))))), ?_⟩
    exact ⟨_, rfl, a, C, "idle", rfl, oc, nw, ea, q⟩
theorem ok_NoChain {f fP CP : Addr} {fd fdP : FuncData} {mc : Value} (F : Fun K "__init__" "NoChain.__init__" s_p_NoChain___init__ f fd) (cr : ClX.CRead K CP mc) (hat : PySem.W.findCls K (.ref CP) mc "__init__" = some (.val (.ref fP))) (FP : FnOk P w K mg base CX0 1 fP fdP ["self", "word"] (spInit2 K))
    (gP : mg "PailError" = some (.ref CP)) (kP : PySem.W.keepIn K (.ref fP) = true) (bP : Binds K fdP ["self", "word"] []) : FnOk P w K mg base CX0 2 f fd ["self"] (spInit "no chain" K) := by
  refine F.ok sc_p_NoChain___init__ (fun vs H Q E h => ?_) (fun cdv A outer s H vs Q E hr h => ?_)
  · obtain ⟨a, C, rfl, _⟩ := h
    rfl
  · obtain ⟨a, C, rfl, oc, nw, ea, q⟩ := h
    refine ⟨_, (pss_one (ps_expr (pe_clsfn cr hat FP hr (by rfl) gP kP bP (pa_cons (pv 0) (pa_cons pe_str pa_nil))))), ?_⟩
    exact ⟨_, rfl, a, C, "no chain", rfl, oc, nw, ea, q⟩
theorem ok_TooLong {f fP CP : Addr} {fd fdP : FuncData} {mc : Value} (F : Fun K "__init__" "TooLong.__init__" s_p_TooLong___init__ f fd) (cr : ClX.CRead K CP mc) (hat : PySem.W.findCls K (.ref CP) mc "__init__" = some (.val (.ref fP))) (FP : FnOk P w K mg base CX0 1 fP fdP ["self", "word"] (spInit2 K))
    (gP : mg "PailError" = some (.ref CP)) (kP : PySem.W.keepIn K (.ref fP) = true) (bP : Binds K fdP ["self", "word"] []) : FnOk P w K mg base CX0 2 f fd ["self"] (spInit "too long" K) := by
  refine F.ok sc_p_TooLong___init__ (fun vs H Q E h => ?_) (fun cdv A outer s H vs Q E hr h => ?_)
  · obtain ⟨a, C, rfl, _⟩ := h
    rfl
  · obtain ⟨a, C, rfl, oc, nw, ea, q⟩ := h
    refine ⟨_, (pss_one (ps_expr (pe_clsfn cr hat FP hr (by rfl) gP kP bP (pa_cons (pv 0) (pa_cons pe_str pa_nil))))), ?_⟩
    exact ⟨_, rfl, a, C, "too long", rfl, oc, nw, ea, q⟩

theorem Drawn.get : ∀ {ds qs : List Int} {i : Nat} {q : Int}, Drawn ds qs → qs[i]? = some q → ∃ d, ds[i]? = some d ∧ 0 ≤ d ∧ d < q
  | [], [], i, q, _, e => by simp at e
  | [], _ :: _, _, _, h, _ => h.elim
  | _ :: _, [], _, _, h, _ => h.elim
  | d :: _, _ :: _, 0, q, h, e => by
    obtain rfl := Option.some.inj e
    exact ⟨d, rfl, h.1.1, h.1.2⟩
  | _ :: ds, _ :: qs, i + 1, q, h, e => Drawn.get (ds := ds) (qs := qs) h.2 e
theorem at_map {ds : List Int} {i : Nat} {d z : Int} (hz : z = (i : Int)) (h : ds[i]? = some d) : atI (ds.map V.int) z = some (.int d) := by
  subst hz
  exact at_of (j := i) rfl (by rw [List.getElem?_map, h]; rfl)

theorem am_at {K : PySem.W.Frag} {H : Hp} {us : List V} {ps : List Rat} (hd : DpAll K H us ((ps.map am).map amD)) {i : Nat} (hi : i < ps.length) : ∃ b, us[i]? = some (.ref b) ∧ SqT K H b (tv (am ps[i])) := by
  obtain ⟨v, e1, e2⟩ := dpa_get hd (i := i) (d := amD (am ps[i])) (by rw [List.getElem?_map, List.getElem?_map, List.getElem?_eq_getElem hi]; rfl)
  obtain ⟨b, rfl, hb⟩ := pd_at e2
  exact ⟨b, e1, hb⟩

theorem bd_int {k : Int} (h : k.natAbs < 2 ^ 3900) : Bd 4000 ((k, 1) : Am) := ⟨Nat.lt_trans h (Nat.pow_lt_pow_right (by decide) (by decide)), by show (1 : Int).natAbs < 2 ^ 4000; exact Nat.one_lt_two_pow (by decide)⟩
theorem small {k : Int} (h : k.natAbs < 2 ^ 60) : k.natAbs < 2 ^ 3900 := Nat.lt_trans h (Nat.pow_lt_pow_right (by decide) (by decide))
theorem bd_fr {D k : Int} {r : Rat} (hD : 0 < D) (hd : D.natAbs < 2 ^ 3900) (h1 : 1 ≤ k) (h2 : k ≤ 12) (h : Fr (D * k) r) (h3 : -(1000 : Rat) ≤ r) (h4 : r ≤ 1000) : Bd 4000 (am r) := by
  have e : (2 : Nat) ^ 4000 = 2 ^ 100 * 2 ^ 3900 := by rw [← Nat.pow_add]
  have a1 : (D * k).natAbs ≤ 16 * D.natAbs := by rw [Int.natAbs_mul, Nat.mul_comm]; exact Nat.mul_le_mul_right _ (by omega)
  have a2 : (1000 * (D * k)).natAbs ≤ 16000 * D.natAbs := by rw [Int.natAbs_mul]; show 1000 * _ ≤ _; omega
  have a3 : (2 : Nat) ^ 100 * 2 ^ 3900 ≥ 16000 * 2 ^ 3900 := Nat.mul_le_mul_right _ (by decide)
  exact fr_bd (D := D * k) (B := 1000) (Int.mul_pos hD (by omega)) h h3 h4 (by omega) (by omega)
theorem bd_fr1 {D : Int} {r : Rat} (hD : 0 < D) (hd : D.natAbs < 2 ^ 3900) (h : Fr D r) (h3 : -(1000 : Rat) ≤ r) (h4 : r ≤ 1000) : Bd 4000 (am r) :=
  bd_fr (k := 1) hD hd (by decide) (by decide) (by rw [Int.mul_one]; exact h) h3 h4

theorem bdL {D : Int} {r : Rat} (hD : 0 < D) (hd : D.natAbs < 2 ^ 3900) (h : Fr D r) (h3 : 0 ≤ r) (h4 : r ≤ 1000000) : Bd 4000 (am r) := by
  have e : (2 : Nat) ^ 4000 = 2 ^ 100 * 2 ^ 3900 := by rw [← Nat.pow_add]
  have a2 : (1000000 * D).natAbs ≤ 1000000 * D.natAbs := by rw [Int.natAbs_mul]; exact Nat.le_refl _
  have a3 : (2 : Nat) ^ 100 * 2 ^ 3900 ≥ 1000001 * 2 ^ 3900 := Nat.mul_le_mul_right _ (by decide)
  exact fr_bd (D := D) (B := 1000000) hD h (neg_le h3 (by decide)) h4 (by omega) (by omega)
theorem bdX {D : Int} {r : Rat} (hD : 0 < D) (hd : D.natAbs < 2 ^ 3900) (h : Fr D r) (h3 : 0 ≤ r) (h4 : r ≤ 1000000000) : Bd 4000 (am r) := by
  have e : (2 : Nat) ^ 4000 = 2 ^ 100 * 2 ^ 3900 := by rw [← Nat.pow_add]
  have a2 : (1000000000 * D).natAbs ≤ 1000000000 * D.natAbs := by rw [Int.natAbs_mul]; exact Nat.le_refl _
  have a3 : (2 : Nat) ^ 100 * 2 ^ 3900 ≥ 1000000001 * 2 ^ 3900 := Nat.mul_le_mul_right _ (by decide)
  exact fr_bd (D := D) (B := 1000000000) hD h (neg_le h3 (by decide)) h4 (by omega) (by omega)
theorem mul_rng {m L g : Rat} (h0 : 0 ≤ m) (h1 : m ≤ L) (g0 : 1 ≤ g) (g1 : g ≤ 12) : 0 ≤ m * g ∧ m * g ≤ 12 * L := by
  have a := Rat.mul_le_mul_of_nonneg_left g1 h0
  have b := Rat.mul_le_mul_of_nonneg_left g0 h0
  exact ⟨by grind, by grind⟩
theorem mul_rng0 {m L g : Rat} (h0 : 0 ≤ m) (h1 : m ≤ L) (g0 : 0 ≤ g) (g1 : g ≤ 12) : 0 ≤ m * g ∧ m * g ≤ 12 * L := by
  have a := Rat.mul_le_mul_of_nonneg_left g1 h0
  have b := Rat.mul_nonneg h0 g0
  exact ⟨b, by grind⟩
theorem div_nn {a : Rat} {k : Int} (hk : 1 ≤ k) (ha : 0 ≤ a) : 0 ≤ a / (k : Rat) := by
  have e := div_mul (a := a) (show 0 < k by omega)
  by_cases c : a / (k : Rat) < 0
  · have := Rat.mul_lt_mul_of_pos_right c (cp (show 0 < k by omega))
    grind
  · exact Rat.not_lt.mp c
/-- lists of amounts -/
def AmL (K : PySem.W.Frag) (H : Hp) (us : List V) (rs : List Rat) : Prop := DpAll K H us ((rs.map am).map amD)
theorem AmL.len {K : PySem.W.Frag} {H : Hp} {us : List V} {rs : List Rat} (h : AmL K H us rs) : us.length = rs.length := by rw [dpa_len h, List.length_map, List.length_map]
theorem AmL.at {K : PySem.W.Frag} {H : Hp} {us : List V} {rs : List Rat} (h : AmL K H us rs) {i : Nat} (hi : i < rs.length) : ∃ b, us[i]? = some (.ref b) ∧ SqT K H b (tv (am (rs.getD i 0))) := by
  rw [getD_lt hi]
  exact am_at h hi
theorem AmL.keep {T : Tb} {K : PySem.W.Frag} {H H' : Hp} {us : List V} {rs : List Rat} (h : AmL K H us rs) (s : Sm T H H') : AmL K H' us rs := dpa_same s _ _ h
theorem AmL.push {K : PySem.W.Frag} {H : Hp} {us : List V} {rs : List Rat} {D b : Addr} {xs : List V} {o : HO} {r : Rat} (h : AmL K H us rs) (hD : H D = some (.lst xs)) (hb : SqT K H b (tv (am r))) : AmL K (upd H D o) (us ++ [.ref b]) (rs ++ [r]) := by
  unfold AmL
  rw [List.map_append, List.map_append]
  exact dpa_app (pds_mut hD h) (.cons (pd_mut (amD_dp hb) hD) .nil)
theorem AmL.mut {K : PySem.W.Frag} {H : Hp} {us : List V} {rs : List Rat} {D : Addr} {xs : List V} {o : HO} (h : AmL K H us rs) (hD : H D = some (.lst xs)) : AmL K (upd H D o) us rs := pds_mut hD h
theorem AmL.dp {K : PySem.W.Frag} {H : Hp} {us : List V} {rs : List Rat} {a : Addr} (h : AmL K H us rs) (ha : SqL K H a us) : Dp K H (.ref a) (.list ((rs.map am).map amD)) := .lst ha h
theorem take_range {α : Type} {f : Nat → α} {i : Nat} : ((List.range (i + 1)).map f) = (List.range i).map f ++ [f i] := by rw [List.range_succ, List.map_append]; rfl

theorem at_neg1 {α : Type} {xs : List α} {v : α} (h : 0 < xs.length) (e : xs[xs.length - 1]? = some v) : atI xs (-1) = some v := by
  have hne : xs ≠ [] := by intro c; rw [c] at h; exact Nat.lt_irrefl _ h
  obtain ⟨ys, z, rfl⟩ : ∃ ys z, xs = ys ++ [z] := ⟨xs.dropLast, xs.getLast hne, (List.dropLast_concat_getLast hne).symm⟩
  rw [List.length_append, show ys.length + [z].length - 1 = ys.length by simp, List.getElem?_append_right (Nat.le_refl _), Nat.sub_self] at e
  obtain rfl : z = v := Option.some.inj e
  exact atI_last _ _

def sp_l_cell (K : PySem.W.Frag) (T : Tb) : Sp := fun vs H Q _ => ∃ (a : Addr) (ns : List Int) (k : Int), vs = [.ref a, .int k] ∧ SqL K H a (ns.map V.int) ∧ 0 ≤ k ∧ ∀ z : Int, Q (.int z) H
theorem ok_l_cell {f : Addr} {fd : FuncData} (F : Fun K "_law_cell" "_law_cell" s_l_cell f fd) (B : Bn mg) : FnOk P w K mg base CX0 1 f fd ["_law_script", "_law_k"] (sp_l_cell K T) := by
  refine F.ok sc_l_cell (fun vs H Q E h => ?_) (fun cdv A outer s H vs Q E hr h => ?_)
  · obtain ⟨a, ns, k, rfl, _⟩ := h
    rfl
  · obtain ⟨a, ns, k, rfl, hS, hk, q⟩ := h
    refine ⟨_, (pss_cons (ps_if (pt_cmpR op_lt (pv 1) (pe_callB call_len_seq (by rfl) B.len_ (by decide +kernel) (pa_cons (pv 0) pa_nil)) (nomark _)) (pss_one (ps_ret (pe_ix ix_list (pv 0) (pv 1) (fun _ _ => rfl)))) pss_nil)
      (pss_one (ps_ret (pe_op op_add (pe_op op_add (pe_op op_mul (pe_op op_mod (pe_callB (cr_sum rfl) (by rfl) B.sum_ (by decide +kernel) (pa_cons (pv 0) pa_nil)) pe_int) pe_int) (pe_op op_mul (pe_callB call_len_seq (by rfl) B.len_ (by decide +kernel) (pa_cons (pv 0) pa_nil)) pe_int)) (pe_op op_mul (pv 1) pe_int))))), ?_⟩
    refine ⟨_, rfl, _, rfl, a, _, rfl, .inl hS, _, _, rfl, rfl, _, rfl, ite2 (fun e => ?_) (fun e => ?_)⟩
    · have e' : k < ((ns.map V.int).length : Int) := of_decide_eq_true e
      rw [List.length_map] at e'
      obtain ⟨j, rfl⟩ : ∃ j : Nat, k = (j : Int) := ⟨k.toNat, by omega⟩
      have hj : j < ns.length := by omega
      refine ⟨_, rfl, _, rfl, a, _, _, .int ns[j], rfl, rfl, hS, atI_nat (by rw [List.getElem?_map, List.getElem?_eq_getElem hj]; rfl), q _⟩
    · refine ⟨_, rfl, a, ns, rfl, hS, ?_⟩
      refine ⟨_, _, rfl, rfl, (by show (0 : Int) < 1000003; decide), _, _, rfl, rfl, .inr ⟨by decide, by decide⟩, ?_⟩
      refine ⟨_, rfl, a, _, rfl, .inl hS, _, _, rfl, rfl, .inr ⟨by decide, by decide⟩, _, _, rfl, rfl, ?_⟩
      refine ⟨_, rfl, _, _, rfl, rfl, .inr ⟨by decide, by decide⟩, _, _, rfl, rfl, q _⟩

end
/-! ### the head by one kernel run: what is looked at behind the top -/
def hrRef (o : Obj) : List Addr := match o.data with
  | .dict es _ => es.toList.flatMap fun e => He.refV e.val
  | .func fd => He.refV fd.code
  | .cls cd => [cd.ns]
  | _ => []
def hrStep (g : Addr → Option Obj) (as : List Addr) : List Addr := as.flatMap fun a => match g a with
  | some o => hrRef o
  | none => []
def hrAll (g : Addr → Option Obj) : Nat → List Addr → List Addr
  | 0, as => as ++ [cStatics]
  | n + 1, as => as ++ hrAll g n (hrStep g as)
def hrK (g : Addr → Option Obj) : PySem.W.Frag := He.frG g (hrAll g 4 [mainGlobals])
theorem hrK_in {h : Heap} : (hrK h.get?).In h := He.frG_in
/-- an error class -/
def hrErr (K : PySem.W.Frag) (CP C : Addr) : Bool := (match K.lookup C with
  | some ⟨.type t, _, .cls cd, sl⟩ => (match cd.mro, sl.toList with
    | .ref D :: bm, [_, _, _, _, some (.builtin n), _] => decide (t = "type") && (Nat.beq D C && (decide (n = "ValueError.__new__") && ((!cd.hasDel) && (cd.hasDict && PySem.HandSPX.refsVE bm))))
    | _, _ => false)
  | _ => false) && (He.eqO (PySem.W.findIn K (.ref C) "__setattr__") (some (some (.builtin "object.__setattr__"))) && (He.eqO (PySem.W.findIn K (.ref C) "word") (some none) && (xfB K C && (PySem.W.keepIn K (.ref C) &&
    (decide (PySem.W.typeIn K (.ref C) = some (.type "type")) && (decide (PySem.W.subIn K (.ref C) (.ref CP) = some true) && decide (PySem.W.typeIn K (.ref (He.ma K C "__init__")) = some (.type "function"))))))))
theorem hrErr_ok {K : PySem.W.Frag} {CP C : Addr} (h : hrErr K CP C = true) : OexC K C ∧ XfC K C ∧ PySem.W.findIn K (.ref C) "word" = some none ∧ PySem.W.subIn K (.ref C) (.ref CP) = some true ∧ PySem.W.typeIn K (.ref (He.ma K C "__init__")) = some (.type "function") := by
  obtain ⟨h0, h⟩ := He.ba h
  obtain ⟨h1, h⟩ := He.ba h
  obtain ⟨h2, h⟩ := He.ba h
  obtain ⟨h3, h⟩ := He.ba h
  obtain ⟨h4, h⟩ := He.ba h
  obtain ⟨h5, h⟩ := He.ba h
  obtain ⟨h6, h7⟩ := He.ba h
  have X := xfB_ok h3
  refine ⟨⟨?_, He.eqO_ok h1, X.exC, of_decide_eq_true h5, h4⟩, X, He.eqO_ok h2, of_decide_eq_true h6, of_decide_eq_true h7⟩
  cases lk : K.lookup C with
  | none => rw [lk] at h0; cases h0
  | some o =>
    obtain ⟨oc, od, dt, sl⟩ := o
    rw [lk] at h0
    cases oc with
    | type t =>
      cases dt with
      | cls cd =>
        obtain ⟨nm, bs, mro, ns, qn, hd, sn, sub, ab, col, del⟩ := cd
        obtain ⟨sl⟩ := sl
        cases mro with
        | nil => cases h0
        | cons D0 bm =>
          cases D0 with
          | ref D =>
            rcases sl with _ | ⟨k0, _ | ⟨k1, _ | ⟨k2, _ | ⟨k3, _ | ⟨k4, _ | ⟨k5, _ | ⟨k6, sl⟩⟩⟩⟩⟩⟩⟩ <;> try (cases h0; done)
            · cases k4 with
              | none => cases h0
              | some k4 => cases k4 <;> cases h0
            · cases k4 with
              | none => cases h0
              | some k4 =>
                cases k4 with
                | builtin n =>
                  obtain ⟨g1, h0⟩ := He.ba h0
                  obtain ⟨g2, h0⟩ := He.ba h0
                  obtain ⟨g3, h0⟩ := He.ba h0
                  obtain ⟨g4, h0⟩ := He.ba h0
                  obtain ⟨g5, g6⟩ := He.ba h0
                  have q1 := of_decide_eq_true g1
                  have q2 := Nat.eq_of_beq_eq_true g2
                  have q3 := of_decide_eq_true g3
                  have q4 : del = false := by cases del <;> first | rfl | cases g4
                  have q5 : hd = true := g5
                  subst q1 q2 q3 q4 q5
                  exact ⟨nm, qn, ns, bs, bm, sn, sub, ab, col, od, k0, k1, k2, k3, k5, rfl, g6⟩
                | _ => cases h0
            · cases k4 with
              | none => cases h0
              | some k4 => cases k4 <;> cases h0
          | _ => cases h0
      | _ => cases h0
    | _ => cases dt <;> cases h0
/-- the base of the error classes -/
def hrVal (r : Option PySem.W.CFound) (v : Value) : Bool := match r with
  | some (.val u) => decide (u = v)
  | _ => false
theorem hrVal_ok {r : Option PySem.W.CFound} {v : Value} (h : hrVal r v = true) : r = some (.val v) := by
  cases r with
  | none => cases h
  | some c =>
    cases c with
    | val u => rw [of_decide_eq_true (show decide (u = v) = true from h)]
    | get _ _ _ _ => cases h
def hrBase (K : PySem.W.Frag) (C : Addr) : Bool := PySem.W.readsIn K C (.type "type") && (He.eqO (PySem.W.specialIn K (.ref C) "__getattribute__") (some (some (.builtin "type.__getattribute__"))) && (hrVal (PySem.W.findCls K (.ref C) (.type "type") "__init__") (.ref (He.ma K C "__init__")) &&
  (decide (PySem.W.subIn K (.ref C) (.type "BaseException") = some true) && (PySem.W.isClsIn K C && (decide (PySem.W.typeIn K (.ref C) = some (.type "type")) && hrVal (PySem.W.findCls K (.type "ValueError") (.type "type") "__init__") (.builtin "ValueError.__init__"))))))
theorem hrBase_ok {K : PySem.W.Frag} {C : Addr} (h : hrBase K C = true) : PySem.W.readsIn K C (.type "type") = true ∧ PySem.W.specialIn K (.ref C) "__getattribute__" = some (some (.builtin "type.__getattribute__")) ∧ PySem.W.findCls K (.ref C) (.type "type") "__init__" = some (.val (.ref (He.ma K C "__init__"))) ∧
    PySem.W.subIn K (.ref C) (.type "BaseException") = some true ∧ PySem.W.isClsIn K C = true ∧ PySem.W.typeIn K (.ref C) = some (.type "type") ∧ PySem.W.findCls K (.type "ValueError") (.type "type") "__init__" = some (.val (.builtin "ValueError.__init__")) := by
  obtain ⟨h1, h⟩ := He.ba h
  obtain ⟨h2, h⟩ := He.ba h
  obtain ⟨h3, h⟩ := He.ba h
  obtain ⟨h4, h⟩ := He.ba h
  obtain ⟨h5, h⟩ := He.ba h
  obtain ⟨h6, h7⟩ := He.ba h
  exact ⟨h1, He.eqO_ok h2, hrVal_ok h3, of_decide_eq_true h4, h5, of_decide_eq_true h6, hrVal_ok h7⟩
/-- what isinstance asks of an own class -/
def hrIs (K : PySem.W.Frag) (C : Addr) : Bool := He.eqO (PySem.W.findIn K (.ref C) "__class__") (some (some (.builtin "object.__class__"))) && (He.eqO (PySem.W.specialIn K (.builtin "object.__class__") "__get__") (some (some (.builtin "getset_descriptor.__get__"))) &&
  (decide (PySem.W.takesIn K (.builtin "object.__class__") = some true) && (decide (PySem.W.mroIn K C (.type "object") = some true) && decide (PySem.W.kitOne K (.ref C) (.ref C) = some true))))
theorem hrIs_ok {K : PySem.W.Frag} {C : Addr} (cl : Cls K C) (h : hrIs K C = true) : C8.InsC K C := by
  obtain ⟨h1, h⟩ := He.ba h
  obtain ⟨h2, h⟩ := He.ba h
  obtain ⟨h3, h⟩ := He.ba h
  obtain ⟨h4, h5⟩ := He.ba h
  exact ⟨cl, He.eqO_ok h1, He.eqO_ok h2, of_decide_eq_true h3, of_decide_eq_true h4, of_decide_eq_true h5⟩
/-- one fact more, of K -/
inductive Hx where
  | fa (f : He.Fa)
  | err (p x : Str)
  | base (p : Str)
  | tup (x : Str) (vs : List He.Dv)
  | nod (tf : List He.Defn)
  | isc (x : Str)
  | kdt (x : Str) (kvs : List (Str × List Str))
  | kdf (x : Str) (kvs : List (Str × Str))
/-- a dict of the module: at each key a tuple of texts -/
def hrTupS (K : PySem.W.Frag) (a : Addr) (vs : List Str) : Bool := match K.lookup a with
  | some ⟨.type c, _, .seq its _, _⟩ => decide (c = "tuple") && (decide (its.size ≤ sizeLine) && He.relAll (vs.map V.str) its.toList)
  | _ => false
theorem hrTupS_ok {K : PySem.W.Frag} {a : Addr} {vs : List Str} (h : hrTupS K a vs = true) (H : Hp) : SqT K H a (vs.map V.str) := by
  unfold hrTupS at h
  cases q : K.lookup a with
  | none => rw [q] at h; cases h
  | some o =>
    obtain ⟨oc, od, dt, osl⟩ := o
    rw [q] at h
    cases oc with
    | type c =>
      cases dt with
      | seq its n =>
        obtain ⟨h1, h2⟩ := He.ba (show (decide (c = "tuple") && (decide (its.size ≤ sizeLine) && He.relAll (vs.map V.str) its.toList)) = true from h)
        obtain ⟨h3, h4⟩ := He.ba h2
        exact .inr ⟨_, its, n, q, congrArg Value.type (of_decide_eq_true h1), rfl, of_decide_eq_true h3, He.relAll_ok h4⟩
      | _ => cases h
    | _ => cases dt <;> cases h
def hrKd (K : PySem.W.Frag) (x : Str) (kvs : List (Str × List Str)) : Bool := kvs.all fun q => match PySem.W.nsIn K (He.ga K x) q.1 with
  | some (some (.ref t)) => hrTupS K t q.2
  | _ => false
theorem hrKd_ok {K : PySem.W.Frag} {x : Str} {kvs : List (Str × List Str)} (h : hrKd K x kvs = true) : ∀ q ∈ kvs, ∃ t, PySem.W.nsIn K (He.ga K x) q.1 = some (some (.ref t)) ∧ ∀ H, SqT K H t (q.2.map V.str) := fun q hq => by
  have h2 := List.all_eq_true.mp h q hq
  cases e : PySem.W.nsIn K (He.ga K x) q.1 with
  | none => rw [e] at h2; cases h2
  | some r =>
    rw [e] at h2
    cases r with
    | none => cases h2
    | some u =>
      cases u with
      | ref t => exact ⟨t, rfl, hrTupS_ok h2⟩
      | _ => cases h2
/-- a dict of the module: at each key a def of the module -/
def hrKdf (K : PySem.W.Frag) (x : Str) (kvs : List (Str × Str)) : Bool := kvs.all fun q => match PySem.W.nsIn K (He.ga K x) q.1 with
  | some (some (.ref t)) => Nat.beq t (He.ga K q.2)
  | _ => false
theorem hrKdf_ok {K : PySem.W.Frag} {x : Str} {kvs : List (Str × Str)} (h : hrKdf K x kvs = true) : ∀ q ∈ kvs, PySem.W.nsIn K (He.ga K x) q.1 = some (some (.ref (He.ga K q.2))) := fun q hq => by
  have h2 := List.all_eq_true.mp h q hq
  cases e : PySem.W.nsIn K (He.ga K x) q.1 with
  | none => rw [e] at h2; cases h2
  | some r =>
    rw [e] at h2
    cases r with
    | none => cases h2
    | some u =>
      cases u with
      | ref t => rw [Nat.eq_of_beq_eq_true h2]
      | _ => cases h2
def hrNod : List Addr → Bool
  | [] => true
  | a :: r => (r.all fun b => !Nat.beq a b) && hrNod r
theorem hrNod_ok : ∀ {l : List Addr}, hrNod l = true → l.Nodup
  | [], _ => List.nodup_nil
  | a :: r, h => by
    obtain ⟨h1, h2⟩ := He.ba (show ((r.all fun b => !Nat.beq a b) && hrNod r) = true from h)
    refine List.nodup_cons.mpr ⟨fun hm => ?_, hrNod_ok h2⟩
    have z := List.all_eq_true.mp h1 a hm
    rw [Nat.beq_refl] at z
    cases z
def Hx.ok (K : PySem.W.Frag) : Hx → Bool
  | .fa f => f.ok K
  | .err p x => hrErr K (He.ga K p) (He.ga K x)
  | .base p => hrBase K (He.ga K p)
  | .tup x vs => He.tupB K x vs
  | .nod tf => hrNod (tf.map fun p => (He.cT K p).2)
  | .isc x => hrIs K (He.ga K x)
  | .kdt x kvs => hrKd K x kvs
  | .kdf x kvs => hrKdf K x kvs
def hrDef (K : PySem.W.Frag) (d : He.FnD) : Bool := (He.Fa.code d.at_ d.qual).ok K && PySem.W.keepIn K (.ref (He.fAd K d.at_))
def hrTab (g : Addr → Option Obj) (K : PySem.W.Frag) (p : He.Defn) : Bool := PySem.W.codeHdIn K (He.cT K p).1 (He.cT K p).2 && ((K.lookup (He.cT K p).2).isNone && match g (He.cT K p).2 with
  | some o => He.emptyTab o
  | none => false)
abbrev HrAl : Type := Bool × List He.FnV × List (Option (List (Option (Str × Int))))
def hrObs (fx : List Hx) (fn : List He.FnD) (tf : List He.Defn) (ts : List (Str × List Str)) (g : Addr → Option Obj) (K : PySem.W.Frag) : HrAl := ((fx.all fun f => f.ok K) && ((fn.all fun d => hrDef K d) && tf.all fun p => hrTab g K p), fn.map (fun d => He.fnObs K d.at_), ts.map fun t => He.dicW K (He.ga K t.1))
def hrVals (fn : List He.FnD) (ts : List (Str × List Str)) (w : World) : HrAl := (true, fn.map He.FnD.val, ts.map fun t => some (He.keysIn w.params t.2))
/-- what the end leans on -/
structure HrSays (fx : List Hx) (fn : List He.FnD) (tf : List He.Defn) (ts : List (Str × List Str)) (w : World) (h : Heap) (K : PySem.W.Frag) : Prop where
  fx : ∀ f ∈ fx, f.ok K = true
  df : ∀ d ∈ fn, hrDef K d = true
  vs : fn.map (fun d => He.fnObs K d.at_) = fn.map He.FnD.val
  tb : ts.map (fun t => He.dicW K (He.ga K t.1)) = ts.map fun t => some (He.keysIn w.params t.2)
  hd : ∀ p ∈ tf, PySem.W.codeHdIn K (He.cT K p).1 (He.cT K p).2 = true
  out : ∀ p ∈ tf, K.lookup (He.cT K p).2 = none
  emp : ∀ p ∈ tf, h.get? (He.cT K p).2 = some { cls := .none, data := .fields #[] }
theorem hrSays_of {fx : List Hx} {fn : List He.FnD} {tf : List He.Defn} {ts : List (Str × List Str)} {w : World} {h : Heap} {K : PySem.W.Frag} (e : hrObs fx fn tf ts h.get? K = hrVals fn ts w) : HrSays fx fn tf ts w h K := by
  have e1 : ((fx.all fun f => f.ok K) && ((fn.all fun d => hrDef K d) && tf.all fun p => hrTab h.get? K p)) = true := congrArg (fun z : HrAl => z.1) e
  obtain ⟨a1, a2⟩ := He.ba e1
  obtain ⟨a2, a3⟩ := He.ba a2
  have key : ∀ p ∈ tf, PySem.W.codeHdIn K (He.cT K p).1 (He.cT K p).2 = true ∧ K.lookup (He.cT K p).2 = none ∧ h.get? (He.cT K p).2 = some { cls := .none, data := .fields #[] } := fun p hp => by
    obtain ⟨b1, b2⟩ := He.ba (List.all_eq_true.mp a3 p hp)
    obtain ⟨b2, b3⟩ := He.ba b2
    refine ⟨b1, Option.isNone_iff_eq_none.mp b2, ?_⟩
    cases q : h.get? (He.cT K p).2 with
    | none => rw [q] at b3; cases b3
    | some o => rw [q] at b3; rw [He.emptyTab_eq b3]
  exact ⟨fun f hf => List.all_eq_true.mp a1 f hf, fun d hd => List.all_eq_true.mp a2 d hd, congrArg (fun z : HrAl => z.2.1) e, congrArg (fun z : HrAl => z.2.2) e, fun p hp => (key p hp).1, fun p hp => (key p hp).2.1, fun p hp => (key p hp).2.2⟩
def hrHook (fx : List Hx) (fn : List He.FnD) (tf : List He.Defn) (ts : List (Str × List Str)) : PySem.W.Hook where
  α := HrAl
  obs := fun s => hrObs fx fn tf ts s.heap.get? (hrK s.heap.get?)
  val := fun w => hrVals fn ts w
  says := fun w h => ∃ K : PySem.W.Frag, K.In h ∧ HrSays fx fn tf ts w h K
  of := fun _ _ e => ⟨_, hrK_in, hrSays_of e⟩
  keeps := fun _ _ _ ⟨K, hK, c⟩ k => ⟨K, PySem.W.Frag.In.keeps hK k, ⟨c.fx, c.df, c.vs, c.tb, c.hd, c.out, fun p hp => k _ _ (c.emp p hp)⟩⟩
def hrOb (fx : List Hx) (fn : List He.FnD) (tf : List He.Defn) (ts : List (Str × List Str)) (s : PySem.W.SharedT) : HrAl := hrObs fx fn tf ts (HandSHeadRun.getT s) (hrK (HandSHeadRun.getT s))
theorem hrOb_eq {fx : List Hx} {fn : List He.FnD} {tf : List He.Defn} {ts : List (Str × List Str)} (s : PySem.W.SharedT) : hrOb fx fn tf ts s = (hrHook fx fn tf ts).obs s.abs := by
  have e : HandSHeadRun.getT s = s.abs.heap.get? := funext (HandSHeadRun.getT_eq s)
  show hrObs fx fn tf ts (HandSHeadRun.getT s) (hrK (HandSHeadRun.getT s)) = hrObs fx fn tf ts s.abs.heap.get? (hrK s.abs.heap.get?)
  rw [e]
theorem HrSays.tab {fx : List Hx} {fn : List He.FnD} {tf : List He.Defn} {ts : List (Str × List Str)} {w : World} {h : Heap} {K : PySem.W.Frag} (c : HrSays fx fn tf ts w h K) (i : Nat) {x : Str} {ks : List Str} (e : ts[i]? = some (x, ks)) : ∃ es n, KDict K w (He.ga K x) es n := by
  have e2 : (ts.map fun t => He.dicW K (He.ga K t.1))[i]? = (ts.map fun t => some (He.keysIn w.params t.2))[i]? := by rw [c.tb]
  rw [List.getElem?_map, List.getElem?_map, e] at e2
  exact He.dicW_ok (Option.some.inj e2)
section
variable {fx : List Hx} {fn : List He.FnD} {tf : List He.Defn} {ts : List (Str × List Str)} {w : World} {h : Heap} {K : PySem.W.Frag}
theorem HrSays.f (c : HrSays fx fn tf ts w h K) (i : Nat) {f : Hx} (e : fx[i]? = some f) : f.ok K = true := c.fx f (List.mem_of_getElem? e)
theorem HrSays.g (c : HrSays fx fn tf ts w h K) (i : Nat) {f : He.Fa} (e : fx[i]? = some (.fa f)) : f.ok K = true := c.fx (.fa f) (List.mem_of_getElem? e)
theorem HrSays.d (c : HrSays fx fn tf ts w h K) (i : Nat) {d : He.FnD} (e : fn[i]? = some d) :
    (∃ oc od osl kV doc pm an cdv ct, K.lookup (He.fAd K d.at_) = some ⟨oc, od, .func (PySem.W.fnOf d.name d.qual d.params d.body d.scope .none kV doc pm an cdv ct), osl⟩ ∧ PySem.W.codeIn K cdv d.qual = true) ∧ PySem.W.keepIn K (.ref (He.fAd K d.at_)) = true := by
  obtain ⟨c1, c2⟩ := He.ba (c.df d (List.mem_of_getElem? e))
  have e2 : (fn.map fun d => He.fnObs K d.at_)[i]? = (fn.map He.FnD.val)[i]? := by rw [c.vs]
  rw [List.getElem?_map, List.getElem?_map, e] at e2
  exact ⟨He.fn_ok (Option.some.inj e2) c1, c2⟩
theorem HrSays.dt (c : HrSays fx fn tf ts w h K) (X : K.In h) (i j : Nat) {d : He.FnD} (e : fn[i]? = some d) (et : tf[j]? = some d.at_) :
    (∃ oc od osl kV doc pm an ct, K.lookup (He.fAd K d.at_) = some ⟨oc, od, .func (PySem.W.fnOf d.name d.qual d.params d.body d.scope .none kV doc pm an (.ref (He.cT K d.at_).1) ct), osl⟩ ∧ PySem.W.codeIn K (.ref (He.cT K d.at_).1) d.qual = true) ∧ PySem.W.keepIn K (.ref (He.fAd K d.at_)) = true ∧
      (PySem.W.CodeHd h (He.cT K d.at_).1 (He.cT K d.at_).2 ∧ h.get? (He.cT K d.at_).2 = some { cls := .none, data := .fields #[] }) ∧ K.lookup (He.cT K d.at_).2 = none := by
  obtain ⟨⟨oc, od, osl, kV, doc, pm, an, cdv, ct, lk, ci⟩, kp⟩ := c.d i e
  obtain ⟨c0, hc⟩ := He.codeIn_ref ci
  subst hc
  have q : (He.cT K d.at_).1 = c0 := He.codeOf_eq lk rfl
  have m := List.mem_of_getElem? et
  refine ⟨⟨oc, od, osl, kV, doc, pm, an, ct, ?_, ?_⟩, kp, ⟨PySem.W.codeHd_of_K X (c.hd _ m), c.emp _ m⟩, c.out _ m⟩
  · rw [q]; exact lk
  · rw [q]; exact ci
end
section
variable {fx : List Hx} {fn : List He.FnD} {tf : List He.Defn} {ts : List (Str × List Str)} {w : World} {h : Heap} {K : PySem.W.Frag}
theorem HrSays.fun_ (c : HrSays fx fn tf ts w h K) (i : Nat) {x q : Str} {st : Stmt} {p : He.Defn} (e : fn[i]? = some ⟨p, x, q, defArgs st, defBody st, defScope st⟩) : ∃ fd, Fun K x q st (He.fAd K p) fd := by
  obtain ⟨⟨oc, od, osl, kV, doc, pm, an, cdv, ct, lk, ci⟩, kp⟩ := c.d i e
  exact ⟨_, ⟨⟨oc, od, kV, doc, pm, an, cdv, ct, osl, rfl, lk, ci⟩, kp⟩⟩
theorem HrSays.fnc (c : HrSays fx fn tf ts w h K) (X : K.In h) (i j : Nat) {x q : Str} {st : Stmt} {p : He.Defn} (e : fn[i]? = some ⟨p, x, q, defArgs st, defBody st, defScope st⟩) (et : tf[j]? = some p) :
    (∃ fd, FunC K x q st (He.fAd K p) fd (He.cT K p).1) ∧ (PySem.W.CodeHd h (He.cT K p).1 (He.cT K p).2 ∧ h.get? (He.cT K p).2 = some { cls := .none, data := .fields #[] }) ∧ K.lookup (He.cT K p).2 = none := by
  obtain ⟨⟨oc, od, osl, kV, doc, pm, an, ct, lk, ci⟩, kp, hh, hn⟩ := c.dt X i j e et
  exact ⟨⟨_, ⟨⟨oc, od, kV, doc, pm, an, ct, osl, rfl, lk, ci⟩, kp⟩⟩, hh, hn⟩
end

def hrTf : List He.Defn := [("is_name", none), ("is_stretch", none), ("labour", none), ("_law_yard_ask", none)]
def hrFx0 : List Hx := [.fa (.glo "Chain"), .fa (.cls "Chain"), .fa (.mkr "Chain"), .fa (.noat "Chain" "fire"), .fa (.noat "Chain" "stretches"), .fa (.noat "Chain" "now"), .fa (.noat "Chain" "row"), .fa (.noat "Chain" "loads"), .fa (.noat "Chain" "spots"), .fa (.noat "Chain" "tempos"), .fa (.noat "Chain" "leaving"), .fa (.noat "Chain" "ledgers"), .fa (.noat "Chain" "marks"), .fa (.noat "Chain" "poured"), .fa (.glo "Ground"), .fa (.cls "Ground"), .fa (.mkr "Ground"), .fa (.noat "Ground" "now"), .fa (.noat "Ground" "tempos"), .fa (.noat "Ground" "posts"), .fa (.noat "Ground" "laid"), .fa (.glo "Yard"), .fa (.cls "Yard"), .fa (.mkr "Yard"), .fa (.noat "Yard" "done"), .fa (.noat "Yard" "undone"), .fa (.glo "_law_word"), .fa (.glo "is_number"), .fa (.glo "is_within"), .fa (.glo "common_divisor")]
def hrFx1 : List Hx := [.fa (.glo "amount"), .fa (.glo "plus"), .fa (.glo "below"), .fa (.glo "_law_cell"), .fa (.glo "check_pace"), .fa (.glo "is_name"), .fa (.glo "check_name"), .fa (.meth "Chain" "take_pail"), .fa (.meth "Chain" "enter"), .fa (.glo "is_stretch"), .fa (.glo "check_way"), .fa (.glo "labour"), .fa (.meth "Chain" "stand_as"), .fa (.meth "Chain" "twin"), .fa (.meth "Chain" "hands"), .fa (.meth "Chain" "emptied"), .fa (.meth "Chain" "pails"), .fa (.meth "Chain" "number_of"), .fa (.meth "Chain" "place"), .fa (.meth "Chain" "ledger"), .fa (.meth "Chain" "paces"), .fa (.meth "Chain" "mark"), .fa (.meth "Chain" "call"), .fa (.meth "Chain" "set_pace"), .fa (.meth "Chain" "stay"), .fa (.meth "Chain" "swap"), .fa (.meth "Ground" "twin"), .fa (.meth "Ground" "check_hand"), .fa (.meth "Ground" "check_idle"), .fa (.meth "Ground" "check_chain")]
def hrFx2 : List Hx := [.fa (.meth "Ground" "lead"), .fa (.meth "Chain" "walk_for"), .fa (.glo "lay"), .fa (.glo "hire"), .fa (.glo "dismiss"), .fa (.glo "send"), .fa (.meth "Ground" "lead_of"), .fa (.glo "call"), .fa (.glo "stay"), .fa (.glo "swap"), .fa (.glo "set_pace"), .fa (.meth "Yard" "ground"), .fa (.meth "Yard" "do"), .fa (.meth "Yard" "chains"), .fa (.meth "Yard" "pace"), .fa (.meth "Yard" "where"), .fa (.meth "Yard" "pool"), .fa (.glo "_law_same"), .fa (.glo "_law_draws"), .fa (.glo "_law_name"), .fa (.glo "_law_split"), .fa (.glo "_law_yard_ask"), .fa (.glo "law"), .fa (.glo "PailError"), .base "PailError", .fa (.glo "BadWay"), .err "PailError" "BadWay", .fa (.meth "BadWay" "__init__"), .fa (.glo "BadName"), .err "PailError" "BadName"]
def hrFx3 : List Hx := [.fa (.meth "BadName" "__init__"), .fa (.glo "Taken"), .err "PailError" "Taken", .fa (.meth "Taken" "__init__"), .fa (.glo "BadPace"), .err "PailError" "BadPace", .fa (.meth "BadPace" "__init__"), .fa (.glo "Full"), .err "PailError" "Full", .fa (.meth "Full" "__init__"), .fa (.glo "NoHand"), .err "PailError" "NoHand", .fa (.meth "NoHand" "__init__"), .fa (.glo "Called"), .err "PailError" "Called", .fa (.meth "Called" "__init__"), .fa (.glo "NotCalled"), .err "PailError" "NotCalled", .fa (.meth "NotCalled" "__init__"), .fa (.glo "NoNext"), .err "PailError" "NoNext", .fa (.meth "NoNext" "__init__"), .fa (.glo "Busy"), .err "PailError" "Busy", .fa (.meth "Busy" "__init__"), .fa (.glo "Idle"), .err "PailError" "Idle", .fa (.meth "Idle" "__init__"), .fa (.glo "NoChain"), .err "PailError" "NoChain"]
def hrFx4 : List Hx := [.fa (.meth "NoChain" "__init__"), .fa (.glo "TooLong"), .err "PailError" "TooLong", .fa (.meth "TooLong" "__init__"), .fa (.free "ValueError"), .fa (.free "abs"), .fa (.free "all"), .fa (.free "bool"), .fa (.free "dict"), .fa (.free "int"), .fa (.free "isinstance"), .fa (.free "len"), .fa (.free "list"), .fa (.free "range"), .fa (.free "str"), .fa (.free "sum"), .fa (.free "tuple"), .fa (.glo "DEEDS"), .kdf "DEEDS" tab_DEEDS, .fa (.glo "go"), .fa (.glo "outs"), .fa (.int "MOST_CHAINS" 4), .fa (.int "MOST_HANDS" 8), .fa (.int "MOST_HIRED" 30), .fa (.int "MOST_LETTERS" 8), .fa (.int "MOST_OUTS" 60), .fa (.int "MOST_PACE" 12), .fa (.int "MOST_STEPS_OR_TOIL" 9), .fa (.int "MOST_STRETCHES" 6), .fa (.glo "NOUGHT")]
def hrFx5 : List Hx := [.tup "NOUGHT" [.int 0, .int 1], .nod hrTf]
def hrFx : List Hx := hrFx0 ++ (hrFx1 ++ (hrFx2 ++ (hrFx3 ++ (hrFx4 ++ (hrFx5)))))
def hrFn0 : List He.FnD := [⟨("_law_word", none), "_law_word", "_law_word", defArgs s_l_word, defBody s_l_word, defScope s_l_word⟩, ⟨("is_number", none), "is_number", "is_number", defArgs s_p_is_number, defBody s_p_is_number, defScope s_p_is_number⟩, ⟨("is_within", none), "is_within", "is_within", defArgs s_p_is_within, defBody s_p_is_within, defScope s_p_is_within⟩, ⟨("common_divisor", none), "common_divisor", "common_divisor", defArgs s_p_common_divisor, defBody s_p_common_divisor, defScope s_p_common_divisor⟩, ⟨("amount", none), "amount", "amount", defArgs s_p_amount, defBody s_p_amount, defScope s_p_amount⟩, ⟨("plus", none), "plus", "plus", defArgs s_p_plus, defBody s_p_plus, defScope s_p_plus⟩, ⟨("below", none), "below", "below", defArgs s_p_below, defBody s_p_below, defScope s_p_below⟩, ⟨("_law_cell", none), "_law_cell", "_law_cell", defArgs s_l_cell, defBody s_l_cell, defScope s_l_cell⟩, ⟨("check_pace", none), "check_pace", "check_pace", defArgs s_p_check_pace, defBody s_p_check_pace, defScope s_p_check_pace⟩, ⟨("is_name", none), "is_name", "is_name", defArgs s_p_is_name, defBody s_p_is_name, defScope s_p_is_name⟩, ⟨("check_name", none), "check_name", "check_name", defArgs s_p_check_name, defBody s_p_check_name, defScope s_p_check_name⟩, ⟨("Chain", some "take_pail"), "take_pail", "Chain.take_pail", defArgs s_p_Chain_take_pail, defBody s_p_Chain_take_pail, defScope s_p_Chain_take_pail⟩, ⟨("Chain", some "enter"), "enter", "Chain.enter", defArgs s_p_Chain_enter, defBody s_p_Chain_enter, defScope s_p_Chain_enter⟩, ⟨("is_stretch", none), "is_stretch", "is_stretch", defArgs s_p_is_stretch, defBody s_p_is_stretch, defScope s_p_is_stretch⟩, ⟨("check_way", none), "check_way", "check_way", defArgs s_p_check_way, defBody s_p_check_way, defScope s_p_check_way⟩, ⟨("labour", none), "labour", "labour", defArgs s_p_labour, defBody s_p_labour, defScope s_p_labour⟩, ⟨("Chain", some "__init__"), "__init__", "Chain.__init__", defArgs s_p_Chain___init__, defBody s_p_Chain___init__, defScope s_p_Chain___init__⟩, ⟨("Chain", some "stand_as"), "stand_as", "Chain.stand_as", defArgs s_p_Chain_stand_as, defBody s_p_Chain_stand_as, defScope s_p_Chain_stand_as⟩, ⟨("Chain", some "twin"), "twin", "Chain.twin", defArgs s_p_Chain_twin, defBody s_p_Chain_twin, defScope s_p_Chain_twin⟩, ⟨("Chain", some "hands"), "hands", "Chain.hands", defArgs s_p_Chain_hands, defBody s_p_Chain_hands, defScope s_p_Chain_hands⟩, ⟨("Chain", some "emptied"), "emptied", "Chain.emptied", defArgs s_p_Chain_emptied, defBody s_p_Chain_emptied, defScope s_p_Chain_emptied⟩, ⟨("Chain", some "pails"), "pails", "Chain.pails", defArgs s_p_Chain_pails, defBody s_p_Chain_pails, defScope s_p_Chain_pails⟩, ⟨("Chain", some "number_of"), "number_of", "Chain.number_of", defArgs s_p_Chain_number_of, defBody s_p_Chain_number_of, defScope s_p_Chain_number_of⟩, ⟨("Chain", some "place"), "place", "Chain.place", defArgs s_p_Chain_place, defBody s_p_Chain_place, defScope s_p_Chain_place⟩, ⟨("Chain", some "ledger"), "ledger", "Chain.ledger", defArgs s_p_Chain_ledger, defBody s_p_Chain_ledger, defScope s_p_Chain_ledger⟩, ⟨("Chain", some "paces"), "paces", "Chain.paces", defArgs s_p_Chain_paces, defBody s_p_Chain_paces, defScope s_p_Chain_paces⟩, ⟨("Chain", some "mark"), "mark", "Chain.mark", defArgs s_p_Chain_mark, defBody s_p_Chain_mark, defScope s_p_Chain_mark⟩, ⟨("Chain", some "call"), "call", "Chain.call", defArgs s_p_Chain_call, defBody s_p_Chain_call, defScope s_p_Chain_call⟩, ⟨("Chain", some "set_pace"), "set_pace", "Chain.set_pace", defArgs s_p_Chain_set_pace, defBody s_p_Chain_set_pace, defScope s_p_Chain_set_pace⟩, ⟨("Chain", some "stay"), "stay", "Chain.stay", defArgs s_p_Chain_stay, defBody s_p_Chain_stay, defScope s_p_Chain_stay⟩]
def hrFn1 : List He.FnD := [⟨("Chain", some "swap"), "swap", "Chain.swap", defArgs s_p_Chain_swap, defBody s_p_Chain_swap, defScope s_p_Chain_swap⟩, ⟨("Ground", some "__init__"), "__init__", "Ground.__init__", defArgs s_p_Ground___init__, defBody s_p_Ground___init__, defScope s_p_Ground___init__⟩, ⟨("Ground", some "twin"), "twin", "Ground.twin", defArgs s_p_Ground_twin, defBody s_p_Ground_twin, defScope s_p_Ground_twin⟩, ⟨("Ground", some "check_hand"), "check_hand", "Ground.check_hand", defArgs s_p_Ground_check_hand, defBody s_p_Ground_check_hand, defScope s_p_Ground_check_hand⟩, ⟨("Ground", some "check_idle"), "check_idle", "Ground.check_idle", defArgs s_p_Ground_check_idle, defBody s_p_Ground_check_idle, defScope s_p_Ground_check_idle⟩, ⟨("Ground", some "check_chain"), "check_chain", "Ground.check_chain", defArgs s_p_Ground_check_chain, defBody s_p_Ground_check_chain, defScope s_p_Ground_check_chain⟩, ⟨("Ground", some "lead"), "lead", "Ground.lead", defArgs s_p_Ground_lead, defBody s_p_Ground_lead, defScope s_p_Ground_lead⟩, ⟨("Chain", some "walk_for"), "walk_for", "Chain.walk_for", defArgs s_p_Chain_walk_for, defBody s_p_Chain_walk_for, defScope s_p_Chain_walk_for⟩, ⟨("lay", none), "lay", "lay", defArgs s_p_lay, defBody s_p_lay, defScope s_p_lay⟩, ⟨("hire", none), "hire", "hire", defArgs s_p_hire, defBody s_p_hire, defScope s_p_hire⟩, ⟨("dismiss", none), "dismiss", "dismiss", defArgs s_p_dismiss, defBody s_p_dismiss, defScope s_p_dismiss⟩, ⟨("send", none), "send", "send", defArgs s_p_send, defBody s_p_send, defScope s_p_send⟩, ⟨("Ground", some "lead_of"), "lead_of", "Ground.lead_of", defArgs s_p_Ground_lead_of, defBody s_p_Ground_lead_of, defScope s_p_Ground_lead_of⟩, ⟨("call", none), "call", "call", defArgs s_p_call, defBody s_p_call, defScope s_p_call⟩, ⟨("stay", none), "stay", "stay", defArgs s_p_stay, defBody s_p_stay, defScope s_p_stay⟩, ⟨("swap", none), "swap", "swap", defArgs s_p_swap, defBody s_p_swap, defScope s_p_swap⟩, ⟨("set_pace", none), "set_pace", "set_pace", defArgs s_p_set_pace, defBody s_p_set_pace, defScope s_p_set_pace⟩, ⟨("Yard", some "__init__"), "__init__", "Yard.__init__", defArgs s_p_Yard___init__, defBody s_p_Yard___init__, defScope s_p_Yard___init__⟩, ⟨("Yard", some "ground"), "ground", "Yard.ground", defArgs s_p_Yard_ground, defBody s_p_Yard_ground, defScope s_p_Yard_ground⟩, ⟨("Yard", some "do"), "do", "Yard.do", defArgs s_p_Yard_do, defBody s_p_Yard_do, defScope s_p_Yard_do⟩, ⟨("Yard", some "chains"), "chains", "Yard.chains", defArgs s_p_Yard_chains, defBody s_p_Yard_chains, defScope s_p_Yard_chains⟩, ⟨("Yard", some "pace"), "pace", "Yard.pace", defArgs s_p_Yard_pace, defBody s_p_Yard_pace, defScope s_p_Yard_pace⟩, ⟨("Yard", some "where"), "where", "Yard.where", defArgs s_p_Yard_where, defBody s_p_Yard_where, defScope s_p_Yard_where⟩, ⟨("Yard", some "pool"), "pool", "Yard.pool", defArgs s_p_Yard_pool, defBody s_p_Yard_pool, defScope s_p_Yard_pool⟩, ⟨("_law_same", none), "_law_same", "_law_same", defArgs s_l_same, defBody s_l_same, defScope s_l_same⟩, ⟨("_law_draws", none), "_law_draws", "_law_draws", defArgs s_l_draws, defBody s_l_draws, defScope s_l_draws⟩, ⟨("_law_name", none), "_law_name", "_law_name", defArgs s_l_name, defBody s_l_name, defScope s_l_name⟩, ⟨("_law_split", none), "_law_split", "_law_split", defArgs s_l_split, defBody s_l_split, defScope s_l_split⟩, ⟨("_law_yard_ask", none), "_law_yard_ask", "_law_yard_ask", defArgs s_l_yard_ask, defBody s_l_yard_ask, defScope s_l_yard_ask⟩, ⟨("law", none), "law", "law", defArgs s_LAW, defBody s_LAW, defScope s_LAW⟩]
def hrFn2 : List He.FnD := [⟨("PailError", some "__init__"), "__init__", "PailError.__init__", defArgs s_p_PailError___init__, defBody s_p_PailError___init__, defScope s_p_PailError___init__⟩, ⟨("BadWay", some "__init__"), "__init__", "BadWay.__init__", defArgs s_p_BadWay___init__, defBody s_p_BadWay___init__, defScope s_p_BadWay___init__⟩, ⟨("BadName", some "__init__"), "__init__", "BadName.__init__", defArgs s_p_BadName___init__, defBody s_p_BadName___init__, defScope s_p_BadName___init__⟩, ⟨("Taken", some "__init__"), "__init__", "Taken.__init__", defArgs s_p_Taken___init__, defBody s_p_Taken___init__, defScope s_p_Taken___init__⟩, ⟨("BadPace", some "__init__"), "__init__", "BadPace.__init__", defArgs s_p_BadPace___init__, defBody s_p_BadPace___init__, defScope s_p_BadPace___init__⟩, ⟨("Full", some "__init__"), "__init__", "Full.__init__", defArgs s_p_Full___init__, defBody s_p_Full___init__, defScope s_p_Full___init__⟩, ⟨("NoHand", some "__init__"), "__init__", "NoHand.__init__", defArgs s_p_NoHand___init__, defBody s_p_NoHand___init__, defScope s_p_NoHand___init__⟩, ⟨("Called", some "__init__"), "__init__", "Called.__init__", defArgs s_p_Called___init__, defBody s_p_Called___init__, defScope s_p_Called___init__⟩, ⟨("NotCalled", some "__init__"), "__init__", "NotCalled.__init__", defArgs s_p_NotCalled___init__, defBody s_p_NotCalled___init__, defScope s_p_NotCalled___init__⟩, ⟨("NoNext", some "__init__"), "__init__", "NoNext.__init__", defArgs s_p_NoNext___init__, defBody s_p_NoNext___init__, defScope s_p_NoNext___init__⟩, ⟨("Busy", some "__init__"), "__init__", "Busy.__init__", defArgs s_p_Busy___init__, defBody s_p_Busy___init__, defScope s_p_Busy___init__⟩, ⟨("Idle", some "__init__"), "__init__", "Idle.__init__", defArgs s_p_Idle___init__, defBody s_p_Idle___init__, defScope s_p_Idle___init__⟩, ⟨("NoChain", some "__init__"), "__init__", "NoChain.__init__", defArgs s_p_NoChain___init__, defBody s_p_NoChain___init__, defScope s_p_NoChain___init__⟩, ⟨("TooLong", some "__init__"), "__init__", "TooLong.__init__", defArgs s_p_TooLong___init__, defBody s_p_TooLong___init__, defScope s_p_TooLong___init__⟩]
def hrFn : List He.FnD := hrFn0 ++ (hrFn1 ++ (hrFn2))
def hrTs : List (Str × List Str) := [("DEEDS", ["lay", "hire", "dismiss", "send", "call", "stay", "swap", "pace", "go", "outs"])]
def hrLoose0 : List Str := ["_wall", "__name__", "NOUGHT", "common_divisor", "amount", "plus", "minus", "times", "over", "below", "lesser", "PailError", "BadWay", "BadName", "Taken", "BadPace", "Full", "NoHand", "Called", "NotCalled", "NoNext", "BadTime", "TooLong", "BadCount", "Nobody", "Busy", "NoChain", "Idle", "MOST_LETTERS", "MOST_PACE"]
def hrLoose1 : List Str := ["MOST_HANDS", "MOST_HOURS", "MOST_PARTS", "is_number", "is_within", "is_name", "check_name", "check_pace", "check_hours", "speeds", "meeting", "hours_at", "walked", "MOST_STRETCHES", "MOST_STEPS_OR_TOIL", "is_stretch", "check_way", "labour", "MOST_OUTS", "ledger_on", "Chain", "MOST_CHAINS", "MOST_HIRED", "numbered", "merged", "Ground", "lay", "hire", "dismiss", "send"]
def hrLoose2 : List Str := ["call", "stay", "swap", "set_pace", "go", "outs", "DEEDS", "Yard", "_law_cell", "_law_draws", "_law_split", "_law_same", "_law_word", "_law_name", "_law_yard_ask"]
def hrLoose : List Str := hrLoose0 ++ (hrLoose1 ++ (hrLoose2))
theorem hrRunF (w : World) : HandSHeadRun.RunEq (PySem.W.OpenLaw.row PySem.Challenge.rw_pailchain_k43_thirty_hands_and_four_chai) (PySem.W.view (PySem.W.OpenLaw.row PySem.Challenge.rw_pailchain_k43_thirty_hands_and_four_chai).prog [82]) (hrHook hrFx hrFn hrTf hrTs) (hrOb hrFx hrFn hrTf hrTs) 60000 hrLoose (w.withFollow "special-get-raises" false) := by
  intro os
  kernel_rfl
theorem hrRunT (w : World) : HandSHeadRun.RunEq (PySem.W.OpenLaw.row PySem.Challenge.rw_pailchain_k43_thirty_hands_and_four_chai) (PySem.W.view (PySem.W.OpenLaw.row PySem.Challenge.rw_pailchain_k43_thirty_hands_and_four_chai).prog [82]) (hrHook hrFx hrFn hrTf hrTs) (hrOb hrFx hrFn hrTf hrTs) 60000 hrLoose (w.withFollow "special-get-raises" true) := by
  intro os
  kernel_rfl
theorem hrRun (w : World) : HandSHeadRun.RunEq (PySem.W.OpenLaw.row PySem.Challenge.rw_pailchain_k43_thirty_hands_and_four_chai) (PySem.W.view (PySem.W.OpenLaw.row PySem.Challenge.rw_pailchain_k43_thirty_hands_and_four_chai).prog [82]) (hrHook hrFx hrFn hrTf hrTs) (hrOb hrFx hrFn hrTf hrTs) 60000 hrLoose w := PySem.W.byRow2 "special-get-raises" (P := fun w => HandSHeadRun.RunEq (PySem.W.OpenLaw.row PySem.Challenge.rw_pailchain_k43_thirty_hands_and_four_chai) (PySem.W.view (PySem.W.OpenLaw.row PySem.Challenge.rw_pailchain_k43_thirty_hands_and_four_chai).prog [82]) (hrHook hrFx hrFn hrTf hrTs) (hrOb hrFx hrFn hrTf hrTs) 60000 hrLoose w) hrRunF hrRunT w
section
variable {P : Program} {w : World} {K : PySem.W.Frag} {T : Tb} {mg : Str → Option Value} {base : Heap}
/-! ### chains in the heap -/
structure Ad where
  dx : Addr
  st : Addr
  nw : Addr
  rw : Addr
  ld : Addr
  sp : Addr
  tm : Addr
  lv : Addr
  lg : Addr
  mr : Addr
  pr : Addr
def FLD : List Str := ["fire", "stretches", "now", "row", "loads", "spots", "tempos", "leaving", "ledgers", "marks", "poured"]
def flds (L : Int) (A : Ad) : List (Str × V) := [("fire", .int L), ("stretches", .ref A.st), ("now", .ref A.nw), ("row", .ref A.rw), ("loads", .ref A.ld), ("spots", .ref A.sp), ("tempos", .ref A.tm), ("leaving", .ref A.lv), ("ledgers", .ref A.lg), ("marks", .ref A.mr), ("poured", .ref A.pr)]
theorem lookup_no {fs : List (Str × V)} {m : Str} (h : m ∉ fs.map (·.1)) : fs.lookup m = none := by
  induction fs with
  | nil => rfl
  | cons a l ih =>
    obtain ⟨k, v⟩ := a
    rw [List.map_cons, List.mem_cons, not_or] at h
    rw [List.lookup_cons]
    have e : (m == k) = false := by
      cases q : (m == k) with
      | false => rfl
      | true => exact absurd (eq_of_beq q) h.1
    rw [e]
    exact ih h.2
theorem fl_no {L : Int} {A : Ad} {m : Str} (h : m ∉ FLD) : (flds L A).lookup m = none := lookup_no h
theorem fl_fire {L : Int} {A : Ad} : (flds L A).lookup ("fire" : Str) = some (.int L) := rfl
theorem fl_st {L : Int} {A : Ad} : (flds L A).lookup ("stretches" : Str) = some (.ref A.st) := rfl
theorem fl_nw {L : Int} {A : Ad} : (flds L A).lookup ("now" : Str) = some (.ref A.nw) := rfl
theorem fl_rw {L : Int} {A : Ad} : (flds L A).lookup ("row" : Str) = some (.ref A.rw) := rfl
theorem fl_ld {L : Int} {A : Ad} : (flds L A).lookup ("loads" : Str) = some (.ref A.ld) := rfl
theorem fl_sp {L : Int} {A : Ad} : (flds L A).lookup ("spots" : Str) = some (.ref A.sp) := rfl
theorem fl_tm {L : Int} {A : Ad} : (flds L A).lookup ("tempos" : Str) = some (.ref A.tm) := rfl
theorem fl_lv {L : Int} {A : Ad} : (flds L A).lookup ("leaving" : Str) = some (.ref A.lv) := rfl
theorem fl_lg {L : Int} {A : Ad} : (flds L A).lookup ("ledgers" : Str) = some (.ref A.lg) := rfl
theorem fl_mk {L : Int} {A : Ad} : (flds L A).lookup ("marks" : Str) = some (.ref A.mr) := rfl
theorem fl_pr {L : Int} {A : Ad} : (flds L A).lookup ("poured" : Str) = some (.ref A.pr) := rfl
theorem pf_nw {L : Int} {A : Ad} {a : Addr} : putF "now" (.ref a) (flds L A) = flds L { A with nw := a } := rfl
theorem pf_rw {L : Int} {A : Ad} {a : Addr} : putF "row" (.ref a) (flds L A) = flds L { A with rw := a } := rfl
theorem pf_ld {L : Int} {A : Ad} {a : Addr} : putF "loads" (.ref a) (flds L A) = flds L { A with ld := a } := rfl
theorem pf_sp {L : Int} {A : Ad} {a : Addr} : putF "spots" (.ref a) (flds L A) = flds L { A with sp := a } := rfl
theorem pf_tm {L : Int} {A : Ad} {a : Addr} : putF "tempos" (.ref a) (flds L A) = flds L { A with tm := a } := rfl
theorem pf_lv {L : Int} {A : Ad} {a : Addr} : putF "leaving" (.ref a) (flds L A) = flds L { A with lv := a } := rfl
theorem pf_lg {L : Int} {A : Ad} {a : Addr} : putF "ledgers" (.ref a) (flds L A) = flds L { A with lg := a } := rfl
theorem pf_mk {L : Int} {A : Ad} {a : Addr} : putF "marks" (.ref a) (flds L A) = flds L { A with mr := a } := rfl
theorem pf_pr {L : Int} {A : Ad} {a : Addr} : putF "poured" (.ref a) (flds L A) = flds L { A with pr := a } := rfl
/-! ### what a deed leaves: all but the objects S -/
def imm : HO → Bool
  | .tup _ => true
  | .frz _ _ => true
  | .own _ => true
  | _ => false
def mutO : HO → Bool
  | .lst _ => true
  | .dK _ => true
  | .ins _ _ _ => true
  | _ => false
structure Sx (T : Tb) (S : List Addr) (H H' : Hp) : Prop where
  keep : ∀ b o, H b = some o → nTbl o → (imm o = true ∨ b ∉ S) → H' b = some o
  ok : Ok T H → Ok T H'
  free : ∀ l, H' l = none → H l = none
theorem Sm.sx {T : Tb} {S : List Addr} {H H' : Hp} (s : Sm T H H') : Sx T S H H' := ⟨fun b o e n _ => s.keep b o e n, s.ok, s.free⟩
theorem Sx.sm {T : Tb} {H H' : Hp} (s : Sx T [] H H') : Sm T H H' := ⟨fun b o e n => s.keep b o e n (.inr (by simp)), s.ok, s.free⟩
theorem Sx.refl {T : Tb} {S : List Addr} {H : Hp} : Sx T S H H := Sm.refl.sx
theorem Sx.trans {T : Tb} {S S2 : List Addr} {H H1 H2 : Hp} (a : Sx T S H H1) (b : Sx T S2 H1 H2) (h : ∀ x ∈ S2, x ∈ S ∨ H x = none) : Sx T S H H2 :=
  ⟨fun c o e n i => b.keep c o (a.keep c o e n i) n (i.imp id fun hc hc2 => (h c hc2).elim hc fun z => by rw [z] at e; cases e), fun k => b.ok (a.ok k), fun l k => a.free l (b.free l k)⟩
theorem Sx.step {T : Tb} {S : List Addr} {H H1 H2 : Hp} (a : Sx T S H H1) (b : Sx T S H1 H2) : Sx T S H H2 := a.trans b fun _ h => .inl h
theorem Sx.sm' {T : Tb} {S : List Addr} {H H1 H2 : Hp} (a : Sx T S H H1) (b : Sm T H1 H2) : Sx T S H H2 := a.trans (S2 := []) b.sx fun _ h => nomatch h
theorem Sx.mono {T : Tb} {S S2 : List Addr} {H H' : Hp} (a : Sx T S H H') (h : ∀ x ∈ S, x ∈ S2 ∨ H x = none) : Sx T S2 H H' := Sx.refl.trans a h
theorem okP_mut2 {H : Hp} {p : Addr × Option Str} {a : Addr} {o u : HO} (h : OkP H p) (ha : H a = some u) (hm : mutO u = true) : OkP (upd H a o) p := by
  have k : ∀ b v, H b = some v → mutO v = false → upd H a o b = some v := fun b v e n => by
    rw [upd_ne (fun z => by rw [z, ha] at e; cases e; rw [hm] at n; cases n)]
    exact e
  obtain ⟨Q, q⟩ := p
  cases q with
  | none =>
    obtain ⟨ps, h1, h2⟩ := (show GxR.TabG H Q from h)
    exact ⟨ps, k _ _ h1 rfl, h2⟩
  | some q =>
    obtain ⟨ps, h1, h2, h3⟩ := (show LamX.TabS H Q q from h)
    refine ⟨ps, k _ _ h1 rfl, h2, fun pos cv hc => ?_⟩
    obtain ⟨c, e1, e2⟩ := h3 pos cv hc
    exact ⟨c, e1, k _ _ e2 (by unfold LamX.CodeO; rfl)⟩
theorem sx_upd {T : Tb} {S : List Addr} {H : Hp} {a : Addr} {o u : HO} (ha : H a = some u) (hm : mutO u = true) (hS : a ∈ S) : Sx T S H (upd H a o) := by
  refine ⟨fun b v e _ i => ?_, fun hk q hq => okP_mut2 (hk q hq) ha hm, fun l hl => ?_⟩
  · rw [upd_ne]
    · exact e
    · rintro rfl
      rcases i with i | i
      · rw [e] at ha
        cases ha
        cases u <;> simp_all [mutO, imm]
      · exact i hS
  · by_cases z : l = a
    · rw [z, upd_same] at hl; cases hl
    · rw [upd_ne z] at hl; exact hl
theorem Sx.tup {T : Tb} {S : List Addr} {K : PySem.W.Frag} {H H' : Hp} {a : Addr} {xs : List V} (e : Sx T S H H') (h : SqT K H a xs) : SqT K H' a xs := by
  rcases h with (h | ⟨o, h⟩) | h
  · exact .inl (.inl (e.keep _ _ h trivial (.inl rfl)))
  · exact .inl (.inr ⟨o, e.keep _ _ h trivial (.inl rfl)⟩)
  · exact .inr h
theorem Sx.lst {T : Tb} {S : List Addr} {H H' : Hp} {a : Addr} {xs : List V} (e : Sx T S H H') (h : H a = some (.lst xs)) (ha : a ∉ S) : H' a = some (.lst xs) := e.keep _ _ h trivial (.inr ha)
theorem Sx.seq {T : Tb} {S : List Addr} {K : PySem.W.Frag} {H H' : Hp} {a : Addr} {xs : List V} (e : Sx T S H H') (h : SqL K H a xs) (ha : a ∉ S) : SqL K H' a xs := by
  rcases h with (h | ⟨o, h⟩) | h
  · exact .inl (.inl (e.keep _ _ h trivial (.inr ha)))
  · exact .inl (.inr ⟨o, e.keep _ _ h trivial (.inl rfl)⟩)
  · exact .inr h
mutual
theorem Sx.dp {T : Tb} {S : List Addr} {K : PySem.W.Frag} {H H' : Hp} (e : Sx T S H H') : ∀ (n : Nat) (d : PyData) (v : V), noL n d = true → Dp K H v d → Dp K H' v d
  | _, .none, _, _, h => by cases h; exact .non
  | _, .bool b, _, _, h => by cases h; exact .bl b
  | _, .int i, _, _, h => by cases h; exact .int i
  | _, .str x, _, _, h => by cases h; exact .str x
  | 0, .tuple _, _, z, _ => by cases z
  | n + 1, .tuple ds, _, z, h => by
    cases h with
    | tup hs hall => exact .tup (e.tup hs) (Sx.dps e n ds _ z hall)
  | 0, .list _, _, z, _ => by cases z
  | _ + 1, .list _, _, z, _ => by cases z
  | 0, .dict _, _, z, _ => by cases z
  | _ + 1, .dict _, _, z, _ => by cases z
theorem Sx.dps {T : Tb} {S : List Addr} {K : PySem.W.Frag} {H H' : Hp} (e : Sx T S H H') : ∀ (n : Nat) (ds : List PyData) (vs : List V), ds.all (noL n) = true → DpAll K H vs ds → DpAll K H' vs ds
  | _, [], _, _, h => by cases h; exact .nil
  | n, d :: ds, _, z, h => by
    cases h with
    | cons h1 h2 =>
      rw [List.all_cons, Bool.and_eq_true] at z
      exact .cons (Sx.dp e n d _ z.1 h1) (Sx.dps e n ds _ z.2 h2)
end
/-! ### a chain, as it stands -/
structure Ch where
  fire : Int
  way : List Am
  now : Rat
  row : List Str
  loads : List Int
  spots : List Rat
  tempos : List (Str × Int)
  leaving : List Str
  ledgers : List (Str × (Rat × Rat × Rat))
  marks : List (List (Str × Rat))
  poured : List Int
def tmV (l : List (Str × Int)) : List (L2.Key × V) := l.map fun x => (Sum.inr x.1, V.int x.2)
def ledD (x : Rat × Rat × Rat) : PyData := .tuple [amD (am x.1), amD (am x.2.1), amD (am x.2.2)]
def mkD (l : List (Str × Rat)) : PyData := .tuple (l.map fun x => .tuple [.str x.1, amD (am x.2)])
def LedL (K : PySem.W.Frag) (H : Hp) (kvs : List (L2.Key × V)) (l : List (Str × (Rat × Rat × Rat))) : Prop := kvs.map (·.1) = l.map (fun x => (Sum.inr x.1 : L2.Key)) ∧ DpAll K H (kvs.map (·.2)) (l.map fun x => ledD x.2)
def ownC (c : Addr) (A : Ad) : List Addr := [c, A.rw, A.ld, A.sp, A.tm, A.lv, A.lg, A.mr, A.pr]
structure ChAt (K : PySem.W.Frag) (C : Addr) (H : Hp) (c : Addr) (A : Ad) (s : Ch) : Prop where
  ins : H c = some (.ins C A.dx (flds s.fire A))
  own : H A.dx = some (.own c)
  st : ∃ us, SqT K H A.st us ∧ DpAll K H us (s.way.map amD)
  nw : SqT K H A.nw (tv (am s.now))
  rw : H A.rw = some (.lst (s.row.map V.str))
  ld : H A.ld = some (.lst (s.loads.map V.int))
  sp : ∃ us, H A.sp = some (.lst us) ∧ AmL K H us s.spots
  tm : H A.tm = some (.dK (tmV s.tempos))
  lv : H A.lv = some (.lst (s.leaving.map V.str))
  lg : ∃ kvs, H A.lg = some (.dK kvs) ∧ LedL K H kvs s.ledgers
  mr : ∃ us, H A.mr = some (.lst us) ∧ DpAll K H us (s.marks.map mkD)
  pr : H A.pr = some (.lst (s.poured.map V.int))
  nd : (ownC c A).Nodup
theorem noL_ams (rs : List Rat) : ((rs.map am).map amD).all (noL 3) = true := by
  rw [List.all_map]
  exact List.all_eq_true.mpr fun _ _ => rfl
theorem noL_way (qs : List Am) : (qs.map amD).all (noL 3) = true := by
  rw [List.all_map]
  exact List.all_eq_true.mpr fun _ _ => rfl
theorem noL_led (l : List (Str × (Rat × Rat × Rat))) : (l.map fun x => ledD x.2).all (noL 3) = true := by
  rw [List.all_map]
  exact List.all_eq_true.mpr fun _ _ => rfl
theorem noL_mk (l : List (Str × Rat)) : noL 4 (mkD l) = true := by
  show (l.map fun x => PyData.tuple [.str x.1, amD (am x.2)]).all (noL 3) = true
  rw [List.all_map]
  exact List.all_eq_true.mpr fun _ _ => rfl
theorem noL_mks (l : List (List (Str × Rat))) : (l.map mkD).all (noL 4) = true := by
  rw [List.all_map]
  exact List.all_eq_true.mpr fun x _ => noL_mk x
theorem Sx.ams {T : Tb} {S : List Addr} {K : PySem.W.Frag} {H H' : Hp} {us : List V} {rs : List Rat} (e : Sx T S H H') (h : AmL K H us rs) : AmL K H' us rs := e.dps 3 _ _ (noL_ams rs) h
theorem Sx.led {T : Tb} {S : List Addr} {K : PySem.W.Frag} {H H' : Hp} {kvs : List (L2.Key × V)} {l : List (Str × (Rat × Rat × Rat))} (e : Sx T S H H') (h : LedL K H kvs l) : LedL K H' kvs l := ⟨h.1, e.dps 3 _ _ (noL_led l) h.2⟩
theorem Sx.mks {T : Tb} {S : List Addr} {K : PySem.W.Frag} {H H' : Hp} {us : List V} {l : List (List (Str × Rat))} (e : Sx T S H H') (h : DpAll K H us (l.map mkD)) : DpAll K H' us (l.map mkD) := e.dps 4 _ _ (noL_mks l) h
theorem nd_set {l : List Addr} (h : l.Nodup) {i : Nat} {x y : Addr} (hi : l[i]? = some x) (hy : y ∉ l) : (l.set i y).Nodup := by
  rw [List.nodup_iff_pairwise_ne, List.pairwise_iff_getElem] at *
  intro a b ha hb hab
  rw [List.length_set] at ha hb
  rw [List.getElem_set, List.getElem_set]
  split
  · split
    · omega
    · intro z; exact hy (by rw [z]; exact List.getElem_mem _)
  · split
    · intro z; exact hy (by rw [← z]; exact List.getElem_mem _)
    · exact h a b ha hb hab
section
variable {K : PySem.W.Frag} {T : Tb} {C : Addr} {H H' : Hp} {c : Addr} {A : Ad} {s : Ch} {S : List Addr}
/-- a chain stays where others are changed -/
theorem ChAt.sx (h : ChAt K C H c A s) (e : Sx T S H H') (hd : ∀ x ∈ ownC c A, x ∉ S) : ChAt K C H' c A s := by
  have m : ∀ x, x ∈ ownC c A → ∀ o, H x = some o → nTbl o → H' x = some o := fun x hx o ho n => e.keep x o ho n (.inr (hd x hx))
  obtain ⟨us, s1, s2⟩ := h.st
  obtain ⟨ps, p1, p2⟩ := h.sp
  obtain ⟨kv, k1, k2⟩ := h.lg
  obtain ⟨ms, m1, m2⟩ := h.mr
  exact ⟨m _ (by simp [ownC]) _ h.ins trivial, e.keep _ _ h.own trivial (.inl rfl), ⟨us, e.tup s1, e.dps 3 _ _ (noL_way _) s2⟩, e.tup h.nw, m _ (by simp [ownC]) _ h.rw trivial, m _ (by simp [ownC]) _ h.ld trivial, ⟨ps, m _ (by simp [ownC]) _ p1 trivial, e.ams p2⟩,
    m _ (by simp [ownC]) _ h.tm trivial, m _ (by simp [ownC]) _ h.lv trivial, ⟨kv, m _ (by simp [ownC]) _ k1 trivial, e.led k2⟩, ⟨ms, m _ (by simp [ownC]) _ m1 trivial, e.mks m2⟩, m _ (by simp [ownC]) _ h.pr trivial, h.nd⟩
theorem ChAt.sm (h : ChAt K C H c A s) (e : Sm T H H') : ChAt K C H' c A s := h.sx (S := []) e.sx fun _ _ => by simp
theorem ChAt.ne (h : ChAt K C H c A s) {i j : Nat} {x y : Addr} (hi : (ownC c A)[i]? = some x) (hj : (ownC c A)[j]? = some y) (hij : i ≠ j) : x ∉ [y] := fun z => by
  rw [List.mem_singleton.mp z] at hi
  exact hij (nd_ix h.nd hi hj)
theorem ChAt.set_rw (h : ChAt K C H c A s) (r : List Str) : ChAt K C (upd H A.rw (.lst (r.map V.str))) c A { s with row := r } := by
  obtain ⟨us0, s1, s2⟩ := h.st
  obtain ⟨ps, p1, p2⟩ := h.sp
  obtain ⟨kv, k1, k2⟩ := h.lg
  obtain ⟨ms, m1, m2⟩ := h.mr
  have e : Sx [] [A.rw] H (upd H A.rw (.lst (r.map V.str))) := sx_upd h.rw rfl List.mem_cons_self
  exact ⟨e.keep _ _ h.ins trivial (.inr (h.ne (i := 0) (j := 1) rfl rfl (by decide))), e.keep _ _ h.own trivial (.inl rfl), ⟨us0, e.tup s1, e.dps 3 _ _ (noL_way _) s2⟩, e.tup h.nw, upd_same, e.keep _ _ h.ld trivial (.inr (h.ne (i := 2) (j := 1) rfl rfl (by decide))), ⟨ps, e.keep _ _ p1 trivial (.inr (h.ne (i := 3) (j := 1) rfl rfl (by decide))), e.ams p2⟩, e.keep _ _ h.tm trivial (.inr (h.ne (i := 4) (j := 1) rfl rfl (by decide))), e.keep _ _ h.lv trivial (.inr (h.ne (i := 5) (j := 1) rfl rfl (by decide))), ⟨kv, e.keep _ _ k1 trivial (.inr (h.ne (i := 6) (j := 1) rfl rfl (by decide))), e.led k2⟩, ⟨ms, e.keep _ _ m1 trivial (.inr (h.ne (i := 7) (j := 1) rfl rfl (by decide))), e.mks m2⟩, e.keep _ _ h.pr trivial (.inr (h.ne (i := 8) (j := 1) rfl rfl (by decide))), h.nd⟩
theorem ChAt.set_ld (h : ChAt K C H c A s) (r : List Int) : ChAt K C (upd H A.ld (.lst (r.map V.int))) c A { s with loads := r } := by
  obtain ⟨us0, s1, s2⟩ := h.st
  obtain ⟨ps, p1, p2⟩ := h.sp
  obtain ⟨kv, k1, k2⟩ := h.lg
  obtain ⟨ms, m1, m2⟩ := h.mr
  have e : Sx [] [A.ld] H (upd H A.ld (.lst (r.map V.int))) := sx_upd h.ld rfl List.mem_cons_self
  exact ⟨e.keep _ _ h.ins trivial (.inr (h.ne (i := 0) (j := 2) rfl rfl (by decide))), e.keep _ _ h.own trivial (.inl rfl), ⟨us0, e.tup s1, e.dps 3 _ _ (noL_way _) s2⟩, e.tup h.nw, e.keep _ _ h.rw trivial (.inr (h.ne (i := 1) (j := 2) rfl rfl (by decide))), upd_same, ⟨ps, e.keep _ _ p1 trivial (.inr (h.ne (i := 3) (j := 2) rfl rfl (by decide))), e.ams p2⟩, e.keep _ _ h.tm trivial (.inr (h.ne (i := 4) (j := 2) rfl rfl (by decide))), e.keep _ _ h.lv trivial (.inr (h.ne (i := 5) (j := 2) rfl rfl (by decide))), ⟨kv, e.keep _ _ k1 trivial (.inr (h.ne (i := 6) (j := 2) rfl rfl (by decide))), e.led k2⟩, ⟨ms, e.keep _ _ m1 trivial (.inr (h.ne (i := 7) (j := 2) rfl rfl (by decide))), e.mks m2⟩, e.keep _ _ h.pr trivial (.inr (h.ne (i := 8) (j := 2) rfl rfl (by decide))), h.nd⟩
theorem ChAt.set_sp (h : ChAt K C H c A s) {us : List V} {r : List Rat} (hu : AmL K H us r) : ChAt K C (upd H A.sp (.lst us)) c A { s with spots := r } := by
  obtain ⟨us0, s1, s2⟩ := h.st
  obtain ⟨ps, p1, p2⟩ := h.sp
  obtain ⟨kv, k1, k2⟩ := h.lg
  obtain ⟨ms, m1, m2⟩ := h.mr
  have e : Sx [] [A.sp] H (upd H A.sp (.lst us)) := sx_upd p1 rfl List.mem_cons_self
  exact ⟨e.keep _ _ h.ins trivial (.inr (h.ne (i := 0) (j := 3) rfl rfl (by decide))), e.keep _ _ h.own trivial (.inl rfl), ⟨us0, e.tup s1, e.dps 3 _ _ (noL_way _) s2⟩, e.tup h.nw, e.keep _ _ h.rw trivial (.inr (h.ne (i := 1) (j := 3) rfl rfl (by decide))), e.keep _ _ h.ld trivial (.inr (h.ne (i := 2) (j := 3) rfl rfl (by decide))), ⟨us, upd_same, e.ams hu⟩, e.keep _ _ h.tm trivial (.inr (h.ne (i := 4) (j := 3) rfl rfl (by decide))), e.keep _ _ h.lv trivial (.inr (h.ne (i := 5) (j := 3) rfl rfl (by decide))), ⟨kv, e.keep _ _ k1 trivial (.inr (h.ne (i := 6) (j := 3) rfl rfl (by decide))), e.led k2⟩, ⟨ms, e.keep _ _ m1 trivial (.inr (h.ne (i := 7) (j := 3) rfl rfl (by decide))), e.mks m2⟩, e.keep _ _ h.pr trivial (.inr (h.ne (i := 8) (j := 3) rfl rfl (by decide))), h.nd⟩
theorem ChAt.set_tm (h : ChAt K C H c A s) (r : List (Str × Int)) : ChAt K C (upd H A.tm (.dK (tmV r))) c A { s with tempos := r } := by
  obtain ⟨us0, s1, s2⟩ := h.st
  obtain ⟨ps, p1, p2⟩ := h.sp
  obtain ⟨kv, k1, k2⟩ := h.lg
  obtain ⟨ms, m1, m2⟩ := h.mr
  have e : Sx [] [A.tm] H (upd H A.tm (.dK (tmV r))) := sx_upd h.tm rfl List.mem_cons_self
  exact ⟨e.keep _ _ h.ins trivial (.inr (h.ne (i := 0) (j := 4) rfl rfl (by decide))), e.keep _ _ h.own trivial (.inl rfl), ⟨us0, e.tup s1, e.dps 3 _ _ (noL_way _) s2⟩, e.tup h.nw, e.keep _ _ h.rw trivial (.inr (h.ne (i := 1) (j := 4) rfl rfl (by decide))), e.keep _ _ h.ld trivial (.inr (h.ne (i := 2) (j := 4) rfl rfl (by decide))), ⟨ps, e.keep _ _ p1 trivial (.inr (h.ne (i := 3) (j := 4) rfl rfl (by decide))), e.ams p2⟩, upd_same, e.keep _ _ h.lv trivial (.inr (h.ne (i := 5) (j := 4) rfl rfl (by decide))), ⟨kv, e.keep _ _ k1 trivial (.inr (h.ne (i := 6) (j := 4) rfl rfl (by decide))), e.led k2⟩, ⟨ms, e.keep _ _ m1 trivial (.inr (h.ne (i := 7) (j := 4) rfl rfl (by decide))), e.mks m2⟩, e.keep _ _ h.pr trivial (.inr (h.ne (i := 8) (j := 4) rfl rfl (by decide))), h.nd⟩
theorem ChAt.set_lv (h : ChAt K C H c A s) (r : List Str) : ChAt K C (upd H A.lv (.lst (r.map V.str))) c A { s with leaving := r } := by
  obtain ⟨us0, s1, s2⟩ := h.st
  obtain ⟨ps, p1, p2⟩ := h.sp
  obtain ⟨kv, k1, k2⟩ := h.lg
  obtain ⟨ms, m1, m2⟩ := h.mr
  have e : Sx [] [A.lv] H (upd H A.lv (.lst (r.map V.str))) := sx_upd h.lv rfl List.mem_cons_self
  exact ⟨e.keep _ _ h.ins trivial (.inr (h.ne (i := 0) (j := 5) rfl rfl (by decide))), e.keep _ _ h.own trivial (.inl rfl), ⟨us0, e.tup s1, e.dps 3 _ _ (noL_way _) s2⟩, e.tup h.nw, e.keep _ _ h.rw trivial (.inr (h.ne (i := 1) (j := 5) rfl rfl (by decide))), e.keep _ _ h.ld trivial (.inr (h.ne (i := 2) (j := 5) rfl rfl (by decide))), ⟨ps, e.keep _ _ p1 trivial (.inr (h.ne (i := 3) (j := 5) rfl rfl (by decide))), e.ams p2⟩, e.keep _ _ h.tm trivial (.inr (h.ne (i := 4) (j := 5) rfl rfl (by decide))), upd_same, ⟨kv, e.keep _ _ k1 trivial (.inr (h.ne (i := 6) (j := 5) rfl rfl (by decide))), e.led k2⟩, ⟨ms, e.keep _ _ m1 trivial (.inr (h.ne (i := 7) (j := 5) rfl rfl (by decide))), e.mks m2⟩, e.keep _ _ h.pr trivial (.inr (h.ne (i := 8) (j := 5) rfl rfl (by decide))), h.nd⟩
theorem ChAt.set_lg (h : ChAt K C H c A s) {kvs : List (L2.Key × V)} {r : List (Str × (Rat × Rat × Rat))} (hu : LedL K H kvs r) : ChAt K C (upd H A.lg (.dK kvs)) c A { s with ledgers := r } := by
  obtain ⟨us0, s1, s2⟩ := h.st
  obtain ⟨ps, p1, p2⟩ := h.sp
  obtain ⟨kv, k1, k2⟩ := h.lg
  obtain ⟨ms, m1, m2⟩ := h.mr
  have e : Sx [] [A.lg] H (upd H A.lg (.dK kvs)) := sx_upd k1 rfl List.mem_cons_self
  exact ⟨e.keep _ _ h.ins trivial (.inr (h.ne (i := 0) (j := 6) rfl rfl (by decide))), e.keep _ _ h.own trivial (.inl rfl), ⟨us0, e.tup s1, e.dps 3 _ _ (noL_way _) s2⟩, e.tup h.nw, e.keep _ _ h.rw trivial (.inr (h.ne (i := 1) (j := 6) rfl rfl (by decide))), e.keep _ _ h.ld trivial (.inr (h.ne (i := 2) (j := 6) rfl rfl (by decide))), ⟨ps, e.keep _ _ p1 trivial (.inr (h.ne (i := 3) (j := 6) rfl rfl (by decide))), e.ams p2⟩, e.keep _ _ h.tm trivial (.inr (h.ne (i := 4) (j := 6) rfl rfl (by decide))), e.keep _ _ h.lv trivial (.inr (h.ne (i := 5) (j := 6) rfl rfl (by decide))), ⟨kvs, upd_same, e.led hu⟩, ⟨ms, e.keep _ _ m1 trivial (.inr (h.ne (i := 7) (j := 6) rfl rfl (by decide))), e.mks m2⟩, e.keep _ _ h.pr trivial (.inr (h.ne (i := 8) (j := 6) rfl rfl (by decide))), h.nd⟩
theorem ChAt.set_mr (h : ChAt K C H c A s) {us : List V} {r : List (List (Str × Rat))} (hu : DpAll K H us (r.map mkD)) : ChAt K C (upd H A.mr (.lst us)) c A { s with marks := r } := by
  obtain ⟨us0, s1, s2⟩ := h.st
  obtain ⟨ps, p1, p2⟩ := h.sp
  obtain ⟨kv, k1, k2⟩ := h.lg
  obtain ⟨ms, m1, m2⟩ := h.mr
  have e : Sx [] [A.mr] H (upd H A.mr (.lst us)) := sx_upd m1 rfl List.mem_cons_self
  exact ⟨e.keep _ _ h.ins trivial (.inr (h.ne (i := 0) (j := 7) rfl rfl (by decide))), e.keep _ _ h.own trivial (.inl rfl), ⟨us0, e.tup s1, e.dps 3 _ _ (noL_way _) s2⟩, e.tup h.nw, e.keep _ _ h.rw trivial (.inr (h.ne (i := 1) (j := 7) rfl rfl (by decide))), e.keep _ _ h.ld trivial (.inr (h.ne (i := 2) (j := 7) rfl rfl (by decide))), ⟨ps, e.keep _ _ p1 trivial (.inr (h.ne (i := 3) (j := 7) rfl rfl (by decide))), e.ams p2⟩, e.keep _ _ h.tm trivial (.inr (h.ne (i := 4) (j := 7) rfl rfl (by decide))), e.keep _ _ h.lv trivial (.inr (h.ne (i := 5) (j := 7) rfl rfl (by decide))), ⟨kv, e.keep _ _ k1 trivial (.inr (h.ne (i := 6) (j := 7) rfl rfl (by decide))), e.led k2⟩, ⟨us, upd_same, e.mks hu⟩, e.keep _ _ h.pr trivial (.inr (h.ne (i := 8) (j := 7) rfl rfl (by decide))), h.nd⟩
theorem ChAt.set_pr (h : ChAt K C H c A s) (r : List Int) : ChAt K C (upd H A.pr (.lst (r.map V.int))) c A { s with poured := r } := by
  obtain ⟨us0, s1, s2⟩ := h.st
  obtain ⟨ps, p1, p2⟩ := h.sp
  obtain ⟨kv, k1, k2⟩ := h.lg
  obtain ⟨ms, m1, m2⟩ := h.mr
  have e : Sx [] [A.pr] H (upd H A.pr (.lst (r.map V.int))) := sx_upd h.pr rfl List.mem_cons_self
  exact ⟨e.keep _ _ h.ins trivial (.inr (h.ne (i := 0) (j := 8) rfl rfl (by decide))), e.keep _ _ h.own trivial (.inl rfl), ⟨us0, e.tup s1, e.dps 3 _ _ (noL_way _) s2⟩, e.tup h.nw, e.keep _ _ h.rw trivial (.inr (h.ne (i := 1) (j := 8) rfl rfl (by decide))), e.keep _ _ h.ld trivial (.inr (h.ne (i := 2) (j := 8) rfl rfl (by decide))), ⟨ps, e.keep _ _ p1 trivial (.inr (h.ne (i := 3) (j := 8) rfl rfl (by decide))), e.ams p2⟩, e.keep _ _ h.tm trivial (.inr (h.ne (i := 4) (j := 8) rfl rfl (by decide))), e.keep _ _ h.lv trivial (.inr (h.ne (i := 5) (j := 8) rfl rfl (by decide))), ⟨kv, e.keep _ _ k1 trivial (.inr (h.ne (i := 6) (j := 8) rfl rfl (by decide))), e.led k2⟩, ⟨ms, e.keep _ _ m1 trivial (.inr (h.ne (i := 7) (j := 8) rfl rfl (by decide))), e.mks m2⟩, upd_same, h.nd⟩
theorem ChAt.re_nw (h : ChAt K C H c A s) {n : Addr} {t : Rat} (hn : SqT K H n (tv (am t))) : ChAt K C (upd H c (.ins C A.dx (flds s.fire { A with nw := n }))) c { A with nw := n } { s with now := t } := by
  obtain ⟨us0, s1, s2⟩ := h.st
  obtain ⟨ps, p1, p2⟩ := h.sp
  obtain ⟨kv, k1, k2⟩ := h.lg
  obtain ⟨ms, m1, m2⟩ := h.mr
  have e : Sx [] [c] H (upd H c (.ins C A.dx (flds s.fire { A with nw := n }))) := sx_upd h.ins rfl List.mem_cons_self
  exact ⟨upd_same, e.keep _ _ h.own trivial (.inl rfl), ⟨us0, e.tup s1, e.dps 3 _ _ (noL_way _) s2⟩, e.tup hn, e.keep _ _ h.rw trivial (.inr (h.ne (i := 1) (j := 0) rfl rfl (by decide))), e.keep _ _ h.ld trivial (.inr (h.ne (i := 2) (j := 0) rfl rfl (by decide))), ⟨ps, e.keep _ _ p1 trivial (.inr (h.ne (i := 3) (j := 0) rfl rfl (by decide))), e.ams p2⟩, e.keep _ _ h.tm trivial (.inr (h.ne (i := 4) (j := 0) rfl rfl (by decide))), e.keep _ _ h.lv trivial (.inr (h.ne (i := 5) (j := 0) rfl rfl (by decide))), ⟨kv, e.keep _ _ k1 trivial (.inr (h.ne (i := 6) (j := 0) rfl rfl (by decide))), e.led k2⟩, ⟨ms, e.keep _ _ m1 trivial (.inr (h.ne (i := 7) (j := 0) rfl rfl (by decide))), e.mks m2⟩, e.keep _ _ h.pr trivial (.inr (h.ne (i := 8) (j := 0) rfl rfl (by decide))), h.nd⟩
theorem ChAt.re_rw (h : ChAt K C H c A s) {n : Addr} {r : List Str} (hn : H n = some (.lst (r.map V.str))) (np : n ∉ ownC c A) : ChAt K C (upd H c (.ins C A.dx (flds s.fire { A with rw := n }))) c { A with rw := n } { s with row := r } := by
  obtain ⟨us0, s1, s2⟩ := h.st
  obtain ⟨ps, p1, p2⟩ := h.sp
  obtain ⟨kv, k1, k2⟩ := h.lg
  obtain ⟨ms, m1, m2⟩ := h.mr
  have e : Sx [] [c] H (upd H c (.ins C A.dx (flds s.fire { A with rw := n }))) := sx_upd h.ins rfl List.mem_cons_self
  exact ⟨upd_same, e.keep _ _ h.own trivial (.inl rfl), ⟨us0, e.tup s1, e.dps 3 _ _ (noL_way _) s2⟩, e.tup h.nw, e.keep _ _ hn trivial (.inr (fun z => np (by have e : n = c := List.mem_singleton.mp z; rw [e]; exact List.mem_cons_self))), e.keep _ _ h.ld trivial (.inr (h.ne (i := 2) (j := 0) rfl rfl (by decide))), ⟨ps, e.keep _ _ p1 trivial (.inr (h.ne (i := 3) (j := 0) rfl rfl (by decide))), e.ams p2⟩, e.keep _ _ h.tm trivial (.inr (h.ne (i := 4) (j := 0) rfl rfl (by decide))), e.keep _ _ h.lv trivial (.inr (h.ne (i := 5) (j := 0) rfl rfl (by decide))), ⟨kv, e.keep _ _ k1 trivial (.inr (h.ne (i := 6) (j := 0) rfl rfl (by decide))), e.led k2⟩, ⟨ms, e.keep _ _ m1 trivial (.inr (h.ne (i := 7) (j := 0) rfl rfl (by decide))), e.mks m2⟩, e.keep _ _ h.pr trivial (.inr (h.ne (i := 8) (j := 0) rfl rfl (by decide))), nd_set h.nd (i := 1) rfl np⟩
theorem ChAt.re_ld (h : ChAt K C H c A s) {n : Addr} {r : List Int} (hn : H n = some (.lst (r.map V.int))) (np : n ∉ ownC c A) : ChAt K C (upd H c (.ins C A.dx (flds s.fire { A with ld := n }))) c { A with ld := n } { s with loads := r } := by
  obtain ⟨us0, s1, s2⟩ := h.st
  obtain ⟨ps, p1, p2⟩ := h.sp
  obtain ⟨kv, k1, k2⟩ := h.lg
  obtain ⟨ms, m1, m2⟩ := h.mr
  have e : Sx [] [c] H (upd H c (.ins C A.dx (flds s.fire { A with ld := n }))) := sx_upd h.ins rfl List.mem_cons_self
  exact ⟨upd_same, e.keep _ _ h.own trivial (.inl rfl), ⟨us0, e.tup s1, e.dps 3 _ _ (noL_way _) s2⟩, e.tup h.nw, e.keep _ _ h.rw trivial (.inr (h.ne (i := 1) (j := 0) rfl rfl (by decide))), e.keep _ _ hn trivial (.inr (fun z => np (by have e : n = c := List.mem_singleton.mp z; rw [e]; exact List.mem_cons_self))), ⟨ps, e.keep _ _ p1 trivial (.inr (h.ne (i := 3) (j := 0) rfl rfl (by decide))), e.ams p2⟩, e.keep _ _ h.tm trivial (.inr (h.ne (i := 4) (j := 0) rfl rfl (by decide))), e.keep _ _ h.lv trivial (.inr (h.ne (i := 5) (j := 0) rfl rfl (by decide))), ⟨kv, e.keep _ _ k1 trivial (.inr (h.ne (i := 6) (j := 0) rfl rfl (by decide))), e.led k2⟩, ⟨ms, e.keep _ _ m1 trivial (.inr (h.ne (i := 7) (j := 0) rfl rfl (by decide))), e.mks m2⟩, e.keep _ _ h.pr trivial (.inr (h.ne (i := 8) (j := 0) rfl rfl (by decide))), nd_set h.nd (i := 2) rfl np⟩
theorem ChAt.re_sp (h : ChAt K C H c A s) {n : Addr} {us : List V} {r : List Rat} (hn : H n = some (.lst us)) (hu : AmL K H us r) (np : n ∉ ownC c A) : ChAt K C (upd H c (.ins C A.dx (flds s.fire { A with sp := n }))) c { A with sp := n } { s with spots := r } := by
  obtain ⟨us0, s1, s2⟩ := h.st
  obtain ⟨ps, p1, p2⟩ := h.sp
  obtain ⟨kv, k1, k2⟩ := h.lg
  obtain ⟨ms, m1, m2⟩ := h.mr
  have e : Sx [] [c] H (upd H c (.ins C A.dx (flds s.fire { A with sp := n }))) := sx_upd h.ins rfl List.mem_cons_self
  exact ⟨upd_same, e.keep _ _ h.own trivial (.inl rfl), ⟨us0, e.tup s1, e.dps 3 _ _ (noL_way _) s2⟩, e.tup h.nw, e.keep _ _ h.rw trivial (.inr (h.ne (i := 1) (j := 0) rfl rfl (by decide))), e.keep _ _ h.ld trivial (.inr (h.ne (i := 2) (j := 0) rfl rfl (by decide))), ⟨us, e.keep _ _ hn trivial (.inr (fun z => np (by have e : n = c := List.mem_singleton.mp z; rw [e]; exact List.mem_cons_self))), e.ams hu⟩, e.keep _ _ h.tm trivial (.inr (h.ne (i := 4) (j := 0) rfl rfl (by decide))), e.keep _ _ h.lv trivial (.inr (h.ne (i := 5) (j := 0) rfl rfl (by decide))), ⟨kv, e.keep _ _ k1 trivial (.inr (h.ne (i := 6) (j := 0) rfl rfl (by decide))), e.led k2⟩, ⟨ms, e.keep _ _ m1 trivial (.inr (h.ne (i := 7) (j := 0) rfl rfl (by decide))), e.mks m2⟩, e.keep _ _ h.pr trivial (.inr (h.ne (i := 8) (j := 0) rfl rfl (by decide))), nd_set h.nd (i := 3) rfl np⟩
theorem ChAt.re_tm (h : ChAt K C H c A s) {n : Addr} {r : List (Str × Int)} (hn : H n = some (.dK (tmV r))) (np : n ∉ ownC c A) : ChAt K C (upd H c (.ins C A.dx (flds s.fire { A with tm := n }))) c { A with tm := n } { s with tempos := r } := by
  obtain ⟨us0, s1, s2⟩ := h.st
  obtain ⟨ps, p1, p2⟩ := h.sp
  obtain ⟨kv, k1, k2⟩ := h.lg
  obtain ⟨ms, m1, m2⟩ := h.mr
  have e : Sx [] [c] H (upd H c (.ins C A.dx (flds s.fire { A with tm := n }))) := sx_upd h.ins rfl List.mem_cons_self
  exact ⟨upd_same, e.keep _ _ h.own trivial (.inl rfl), ⟨us0, e.tup s1, e.dps 3 _ _ (noL_way _) s2⟩, e.tup h.nw, e.keep _ _ h.rw trivial (.inr (h.ne (i := 1) (j := 0) rfl rfl (by decide))), e.keep _ _ h.ld trivial (.inr (h.ne (i := 2) (j := 0) rfl rfl (by decide))), ⟨ps, e.keep _ _ p1 trivial (.inr (h.ne (i := 3) (j := 0) rfl rfl (by decide))), e.ams p2⟩, e.keep _ _ hn trivial (.inr (fun z => np (by have e : n = c := List.mem_singleton.mp z; rw [e]; exact List.mem_cons_self))), e.keep _ _ h.lv trivial (.inr (h.ne (i := 5) (j := 0) rfl rfl (by decide))), ⟨kv, e.keep _ _ k1 trivial (.inr (h.ne (i := 6) (j := 0) rfl rfl (by decide))), e.led k2⟩, ⟨ms, e.keep _ _ m1 trivial (.inr (h.ne (i := 7) (j := 0) rfl rfl (by decide))), e.mks m2⟩, e.keep _ _ h.pr trivial (.inr (h.ne (i := 8) (j := 0) rfl rfl (by decide))), nd_set h.nd (i := 4) rfl np⟩
theorem ChAt.re_lv (h : ChAt K C H c A s) {n : Addr} {r : List Str} (hn : H n = some (.lst (r.map V.str))) (np : n ∉ ownC c A) : ChAt K C (upd H c (.ins C A.dx (flds s.fire { A with lv := n }))) c { A with lv := n } { s with leaving := r } := by
  obtain ⟨us0, s1, s2⟩ := h.st
  obtain ⟨ps, p1, p2⟩ := h.sp
  obtain ⟨kv, k1, k2⟩ := h.lg
  obtain ⟨ms, m1, m2⟩ := h.mr
  have e : Sx [] [c] H (upd H c (.ins C A.dx (flds s.fire { A with lv := n }))) := sx_upd h.ins rfl List.mem_cons_self
  exact ⟨upd_same, e.keep _ _ h.own trivial (.inl rfl), ⟨us0, e.tup s1, e.dps 3 _ _ (noL_way _) s2⟩, e.tup h.nw, e.keep _ _ h.rw trivial (.inr (h.ne (i := 1) (j := 0) rfl rfl (by decide))), e.keep _ _ h.ld trivial (.inr (h.ne (i := 2) (j := 0) rfl rfl (by decide))), ⟨ps, e.keep _ _ p1 trivial (.inr (h.ne (i := 3) (j := 0) rfl rfl (by decide))), e.ams p2⟩, e.keep _ _ h.tm trivial (.inr (h.ne (i := 4) (j := 0) rfl rfl (by decide))), e.keep _ _ hn trivial (.inr (fun z => np (by have e : n = c := List.mem_singleton.mp z; rw [e]; exact List.mem_cons_self))), ⟨kv, e.keep _ _ k1 trivial (.inr (h.ne (i := 6) (j := 0) rfl rfl (by decide))), e.led k2⟩, ⟨ms, e.keep _ _ m1 trivial (.inr (h.ne (i := 7) (j := 0) rfl rfl (by decide))), e.mks m2⟩, e.keep _ _ h.pr trivial (.inr (h.ne (i := 8) (j := 0) rfl rfl (by decide))), nd_set h.nd (i := 5) rfl np⟩
theorem ChAt.re_lg (h : ChAt K C H c A s) {n : Addr} {kvs : List (L2.Key × V)} {r : List (Str × (Rat × Rat × Rat))} (hn : H n = some (.dK kvs)) (hu : LedL K H kvs r) (np : n ∉ ownC c A) : ChAt K C (upd H c (.ins C A.dx (flds s.fire { A with lg := n }))) c { A with lg := n } { s with ledgers := r } := by
  obtain ⟨us0, s1, s2⟩ := h.st
  obtain ⟨ps, p1, p2⟩ := h.sp
  obtain ⟨kv, k1, k2⟩ := h.lg
  obtain ⟨ms, m1, m2⟩ := h.mr
  have e : Sx [] [c] H (upd H c (.ins C A.dx (flds s.fire { A with lg := n }))) := sx_upd h.ins rfl List.mem_cons_self
  exact ⟨upd_same, e.keep _ _ h.own trivial (.inl rfl), ⟨us0, e.tup s1, e.dps 3 _ _ (noL_way _) s2⟩, e.tup h.nw, e.keep _ _ h.rw trivial (.inr (h.ne (i := 1) (j := 0) rfl rfl (by decide))), e.keep _ _ h.ld trivial (.inr (h.ne (i := 2) (j := 0) rfl rfl (by decide))), ⟨ps, e.keep _ _ p1 trivial (.inr (h.ne (i := 3) (j := 0) rfl rfl (by decide))), e.ams p2⟩, e.keep _ _ h.tm trivial (.inr (h.ne (i := 4) (j := 0) rfl rfl (by decide))), e.keep _ _ h.lv trivial (.inr (h.ne (i := 5) (j := 0) rfl rfl (by decide))), ⟨kvs, e.keep _ _ hn trivial (.inr (fun z => np (by have e : n = c := List.mem_singleton.mp z; rw [e]; exact List.mem_cons_self))), e.led hu⟩, ⟨ms, e.keep _ _ m1 trivial (.inr (h.ne (i := 7) (j := 0) rfl rfl (by decide))), e.mks m2⟩, e.keep _ _ h.pr trivial (.inr (h.ne (i := 8) (j := 0) rfl rfl (by decide))), nd_set h.nd (i := 6) rfl np⟩
theorem ChAt.re_mr (h : ChAt K C H c A s) {n : Addr} {us : List V} {r : List (List (Str × Rat))} (hn : H n = some (.lst us)) (hu : DpAll K H us (r.map mkD)) (np : n ∉ ownC c A) : ChAt K C (upd H c (.ins C A.dx (flds s.fire { A with mr := n }))) c { A with mr := n } { s with marks := r } := by
  obtain ⟨us0, s1, s2⟩ := h.st
  obtain ⟨ps, p1, p2⟩ := h.sp
  obtain ⟨kv, k1, k2⟩ := h.lg
  obtain ⟨ms, m1, m2⟩ := h.mr
  have e : Sx [] [c] H (upd H c (.ins C A.dx (flds s.fire { A with mr := n }))) := sx_upd h.ins rfl List.mem_cons_self
  exact ⟨upd_same, e.keep _ _ h.own trivial (.inl rfl), ⟨us0, e.tup s1, e.dps 3 _ _ (noL_way _) s2⟩, e.tup h.nw, e.keep _ _ h.rw trivial (.inr (h.ne (i := 1) (j := 0) rfl rfl (by decide))), e.keep _ _ h.ld trivial (.inr (h.ne (i := 2) (j := 0) rfl rfl (by decide))), ⟨ps, e.keep _ _ p1 trivial (.inr (h.ne (i := 3) (j := 0) rfl rfl (by decide))), e.ams p2⟩, e.keep _ _ h.tm trivial (.inr (h.ne (i := 4) (j := 0) rfl rfl (by decide))), e.keep _ _ h.lv trivial (.inr (h.ne (i := 5) (j := 0) rfl rfl (by decide))), ⟨kv, e.keep _ _ k1 trivial (.inr (h.ne (i := 6) (j := 0) rfl rfl (by decide))), e.led k2⟩, ⟨us, e.keep _ _ hn trivial (.inr (fun z => np (by have e : n = c := List.mem_singleton.mp z; rw [e]; exact List.mem_cons_self))), e.mks hu⟩, e.keep _ _ h.pr trivial (.inr (h.ne (i := 8) (j := 0) rfl rfl (by decide))), nd_set h.nd (i := 7) rfl np⟩
theorem ChAt.re_pr (h : ChAt K C H c A s) {n : Addr} {r : List Int} (hn : H n = some (.lst (r.map V.int))) (np : n ∉ ownC c A) : ChAt K C (upd H c (.ins C A.dx (flds s.fire { A with pr := n }))) c { A with pr := n } { s with poured := r } := by
  obtain ⟨us0, s1, s2⟩ := h.st
  obtain ⟨ps, p1, p2⟩ := h.sp
  obtain ⟨kv, k1, k2⟩ := h.lg
  obtain ⟨ms, m1, m2⟩ := h.mr
  have e : Sx [] [c] H (upd H c (.ins C A.dx (flds s.fire { A with pr := n }))) := sx_upd h.ins rfl List.mem_cons_self
  exact ⟨upd_same, e.keep _ _ h.own trivial (.inl rfl), ⟨us0, e.tup s1, e.dps 3 _ _ (noL_way _) s2⟩, e.tup h.nw, e.keep _ _ h.rw trivial (.inr (h.ne (i := 1) (j := 0) rfl rfl (by decide))), e.keep _ _ h.ld trivial (.inr (h.ne (i := 2) (j := 0) rfl rfl (by decide))), ⟨ps, e.keep _ _ p1 trivial (.inr (h.ne (i := 3) (j := 0) rfl rfl (by decide))), e.ams p2⟩, e.keep _ _ h.tm trivial (.inr (h.ne (i := 4) (j := 0) rfl rfl (by decide))), e.keep _ _ h.lv trivial (.inr (h.ne (i := 5) (j := 0) rfl rfl (by decide))), ⟨kv, e.keep _ _ k1 trivial (.inr (h.ne (i := 6) (j := 0) rfl rfl (by decide))), e.led k2⟩, ⟨ms, e.keep _ _ m1 trivial (.inr (h.ne (i := 7) (j := 0) rfl rfl (by decide))), e.mks m2⟩, e.keep _ _ hn trivial (.inr (fun z => np (by have e : n = c := List.mem_singleton.mp z; rw [e]; exact List.mem_cons_self))), nd_set h.nd (i := 8) rfl np⟩
theorem ChAt.some (h : ChAt K C H c A s) {x : Addr} (hx : x ∈ ownC c A) : ∃ o, H x = some o ∧ mutO o = true := by
  obtain ⟨ps, p1, p2⟩ := h.sp
  obtain ⟨kv, k1, k2⟩ := h.lg
  obtain ⟨ms, m1, m2⟩ := h.mr
  simp only [ownC, List.mem_cons, List.not_mem_nil, or_false] at hx
  rcases hx with rfl | rfl | rfl | rfl | rfl | rfl | rfl | rfl | rfl
  · exact ⟨_, h.ins, rfl⟩
  · exact ⟨_, h.rw, rfl⟩
  · exact ⟨_, h.ld, rfl⟩
  · exact ⟨_, p1, rfl⟩
  · exact ⟨_, h.tm, rfl⟩
  · exact ⟨_, h.lv, rfl⟩
  · exact ⟨_, k1, rfl⟩
  · exact ⟨_, m1, rfl⟩
  · exact ⟨_, h.pr, rfl⟩
theorem ChAt.new (h : ChAt K C H c A s) {n : Addr} (hn : H n = none) : n ∉ ownC c A := fun hx => by
  obtain ⟨o, ho, _⟩ := h.some hx
  rw [hn] at ho
  cases ho
end

structure Kl (K : PySem.W.Frag) (C : Addr) : Prop where
  cl : Cls K C
  no : ∀ f ∈ FLD, NoAttr K C f

/-! ### dicts by names -/
def getL {α : Type} (l : List (Str × α)) (n : Str) : Option α := (l.find? fun x => decide (x.1 = n)).map (·.2)
def putL {α : Type} (l : List (Str × α)) (n : Str) (a : α) : List (Str × α) := if (l.any fun x => decide (x.1 = n)) = true then l.map (fun x => if x.1 = n then (x.1, a) else x) else l ++ [(n, a)]
theorem inr_eq {a b : Str} : ((Sum.inr a : L2.Key) = Sum.inr b) ↔ a = b := ⟨fun h => Sum.inr.inj h, fun h => by rw [h]⟩
theorem val_tm (l : List (Str × Int)) (n : Str) : valV (tmV l) (Sum.inr n) = (getL l n).map V.int := by
  unfold valV getL tmV
  induction l with
  | nil => rfl
  | cons x l ih =>
    rw [List.map_cons, List.find?_cons, List.find?_cons]
    by_cases h : x.1 = n
    · rw [decide_eq_true h, decide_eq_true (inr_eq.mpr h)]
      rfl
    · rw [decide_eq_false h, decide_eq_false (fun z => h (inr_eq.mp z))]
      exact ih
theorem any_tm (l : List (Str × Int)) (n : Str) : ((tmV l).any fun kv => decide (kv.1 = Sum.inr n)) = l.any fun x => decide (x.1 = n) := by
  unfold tmV
  rw [List.any_map]
  congr 1
  funext x
  show decide ((Sum.inr x.1 : L2.Key) = Sum.inr n) = decide (x.1 = n)
  exact decide_eq_decide.mpr inr_eq
theorem put_tm (l : List (Str × Int)) (n : Str) (p : Int) : putK (tmV l) (Sum.inr n) (V.int p) = tmV (putL l n p) := by
  unfold putK putL
  rw [any_tm]
  split
  · unfold tmV
    rw [List.map_map, List.map_map]
    refine List.map_congr_left fun x _ => ?_
    show (if (Sum.inr x.1 : L2.Key) = Sum.inr n then _ else _) = _
    by_cases h : x.1 = n
    · rw [if_pos (inr_eq.mpr h)]
      simp only [Function.comp, if_pos h]
    · rw [if_neg (fun z => h (inr_eq.mp z))]
      simp only [Function.comp, if_neg h]
  · unfold tmV
    rw [List.map_append]
    rfl
theorem led_val {K : PySem.W.Frag} {H : Hp} : ∀ {kvs : List (L2.Key × V)} {l : List (Str × (Rat × Rat × Rat))}, LedL K H kvs l → ∀ n : Str,
    (getL l n = none ∧ valV kvs (Sum.inr n) = none) ∨ ∃ x v, getL l n = some x ∧ valV kvs (Sum.inr n) = some v ∧ Dp K H v (ledD x)
  | [], [], _, n => .inl ⟨rfl, rfl⟩
  | [], _ :: _, h, n => by cases h.1
  | _ :: _, [], h, n => by cases h.1
  | kv :: kvs, x :: l, h, n => by
    obtain ⟨h1, h2⟩ := h
    rw [List.map_cons, List.map_cons] at h1 h2
    have e1 := (List.cons.inj h1).1
    have e2 := (List.cons.inj h1).2
    cases h2 with
    | cons d1 d2 =>
      unfold getL valV
      rw [List.find?_cons, List.find?_cons]
      by_cases hn : x.1 = n
      · rw [decide_eq_true hn, decide_eq_true (by rw [e1, hn])]
        exact .inr ⟨x.2, kv.2, rfl, rfl, d1⟩
      · rw [decide_eq_false hn, decide_eq_false (fun z => by rw [e1] at z; exact hn (inr_eq.mp z))]
        exact led_val ⟨e2, d2⟩ n
theorem led_any {K : PySem.W.Frag} {H : Hp} : ∀ {kvs : List (L2.Key × V)} {l : List (Str × (Rat × Rat × Rat))}, LedL K H kvs l → ∀ n : Str, (kvs.any fun kv => decide (kv.1 = Sum.inr n)) = l.any fun x => decide (x.1 = n)
  | [], [], _, n => rfl
  | [], _ :: _, h, n => by cases h.1
  | _ :: _, [], h, n => by cases h.1
  | kv :: kvs, x :: l, h, n => by
    obtain ⟨h1, h2⟩ := h
    rw [List.map_cons, List.map_cons] at h1 h2
    cases h2 with
    | cons d1 d2 =>
      rw [List.any_cons, List.any_cons, led_any ⟨(List.cons.inj h1).2, d2⟩ n, (List.cons.inj h1).1]
      congr 1
      exact decide_eq_decide.mpr inr_eq
theorem led_map {K : PySem.W.Frag} {H : Hp} {n : Str} {v : V} {x : Rat × Rat × Rat} (hv : Dp K H v (ledD x)) : ∀ {kvs : List (L2.Key × V)} {l : List (Str × (Rat × Rat × Rat))}, LedL K H kvs l →
    LedL K H (kvs.map fun kv => if kv.1 = Sum.inr n then (kv.1, v) else kv) (l.map fun y => if y.1 = n then (y.1, x) else y)
  | [], [], _ => ⟨rfl, .nil⟩
  | [], _ :: _, h => by cases h.1
  | _ :: _, [], h => by cases h.1
  | kv :: kvs, y :: l, h => by
    obtain ⟨h1, h2⟩ := h
    rw [List.map_cons, List.map_cons] at h1 h2
    have e1 := (List.cons.inj h1).1
    cases h2 with
    | cons d1 d2 =>
      have ih := led_map hv (n := n) ⟨(List.cons.inj h1).2, d2⟩
      by_cases hn : y.1 = n
      · have hk : kv.1 = Sum.inr n := by rw [e1, hn]
        refine ⟨?_, ?_⟩
        · rw [List.map_cons, List.map_cons, List.map_cons, List.map_cons, if_pos hk, if_pos hn, ih.1]
          exact congrArg (· :: _) e1
        · simp only [List.map_cons, if_pos hk, if_pos hn]
          exact .cons hv ih.2
      · have hk : kv.1 ≠ Sum.inr n := fun z => hn (inr_eq.mp (e1.symm.trans z))
        refine ⟨?_, ?_⟩
        · rw [List.map_cons, List.map_cons, List.map_cons, List.map_cons, if_neg hk, if_neg hn, ih.1]
          exact congrArg (· :: _) e1
        · simp only [List.map_cons, if_neg hk, if_neg hn]
          exact .cons d1 ih.2
theorem led_put {K : PySem.W.Frag} {H : Hp} {kvs : List (L2.Key × V)} {l : List (Str × (Rat × Rat × Rat))} (h : LedL K H kvs l) {n : Str} {v : V} {x : Rat × Rat × Rat} (hv : Dp K H v (ledD x)) : LedL K H (putK kvs (Sum.inr n) v) (putL l n x) := by
  unfold putK putL
  rw [led_any h]
  split
  · exact led_map hv h
  · refine ⟨?_, ?_⟩
    · rw [List.map_append, List.map_append, h.1]
      rfl
    · rw [List.map_append, List.map_append]
      exact dpa_app h.2 (.cons hv .nil)
theorem led_len {K : PySem.W.Frag} {H : Hp} {kvs : List (L2.Key × V)} {l : List (Str × (Rat × Rat × Rat))} (h : LedL K H kvs l) : kvs.length = l.length := by
  have := congrArg List.length h.1
  rw [List.length_map, List.length_map] at this
  exact this
theorem getL_put {α : Type} (l : List (Str × α)) (n m : Str) (a : α) : getL (putL l n a) m = if n = m then some a else getL l m := by
  unfold putL
  split
  · rename_i h
    unfold getL
    induction l with
    | nil => cases h
    | cons x l ih =>
      rw [List.map_cons, List.find?_cons, List.find?_cons]
      by_cases hx : x.1 = n
      · rw [if_pos hx]
        by_cases hm : n = m
        · rw [if_pos hm, decide_eq_true (show x.1 = m by rw [hx, hm])]
          rfl
        · rw [if_neg hm, decide_eq_false (show ¬ x.1 = m by rw [hx]; exact hm)]
          dsimp only
          by_cases ha : (l.any fun x => decide (x.1 = n)) = true
          · have := ih ha
            rw [if_neg hm] at this
            exact this
          · have e : l.map (fun x => if x.1 = n then (x.1, a) else x) = l := by
              refine (List.map_congr_left fun y hy => ?_).trans (List.map_id l)
              refine if_neg fun z => ha (List.any_eq_true.mpr ⟨y, hy, decide_eq_true z⟩)
            rw [e]
      · rw [if_neg hx]
        rw [List.any_cons, decide_eq_false hx, Bool.false_or] at h
        by_cases hm : x.1 = m
        · rw [decide_eq_true hm]
          by_cases hnm : n = m
          · exact absurd (hm.trans hnm.symm) hx
          · rw [if_neg hnm]
        · rw [decide_eq_false hm]
          exact ih h
  · rename_i h
    unfold getL
    rw [List.find?_append]
    by_cases hm : n = m
    · rw [if_pos hm]
      have e : l.find? (fun x => decide (x.1 = m)) = none := by
        rw [List.find?_eq_none]
        intro y hy z
        exact h (List.any_eq_true.mpr ⟨y, hy, by rw [hm]; exact z⟩)
      rw [e, Option.none_or, List.find?_cons, decide_eq_true (show (n, a).1 = m from hm)]
      rfl
    · rw [if_neg hm]
      cases e : l.find? (fun x => decide (x.1 = m)) with
      | some y => rfl
      | none =>
        rw [Option.none_or, List.find?_cons, decide_eq_false (show ¬ (n, a).1 = m from hm)]
        rfl
theorem putL_len {α : Type} (l : List (Str × α)) (n : Str) (a : α) : (putL l n a).length ≤ l.length + 1 := by
  unfold putL
  split
  · rw [List.length_map]; omega
  · rw [List.length_append]; exact Nat.le_refl _
theorem putL_has {α : Type} {l : List (Str × α)} {n : Str} {a b : α} (h : getL l n = some b) : (putL l n a).length = l.length := by
  unfold putL
  rw [if_pos, List.length_map]
  unfold getL at h
  cases e : l.find? (fun x => decide (x.1 = n)) with
  | none => rw [e] at h; cases h
  | some y => exact List.any_eq_true.mpr ⟨y, List.mem_of_find?_eq_some e, by have := List.find?_some e; simpa using this⟩
theorem flat_strs (l : List Str) : (l.map V.str).all flatV = true := by
  rw [List.all_map]
  exact List.all_eq_true.mpr fun _ _ => rfl
theorem inV_strs (n : Str) (l : List Str) : inV (.str n) (l.map V.str) = decide (n ∈ l) := by
  unfold inV
  induction l with
  | nil => simp
  | cons x l ih =>
    rw [List.map_cons, List.any_cons, ih]
    show ((x == n) || _) = _
    by_cases h : x = n
    · subst h
      simp
    · have e : (x == n) = false := by simpa using h
      rw [e, Bool.false_or]
      refine decide_eq_decide.mpr ?_
      rw [List.mem_cons]
      exact ⟨.inr, fun z => z.resolve_left fun y => h y.symm⟩

theorem dpa_dropLast {K : PySem.W.Frag} {H : Hp} {vs : List V} {ds : List PyData} (h : DpAll K H vs ds) : DpAll K H vs.dropLast ds.dropLast := by
  rw [List.dropLast_eq_take, List.dropLast_eq_take, dpa_len h]
  exact dpa_take _ h
theorem AmL.dropLast {K : PySem.W.Frag} {H : Hp} {us : List V} {xs : List Rat} (h : AmL K H us xs) : AmL K H us.dropLast xs.dropLast := by
  have := dpa_dropLast h
  unfold AmL
  rw [List.map_dropLast, List.map_dropLast]
  exact this

def sp_p_is_number (K : PySem.W.Frag) (T : Tb) : Sp := fun vs H Q _ => ∃ i : Int, vs = [.int i] ∧ Q (.bl true) H
theorem ok_p_is_number {f : Addr} {fd : FuncData} (F : Fun K "is_number" "is_number" s_p_is_number f fd) (B : Bn mg) : FnOk P w K mg base CX0 1 f fd ["thing"] (sp_p_is_number K T) := by
  refine F.ok sc_p_is_number (fun vs H Q E h => ?_) (fun cdv A outer s H vs Q E hr h => ?_)
  · obtain ⟨i, rfl, _⟩ := h
    rfl
  · obtain ⟨i, rfl, q⟩ := h
    refine ⟨_, (pss_one (ps_ret (pe_and (pe_callB call_isi (by rfl) B.isinstance_ (by decide +kernel) (pa_cons (pv 0) (pa_cons (pe_bltn (v := .ty "int") (by rfl) B.int_ (by decide +kernel) rfl) pa_nil))) (pe_one (pe_not (pe_callB call_isi (by rfl) B.isinstance_ (by decide +kernel) (pa_cons (pv 0) (pa_cons (pe_bltn (v := .ty "bool") (by rfl) B.bool_ (by decide +kernel) rfl) pa_nil)))))))), ?_⟩
    refine ⟨_, rfl, _, _, _, _, true, rfl, .ty "int", .base (.int i), kit_ty kb_int_int, _, rfl, iteT ?_⟩
    exact ⟨_, rfl, _, _, _, _, false, rfl, .ty "bool", .base (.int i), kit_ty kb_int_bool, _, rfl, q⟩
def sp_p_is_within (K : PySem.W.Frag) (T : Tb) : Sp := fun vs H Q _ => ∃ i l m : Int, vs = [.int i, .int l, .int m] ∧ Q (.bl (decide (l ≤ i) && decide (i ≤ m))) H
theorem ok_p_is_within {f : Addr} {fd : FuncData} (F : Fun K "is_within" "is_within" s_p_is_within f fd) (F_p_is_number : Fn P w K mg base 1 "is_number" ["thing"] (sp_p_is_number K T)) : FnOk P w K mg base CX0 2 f fd ["thing", "least", "most"] (sp_p_is_within K T) := by
  refine F.ok sc_p_is_within (fun vs H Q E h => ?_) (fun cdv A outer s H vs Q E hr h => ?_)
  · obtain ⟨i, l, m, rfl, _⟩ := h
    rfl
  · obtain ⟨i, l, m, rfl, q⟩ := h
    refine ⟨_, (pss_one (ps_ret (pe_and (pe_fn F_p_is_number (hr.mono (by decide)) (pa_cons (pv 0) pa_nil)) (pe_one (pe_chain op_le op_le (pv 1) (pv 0) (pv 2)))))), ?_⟩
    refine ⟨_, rfl, i, rfl, _, rfl, iteT ?_⟩
    refine ⟨_, rfl, _, rfl, _, _, rfl, rfl, _, rfl, ?_⟩
    by_cases h : l ≤ i
    · rw [decide_eq_true h, Bool.true_and] at q
      rw [decide_eq_true h]
      exact iteT ⟨_, rfl, _, _, rfl, rfl, q⟩
    · rw [decide_eq_false h, Bool.false_and] at q
      rw [decide_eq_false h]
      exact iteF q
def paceB (z : Int) : Bool := decide (1 ≤ z) && decide (z ≤ 12)
def sp_p_check_pace (K : PySem.W.Frag) (T : Tb) (CP : Addr) : Sp := fun vs H Q E => ∃ z : Int, vs = [.int z] ∧ (paceB z = true → Q .non H) ∧ (paceB z = false → ∀ cls d H', Sm T H H' → Rf K CP "bad pace" cls d H' → E cls d H')
theorem ok_p_check_pace {f : Addr} {fd : FuncData} {u_MOST_PACE : Value} (F : Fun K "check_pace" "check_pace" s_p_check_pace f fd) (C_MOST_PACE : RelV (.int 12) u_MOST_PACE ∧ mg "MOST_PACE" = some u_MOST_PACE) {CP : Addr} (R_BadPace : Err P w K mg base CP "BadPace" "bad pace") (F_p_is_within : Fn P w K mg base 2 "is_within" ["thing", "least", "most"] (sp_p_is_within K T)) : FnOk P w K mg base (L2.CX P w) 4 f fd ["pace"] (sp_p_check_pace K T CP) := by
  obtain ⟨⟨tM, rfl⟩, gM⟩ := id C_MOST_PACE
  refine F.okX sc_p_check_pace (fun vs H Q E h => ?_) (fun cdv A outer s H vs Q E hr h => ?_)
  · obtain ⟨z, rfl, _⟩ := h
    rfl
  · obtain ⟨z, rfl, k1, k2⟩ := h
    refine ⟨_, (pss_one (ps_if (pt_not (pt_val (pe_fn F_p_is_within (hr.mono (by decide)) (pa_cons (pv 0) (pa_cons pe_int (pa_cons (pe_glob (by rfl) C_MOST_PACE.2 C_MOST_PACE.1) pa_nil)))))) (pss_one (ps_raise rfl (takes_of rfl rfl rfl rfl) (pmk_err R_BadPace (hr.mono (by decide)) (by rfl)))) pss_nil)), ?_⟩
    refine ⟨_, rfl, z, 1, 12, rfl, _, rfl, ?_⟩
    show if (!(paceB z)) = true then _ else _
    cases hz : paceB z with
    | true => exact iteF (k1 hz)
    | false => exact iteT fun cls dd hn rf => k2 hz cls (some dd) _ (same_upd hn) rf

theorem elt_rng {prog : Program} {w : World} {scope : Scope} {x lo hi : Str} {j1 j2 : Nat} {p1 p2 p3 p4 : Pos} (hk : scope.kind = .function) (hl : scope.names.lookup x = some .local) (hd : (x == ("__debug__" : Str)) = false := by decide) :
    GxR.EltP prog w scope x (.Compare (.Constant (.str lo) j1 p1) [.LtE, .LtE] [.Name x p2, .Constant (.str hi) j2 p3] p4) (fun c => !decide ([c] < lo.cps.toList) && !decide (hi.cps.toList < [c])) := by
  intro cenv A' E' c t s₂ m₂ hs hn hm
  refine Compare_chain ?_ (by with_unfolding_all rfl)
  refine Calls.Constant_str (chain_link ?_)
  refine wpAny_Name (wpAny_loadName_local (by rw [hs]; exact hk) (show cenv.scope.names.lookup x = some .local by rw [hs]; exact hl) (hn.keeps fun _ _ e => e) hm ?_) hd
  refine PySem.P.le_str (wpAny_truthy_bool ?_)
  show (if (!decide ([c] < lo.cps.toList)) = true then _ else _)
  cases h1 : (!decide ([c] < lo.cps.toList)) with
  | false =>
    refine ite_ff ⟨?_, GxR.keeps_tok _ _⟩
    show Value.bool false = Value.bool (!decide ([c] < lo.cps.toList) && !decide (hi.cps.toList < [c]))
    rw [h1, Bool.false_and]
  | true =>
    refine ite_tt (chain_last (Calls.Constant_str (PySem.P.le_str ⟨?_, GxR.keeps_tok _ _⟩)))
    show Value.bool (!decide (hi.cps.toList < [c])) = Value.bool (!decide ([c] < lo.cps.toList) && !decide (hi.cps.toList < [c]))
    rw [h1, Bool.true_and]
def letB (c : Nat) : Bool := !decide ([c] < (("a" : Str)).cps.toList) && !decide ((("z" : Str)).cps.toList < [c])
def nameB (n : Str) : Bool := (decide (1 ≤ n.length) && decide (n.length ≤ 8)) && n.cps.toList.all letB
def sp_p_is_name (K : PySem.W.Frag) (T : Tb) : Sp := fun vs H Q _ => ∃ n : Str, vs = [.str n] ∧ n.length ≤ sizeLine ∧ Ok T H ∧ ∀ H', Sm T H H' → Q (.bl (nameB n)) H'
theorem ok_p_is_name {f : Addr} {fd : FuncData} {u_MOST_LETTERS : Value} {c PT : Addr} (F : FunC K "is_name" "is_name" s_p_is_name f fd c) (hnT : (T.map (·.1)).Nodup) (hPT : (PT, (none : Option Str)) ∈ T) (TB : GxR.TabB base mg c PT) (B : Bn mg) (C_MOST_LETTERS : RelV (.int 8) u_MOST_LETTERS ∧ mg "MOST_LETTERS" = some u_MOST_LETTERS) : FnOk P w K mg base CX0 1 f fd ["text"] (sp_p_is_name K T) := by
  obtain ⟨⟨tM, rfl⟩, gM⟩ := id C_MOST_LETTERS
  refine F.ok sc_p_is_name (fun vs H Q E h => ?_) (fun A outer s H vs Q E hr h => ?_)
  · obtain ⟨n, rfl, _⟩ := h
    rfl
  · obtain ⟨n, rfl, hsz, hok, q⟩ := h
    refine ⟨_, (pss_one (ps_ret (pe_and (pe_chain op_le op_le pe_int (pe_callB call_len_str (by rfl) B.len_ (by decide +kernel) (pa_cons (pv 0) pa_nil)) (pe_glob (by rfl) C_MOST_LETTERS.2 C_MOST_LETTERS.1)) (pe_one (GxR.pe_allS hr (by rfl) B.all_ (by decide +kernel) TB rfl (gens_by (by decide +kernel)) (pv 0) (elt_rng rfl rfl) (fun _ => rfl)))))), ?_⟩
    refine ⟨_, rfl, n, rfl, hsz, _, _, rfl, rfl, _, rfl, ?_⟩
    have q0 := fun H' (s : Sm T H H') => q H' s
    unfold nameB at q0
    by_cases h1 : 1 ≤ n.length
    · rw [decide_eq_true (show (1 : Int) ≤ (n.length : Int) by omega)]
      refine iteT ⟨_, _, rfl, rfl, _, rfl, ?_⟩
      by_cases h2 : n.length ≤ 8
      · rw [decide_eq_true (show (n.length : Int) ≤ 8 by omega)]
        refine iteT ⟨_, rfl, n, rfl, hok _ hPT, fun H2 ht => ?_⟩
        have r := q0 H2 (sm_tabbed hnT hPT (hok _ hPT) ht)
        rw [decide_eq_true h1, decide_eq_true h2, Bool.true_and, Bool.true_and] at r
        exact r
      · rw [decide_eq_false (show ¬ (n.length : Int) ≤ 8 by omega)]
        have r := q0 H Sm.refl
        rw [decide_eq_false h2, Bool.and_false, Bool.false_and] at r
        exact iteF r
    · rw [decide_eq_false (show ¬ (1 : Int) ≤ (n.length : Int) by omega)]
      have r := q0 H Sm.refl
      rw [decide_eq_false h1, Bool.false_and, Bool.false_and] at r
      exact iteF ⟨_, rfl, iteF r⟩
def sp_p_check_name (K : PySem.W.Frag) (T : Tb) (CP : Addr) : Sp := fun vs H Q E => ∃ n : Str, vs = [.str n] ∧ n.length ≤ sizeLine ∧ Ok T H ∧ (nameB n = true → ∀ H', Sm T H H' → Q .non H') ∧ (nameB n = false → ∀ cls d H', Sm T H H' → Rf K CP "bad name" cls d H' → E cls d H')
theorem ok_p_check_name {f : Addr} {fd : FuncData} (F : Fun K "check_name" "check_name" s_p_check_name f fd) {CP : Addr} (R_BadName : Err P w K mg base CP "BadName" "bad name") (F_p_is_name : Fn P w K mg base 1 "is_name" ["text"] (sp_p_is_name K T)) : FnOk P w K mg base (L2.CX P w) 4 f fd ["name"] (sp_p_check_name K T CP) := by
  refine F.okX sc_p_check_name (fun vs H Q E h => ?_) (fun cdv A outer s H vs Q E hr h => ?_)
  · obtain ⟨n, rfl, _⟩ := h
    rfl
  · obtain ⟨n, rfl, hsz, hok, k1, k2⟩ := h
    refine ⟨_, (pss_one (ps_if (pt_not (pt_val (pe_fn F_p_is_name (hr.mono (by decide)) (pa_cons (pv 0) pa_nil)))) (pss_one (ps_raise rfl (takes_of rfl rfl rfl rfl) (pmk_err R_BadName (hr.mono (by decide)) (by rfl)))) pss_nil)), ?_⟩
    refine ⟨_, rfl, n, rfl, hsz, hok, fun H1 s1 => ⟨_, rfl, ?_⟩⟩
    cases hz : nameB n with
    | true => exact iteF (k1 hz H1 s1)
    | false => exact iteT fun cls dd hn rf => k2 hz cls (some dd) _ (s1.trans (same_upd hn)) rf

def takeS (s : Ch) : Ch := { s with marks := s.marks ++ [[]], loads := (s.marks.length : Int) :: s.loads, spots := 0 :: s.spots }
def sp_p_Chain_take_pail (K : PySem.W.Frag) (T : Tb) (CC : Addr) : Sp := fun vs H Q _ => ∃ (c : Addr) (A : Ad) (s : Ch), vs = [.ref c] ∧ ChAt K CC H c A s ∧ (s.marks.length < 5000 ∧ s.loads.length < 100 ∧ s.spots.length < 100) ∧
  ∀ H', Sx T (ownC c A) H H' → ChAt K CC H' c A (takeS s) → Q (.int s.marks.length) H'
theorem ok_p_Chain_take_pail {f : Addr} {fd : FuncData} {a_NOUGHT : Addr} (F : Fun K "take_pail" "Chain.take_pail" s_p_Chain_take_pail f fd) (B : Bn mg) (g_NOUGHT : mg "NOUGHT" = some (.ref a_NOUGHT)) (s_NOUGHT : ∀ H, SqT K H a_NOUGHT [.int 0, .int 1]) {CC : Addr} (TC : Kl K CC) : FnOk P w K mg base CX0 1 f fd ["self"] (sp_p_Chain_take_pail K T CC) := by
  refine F.ok sc_p_Chain_take_pail (fun vs H Q E h => ?_) (fun cdv A outer s H vs Q E hr h => ?_)
  · obtain ⟨c, A, s, rfl, _⟩ := h
    rfl
  · obtain ⟨c, A, s, rfl, h, ⟨l1, l2, l3⟩, q⟩ := h
    refine ⟨_, (pss_cons (ps_set (i := 1) sc_p_Chain_take_pail.nd rfl (.inl rfl) (pe_callB call_len_seq (by rfl) B.len_ (by decide +kernel) (pa_cons (pe_fc TC.cl (TC.no "marks" (by decide +kernel)) (pv 0)) pa_nil)))
      (pss_cons (ps_expr (pe_bm PySem.F.plainAttrs_list PySem.F.slot_list_append PySem.F.type_list_append mt_append (pe_fc TC.cl (TC.no "marks" (by decide +kernel)) (pv 0)) (pa_cons (pe_tup pa_nil) pa_nil)))
      (pss_cons (ps_expr (pe_bm PySem.F.plainAttrs_list PySem.F.slot_list_insert PySem.F.type_list_insert mt_insert (pe_fc TC.cl (TC.no "loads" (by decide +kernel)) (pv 0)) (pa_cons pe_int (pa_cons (pv 1) pa_nil))))
      (pss_cons (ps_expr (pe_bm PySem.F.plainAttrs_list PySem.F.slot_list_insert PySem.F.type_list_insert mt_insert (pe_fc TC.cl (TC.no "spots" (by decide +kernel)) (pv 0)) (pa_cons pe_int (pa_cons (pe_glob (v := .ref a_NOUGHT) (by rfl) g_NOUGHT rfl) pa_nil))))
      (pss_one (ps_ret (pv 1))))))), ?_⟩
    obtain ⟨ms, m1, m2⟩ := h.mr
    have lm : ms.length = s.marks.length := by rw [dpa_len m2, List.length_map]
    refine ⟨_, rfl, c, _, _, _, rfl, h.ins, fl_mk, A.mr, ms, rfl, .inl (SqL.of m1), ?_⟩
    refine ⟨_, rfl, c, _, _, _, rfl, h.ins, fl_mk, .inl ⟨rfl, _, SqL.of m1⟩, by show 0 ≤ sizeLine; decide, fun t nt => ?_⟩
    have u1 := same_upd (T := T) (o := .tup []) nt
    have h1 := h.sm u1
    refine ⟨A.mr, ms, _, rfl, rfl, u1.k m1, szl (by omega), ?_⟩
    have d2 : DpAll K (upd H t (.tup [])) (ms ++ [.ref t]) ((s.marks ++ [[]]).map mkD) := by
      rw [List.map_append]
      exact dpa_app (dpa_same u1 _ _ m2) (.cons (.tup (SqT.of upd_same) .nil) .nil)
    have h2 := h1.set_mr d2
    have x2 : Sx T (ownC c A) H _ := u1.sx.step (sx_upd (o := .lst (ms ++ [.ref t])) (u1.k m1) rfl (by simp [ownC]))
    refine ⟨_, rfl, c, _, _, _, rfl, h2.ins, fl_ld, .inl ⟨rfl, _, SqL.of h2.ld⟩, _, rfl, A.ld, _, 0, _, rfl, rfl, h2.ld, by rw [List.length_map]; exact szl (by show s.loads.length < _; omega), by decide, by decide, ?_⟩
    have h3 := h2.set_ld ((s.marks.length : Int) :: s.loads)
    have x3 := x2.step (sx_upd (o := .lst (((s.marks.length : Int) :: s.loads).map V.int)) h2.ld rfl (by simp [ownC]))
    obtain ⟨ps, p1, p2⟩ := h3.sp
    have lp := p2.len
    rw [lm]
    refine ⟨_, rfl, c, _, _, _, rfl, h3.ins, fl_sp, .inl ⟨rfl, _, SqL.of p1⟩, A.sp, _, 0, _, rfl, rfl, p1, szl (by have : s.spots.length < 100 := l3; have e : ps.length = s.spots.length := lp; omega), by decide, by decide, ?_⟩
    have d4 : AmL K (upd (upd (upd H t (.tup [])) A.mr (.lst (ms ++ [.ref t]))) A.ld (.lst (((s.marks.length : Int) :: s.loads).map V.int))) (.ref a_NOUGHT :: ps) (0 :: s.spots) := .cons (amD_dp (by rw [am_zero]; exact s_NOUGHT _)) p2
    have h4 := h3.set_sp d4
    have x4 := x3.step (sx_upd (o := .lst (.ref a_NOUGHT :: ps)) p1 rfl (by simp [ownC]))
    exact ⟨_, rfl, q _ x4 h4⟩

def enterW (s : Ch) (n : Str) (p : Int) : Option Str := if nameB n = true then (if n ∈ s.row then some "taken" else if paceB p = true then (if s.row.length < 8 then none else some "full") else some "bad pace") else some "bad name"
def enterS (s : Ch) (n : Str) (p : Int) : Ch := takeS { s with row := n :: s.row, tempos := putL s.tempos n p, ledgers := if (getL s.ledgers n).isSome = true then s.ledgers else putL s.ledgers n (0, 0, 0) }
theorem led0 {K : PySem.W.Frag} {H : Hp} {t a : Addr} (h : SqT K H t [.ref a, .ref a, .ref a]) (ha : SqT K H a (tv ((0, 1) : Am))) : Dp K H (.ref t) (ledD (0, 0, 0)) := by
  have d : Dp K H (.ref a) (amD (am 0)) := amD_dp (by rw [am_zero]; exact ha)
  exact .tup h (.cons d (.cons d (.cons d .nil)))
def sp_p_Chain_enter (K : PySem.W.Frag) (T : Tb) (CP CC : Addr) : Sp := fun vs H Q E => ∃ (c : Addr) (A : Ad) (s : Ch) (n : Str) (p : Int), vs = [.ref c, .str n, .int p] ∧ ChAt K CC H c A s ∧ n.length ≤ sizeLine ∧ Ok T H ∧ (s.marks.length < 5000 ∧ s.loads.length < 100 ∧ s.spots.length < 100 ∧ s.row.length < 100 ∧ s.tempos.length < 1000 ∧ s.ledgers.length < 1000) ∧
  (enterW s n p = none → ∀ H', Sx T (ownC c A) H H' → ChAt K CC H' c A (enterS s n p) → Q (.int s.marks.length) H') ∧ (∀ wd, enterW s n p = some wd → ∀ cls d H', Sm T H H' → Rf K CP wd cls d H' → E cls d H')
theorem ok_p_Chain_enter {f : Addr} {fd : FuncData} {u_MOST_HANDS : Value} {a_NOUGHT : Addr} (F : Fun K "enter" "Chain.enter" s_p_Chain_enter f fd) (B : Bn mg) (C_MOST_HANDS : RelV (.int 8) u_MOST_HANDS ∧ mg "MOST_HANDS" = some u_MOST_HANDS) (g_NOUGHT : mg "NOUGHT" = some (.ref a_NOUGHT)) (s_NOUGHT : ∀ H, SqT K H a_NOUGHT [.int 0, .int 1]) {CP : Addr} (R_Taken : Err P w K mg base CP "Taken" "taken") (R_Full : Err P w K mg base CP "Full" "full") {CC : Addr} (TC : Kl K CC) (F_p_check_pace : Fx P w K mg base 4 "check_pace" ["pace"] (sp_p_check_pace K T CP)) (F_p_check_name : Fx P w K mg base 4 "check_name" ["name"] (sp_p_check_name K T CP)) (M_take_pail : Mt P w K mg base CC 1 "take_pail" ["self"] (sp_p_Chain_take_pail K T CC)) : FnOk P w K mg base (L2.CX P w) 5 f fd ["self", "name", "pace"] (sp_p_Chain_enter K T CP CC) := by
  obtain ⟨⟨tM, rfl⟩, gM⟩ := id C_MOST_HANDS
  refine F.okX sc_p_Chain_enter (fun vs H Q E h => ?_) (fun cdv A outer s H vs Q E hr h => ?_)
  · obtain ⟨c, A, s, n, p, rfl, _⟩ := h
    rfl
  · obtain ⟨c, A, s, n, p, rfl, h, hsz, hok, ⟨l1, l2, l3, l4, l5, l6⟩, k1, k2⟩ := h
    refine ⟨_, (pss_cons (ps_expr (pe_fx F_p_check_name (hr.mono (by decide)) (takes_of rfl rfl rfl rfl) (pa_cons (pv 1) pa_nil)))
      (pss_cons (ps_if (pt_cmpR op_in_seq (pv 1) (pe_fc TC.cl (TC.no "row" (by decide +kernel)) (pv 0)) (by rfl)) (pss_one (ps_raise rfl (takes_of rfl rfl rfl rfl) (pmk_err R_Taken (hr.mono (by decide)) (by rfl)))) pss_nil)
      (pss_cons (ps_expr (pe_fx F_p_check_pace (hr.mono (by decide)) (takes_of rfl rfl rfl rfl) (pa_cons (pv 2) pa_nil)))
      (pss_cons (ps_if (pt_cmpR op_ge (pe_callB call_len_seq (by rfl) B.len_ (by decide +kernel) (pa_cons (pe_fc TC.cl (TC.no "row" (by decide +kernel)) (pv 0)) pa_nil)) (pe_glob (by rfl) C_MOST_HANDS.2 C_MOST_HANDS.1) (nomark _)) (pss_one (ps_raise rfl (takes_of rfl rfl rfl rfl) (pmk_err R_Full (hr.mono (by decide)) (by rfl)))) pss_nil)
      (pss_cons (ps_expr (pe_bm PySem.F.plainAttrs_list PySem.F.slot_list_insert PySem.F.type_list_insert mt_insert (pe_fc TC.cl (TC.no "row" (by decide +kernel)) (pv 0)) (pa_cons pe_int (pa_cons (pv 1) pa_nil))))
      (pss_cons (ps_dput (hu_of hr) (pe_fc TC.cl (TC.no "tempos" (by decide +kernel)) (pv 0)) (pv 1) (pv 2) rfl)
      (pss_cons (ps_if (pt_cmp (pc_dnotin (hu_of hr) (pv 1) (pe_fc TC.cl (TC.no "ledgers" (by decide +kernel)) (pv 0)))) (pss_one (ps_dput (hu_of hr) (pe_fc TC.cl (TC.no "ledgers" (by decide +kernel)) (pv 0)) (pv 1) (pe_tup (pa_cons (pe_glob (v := .ref a_NOUGHT) (by rfl) g_NOUGHT rfl) (pa_cons (pe_glob (v := .ref a_NOUGHT) (by rfl) g_NOUGHT rfl) (pa_cons (pe_glob (v := .ref a_NOUGHT) (by rfl) g_NOUGHT rfl) pa_nil)))) rfl)) pss_nil)
      (pss_one (ps_ret (pe_mt0 M_take_pail TC.cl (hr.mono (by decide)) (pv 0) )))))))))), ?_⟩
    refine ⟨_, rfl, n, rfl, hsz, hok, fun hn H1 s1 => ?_, fun hn cls d H' s' rf => k2 "bad name" (by unfold enterW; rw [hn]; rfl) cls d H' s' rf⟩
    have h1 := h.sm s1
    refine ⟨_, rfl, _, rfl, c, _, _, _, rfl, h1.ins, fl_rw, A.rw, _, rfl, .inl (SqL.of h1.rw), rfl, flat_strs _, _, rfl, ?_⟩
    show if (inV (.str n) (s.row.map V.str)) = true then _ else _
    rw [inV_strs]
    refine ite2 (fun e => ?_) (fun e => ?_)
    · have hm : n ∈ s.row := of_decide_eq_true e
      exact fun cls dd hn' rf => k2 "taken" (by unfold enterW; rw [if_pos hn, if_pos hm]) cls (some dd) _ (s1.trans (same_upd hn')) rf
    · have hm : n ∉ s.row := fun z => e (decide_eq_true z)
      refine ⟨_, rfl, p, rfl, fun hp => ?_, fun hp cls d H' s' rf => k2 "bad pace" (by unfold enterW; rw [if_pos hn, if_neg hm, hp]; rfl) cls d H' (s1.trans s') rf⟩
      refine ⟨_, rfl, c, _, _, _, rfl, h1.ins, fl_rw, A.rw, _, rfl, .inl (SqL.of h1.rw), _, _, rfl, rfl, _, rfl, ?_⟩
      rw [List.length_map]
      refine ite2 (fun e => ?_) (fun e => ?_)
      · have hl : ¬ s.row.length < 8 := by have := of_decide_eq_true e; omega
        exact fun cls dd hn' rf => k2 "full" (by unfold enterW; rw [if_pos hn, if_neg hm, if_pos hp, if_neg hl]) cls (some dd) _ (s1.trans (same_upd hn')) rf
      · have hl : s.row.length < 8 := by
          have e' : ¬ ((s.row.length : Int) ≥ 8) := fun z => e (decide_eq_true z)
          omega
        have k1 := k1 (by unfold enterW; rw [if_pos hn, if_neg hm, if_pos hp, if_pos hl])
        refine ⟨_, rfl, c, _, _, _, rfl, h1.ins, fl_rw, .inl ⟨rfl, _, SqL.of h1.rw⟩, _, rfl, A.rw, _, 0, _, rfl, rfl, h1.rw, by rw [List.length_map]; exact szl (by omega), by decide, by decide, ?_⟩
        have h2 := h1.set_rw (n :: s.row)
        have x2 : Sx T (ownC c A) H _ := s1.sx.step (sx_upd (o := .lst ((n :: s.row).map V.str)) h1.rw rfl (by simp [ownC]))
        refine ⟨_, rfl, _, rfl, c, _, _, _, rfl, h2.ins, fl_tm, _, rfl, A.tm, _, rfl, DPut.k (k := Sum.inr n) h2.tm (by unfold tmV; rw [List.length_map]; exact szl (by show s.tempos.length < _; omega)), ?_⟩
        rw [put_tm]
        have h3 := h2.set_tm (putL s.tempos n p)
        have x3 := x2.step (sx_upd (o := .dK (tmV (putL s.tempos n p))) h2.tm rfl (by simp [ownC]))
        dsimp only
        refine seq_if (fun σ' H4 => Sx T (ownC c A) H H4 ∧ ∃ x1 x2, σ' = [some (.ref c), x1, x2] ∧ ChAt K CC H4 c A { s with row := n :: s.row, tempos := putL s.tempos n p, ledgers := if (getL s.ledgers n).isSome = true then s.ledgers else putL s.ledgers n (0, 0, 0) }) (fun σ' H4 pp => ?_) (fun k => ?_)
        · obtain ⟨x4, y1, y2, rfl, h4⟩ := pp
          refine ⟨_, rfl, c, _, _, rfl, h4.ins, fl_no (by decide +kernel), c, A, _, rfl, h4, ⟨l1, l2, l3⟩, fun H5 x5 h5 => k1 H5 (x4.step x5) h5⟩
        · obtain ⟨kv, g1, g2⟩ := h3.lg
          refine ⟨_, rfl, _, rfl, c, _, _, _, rfl, h3.ins, fl_lg, A.lg, _, rfl, DGet.k (k := Sum.inr n) g1, _, rfl, ?_⟩
          rcases led_val g2 n with ⟨e1, e2⟩ | ⟨x, v, e1, e2, e3⟩
          · have e1 : getL s.ledgers n = none := e1
            rw [e2]
            refine iteT ⟨by show 3 ≤ sizeLine; decide, fun t nt => ?_⟩
            have u := same_upd (T := T) (o := .tup [.ref a_NOUGHT, .ref a_NOUGHT, .ref a_NOUGHT]) nt
            have h4 := h3.sm u
            have g3 := u.k g1
            refine ⟨_, rfl, c, _, _, _, rfl, h4.ins, fl_lg, _, rfl, A.lg, _, rfl, DPut.k (k := Sum.inr n) g3 (by rw [led_len g2]; exact szl (by show s.ledgers.length < _; omega)), ?_⟩
            have g4 : LedL K (upd (upd (upd H1 A.rw (.lst ((n :: s.row).map V.str))) A.tm (.dK (tmV (putL s.tempos n p)))) t (.tup [.ref a_NOUGHT, .ref a_NOUGHT, .ref a_NOUGHT])) (putK kv (Sum.inr n) (.ref t)) (putL s.ledgers n (0, 0, 0)) := led_put (u.sx (S := []) |>.led g2) (led0 (SqT.of upd_same) (s_NOUGHT _))
            have h5 := h4.set_lg g4
            have x5 := (x3.sm' u).step (sx_upd (o := .dK (putK kv (Sum.inr n) (.ref t))) g3 rfl (by simp [ownC]))
            refine k _ _ ⟨x5, _, _, rfl, ?_⟩
            rw [e1]
            exact h5
          · have e1 : getL s.ledgers n = some x := e1
            rw [e2]
            refine iteF (k _ _ ⟨x3, _, _, rfl, ?_⟩)
            rw [e1]
            exact h3

def wOk (q : Am) : Bool := (decide (1 ≤ q.1) && decide (q.1 ≤ 9)) && (decide (1 ≤ q.2) && decide (q.2 ≤ 9))
def wayB (qs : List Am) : Bool := (decide (1 ≤ qs.length) && decide (qs.length ≤ 6)) && qs.all wOk
def labourM (qs : List Am) : Int := (qs.map fun (q : Int × Int) => q.1 * q.2).sum
def stepsM (qs : List Am) : Int := (qs.map fun (q : Int × Int) => q.1).sum
theorem wOk_b {q : Am} (h : wOk q = true) : 1 ≤ q.1 ∧ q.1 ≤ 9 ∧ 1 ≤ q.2 ∧ q.2 ≤ 9 := by
  unfold wOk at h
  simp only [Bool.and_eq_true, decide_eq_true_eq] at h
  exact ⟨h.1.1, h.1.2, h.2.1, h.2.2⟩
theorem wayB_b {qs : List Am} (h : wayB qs = true) : 1 ≤ qs.length ∧ qs.length ≤ 6 ∧ ∀ q ∈ qs, 1 ≤ q.1 ∧ q.1 ≤ 9 ∧ 1 ≤ q.2 ∧ q.2 ≤ 9 := by
  unfold wayB at h
  simp only [Bool.and_eq_true, decide_eq_true_eq, List.all_eq_true] at h
  exact ⟨h.1.1, h.1.2, fun q hq => wOk_b (h.2 q hq)⟩
theorem sum_bd {c : Int} (hc : 0 ≤ c) : ∀ (l : List Int), (∀ z ∈ l, 0 ≤ z ∧ z ≤ c) → 0 ≤ l.sum ∧ l.sum ≤ c * (l.length : Int)
  | [], _ => by simp
  | z :: l, h => by
    have i := sum_bd hc l fun y hy => h y (List.mem_cons_of_mem _ hy)
    have j := h z List.mem_cons_self
    rw [List.sum_cons, List.length_cons]
    have e : c * ((l.length + 1 : Nat) : Int) = c * (l.length : Int) + c := by rw [Int.natCast_add, Int.mul_add]; simp
    rw [e]
    omega
theorem long_of {l : List Int} (h : ∀ z ∈ l, 0 ≤ z ∧ z ≤ 81) (hl : l.length ≤ 6) : ∀ j, j < l.length → InLong (l.getD j 0) ∧ InLong ((l.take (j + 1)).sum) := fun j hj => by
  constructor
  · rw [List.getD_eq_getElem?_getD, List.getElem?_eq_getElem hj]
    have := h _ (List.getElem_mem hj)
    show -(2 ^ 63) ≤ l[j] ∧ l[j] < 2 ^ 63
    omega
  · have s := sum_bd (c := 81) (by decide) (l.take (j + 1)) fun z hz => h z (List.mem_of_mem_take hz)
    have : ((l.take (j + 1)).length : Int) ≤ 6 := by rw [List.length_take]; omega
    show -(2 ^ 63) ≤ (l.take (j + 1)).sum ∧ (l.take (j + 1)).sum < 2 ^ 63
    omega
theorem pairs_of {K : PySem.W.Frag} {H : Hp} {a : Addr} {vs : List V} {qs : List Am} (hS : SqL K H a vs) (hd : DpAll K H vs (qs.map amD)) : Pairs K H a qs := by
  refine ⟨vs, hS, ?_, fun i p e => ?_⟩
  · rw [dpa_len hd, List.length_map]
  · obtain ⟨v, e1, e2⟩ := dpa_get hd (i := i) (d := amD p) (by rw [List.getElem?_map, e]; rfl)
    obtain ⟨b, rfl, hb⟩ := pd_at e2
    exact ⟨b, e1, hb⟩
def sp_p_is_stretch (K : PySem.W.Frag) (T : Tb) : Sp := fun vs H Q _ => ∃ b q, vs = [.ref b] ∧ SqT K H b (tv q) ∧ Ok T H ∧ ∀ H', Sm T H H' → Q (.bl (wOk q)) H'
theorem ok_p_is_stretch {f : Addr} {fd : FuncData} {u_MOST_STEPS_OR_TOIL : Value} {c PT : Addr} (F : FunC K "is_stretch" "is_stretch" s_p_is_stretch f fd c) (hnT : (T.map (·.1)).Nodup) (hPT : (PT, (none : Option Str)) ∈ T) (TB : GxR.TabB base mg c PT) (B : Bn mg) (C_MOST_STEPS_OR_TOIL : RelV (.int 9) u_MOST_STEPS_OR_TOIL ∧ mg "MOST_STEPS_OR_TOIL" = some u_MOST_STEPS_OR_TOIL) {fW fN : Addr} (Wt : WithAt K fW) (kW : PySem.W.keepIn K (.ref fW) = true) (gW : mg "is_within" = some (.ref fW)) (N : NumAt K fN) (kN : PySem.W.keepIn K (.ref fN) = true) (gN : mg "is_number" = some (.ref fN)) : FnOk P w K mg base CX0 1 f fd ["thing"] (sp_p_is_stretch K T) := by
  obtain ⟨⟨tM, rfl⟩, gM⟩ := C_MOST_STEPS_OR_TOIL
  refine F.ok sc_p_is_stretch (fun vs H Q E h => ?_) (fun A outer s H vs Q E hr h => ?_)
  · obtain ⟨b, q, rfl, _⟩ := h
    rfl
  · obtain ⟨b, q, rfl, hS, hok, k⟩ := h
    refine ⟨_, (pss_cons (ps_if (PW.pt (pw_or (pt_not (pt_val (pe_callB call_isi (by rfl) B.isinstance_ (by decide +kernel) (pa_cons (pv 0) (pa_cons (pe_bltn (v := .ty "tuple") (by rfl) B.tuple_ (by decide +kernel) rfl) pa_nil))))) (pw_or1 (pt_cmpR op_ne (pe_callB call_len_seq (by rfl) B.len_ (by decide +kernel) (pa_cons (pv 0) pa_nil)) pe_int (nomark _))))) (pss_one (ps_ret pe_bl)) pss_nil)
      (pss_one (ps_ret (pe_allI hnT hPT hr (by rfl) B.all_ (by decide +kernel) TB rfl (gens_by (by decide +kernel)) (pv 0) (elt_num hr Wt kW gW N kN gN gM rfl B.isinstance_ B.int_ B.bool_ rfl rfl rfl rfl) (fun _ => rfl))))), ?_⟩
    refine ⟨_, rfl, _, _, _, _, true, rfl, .ty "tuple", tyx_of (amD_dp hS), kit_ty kb_tuple_tuple, _, rfl, iteF ?_⟩
    refine ⟨_, rfl, b, _, rfl, .inr hS, rfl, _, rfl, iteF ?_⟩
    refine ⟨_, rfl, b, [q.1, q.2], rfl, hS, hok _ hPT, hok, fun H2 s2 => ?_⟩
    have e : ([q.1, q.2].all fun i => decide (1 ≤ i) && decide (i ≤ 9)) = wOk q := by
      unfold wOk
      rw [List.all_cons, List.all_cons, List.all_nil, Bool.and_true]
    rw [e]
    exact k H2 s2
def sp_p_check_way (K : PySem.W.Frag) (T : Tb) (CP : Addr) : Sp := fun vs H Q E => ∃ a us qs, vs = [.ref a] ∧ SqL K H a us ∧ DpAll K H us (qs.map amD) ∧ qs.length ≤ 1000 ∧ Ok T H ∧ (wayB qs = true → ∀ H', Sm T H H' → Q .non H') ∧
  (wayB qs = false → ∀ cls d H', Sm T H H' → Rf K CP "bad way" cls d H' → E cls d H')
theorem ok_p_check_way {f : Addr} {fd : FuncData} {u_MOST_STRETCHES : Value} (F : Fun K "check_way" "check_way" s_p_check_way f fd) (B : Bn mg) (C_MOST_STRETCHES : RelV (.int 6) u_MOST_STRETCHES ∧ mg "MOST_STRETCHES" = some u_MOST_STRETCHES) {CP : Addr} (R_BadWay : Err P w K mg base CP "BadWay" "bad way") (F_p_is_stretch : Fn P w K mg base 1 "is_stretch" ["thing"] (sp_p_is_stretch K T)) : FnOk P w K mg base (L2.CX P w) 4 f fd ["way"] (sp_p_check_way K T CP) := by
  refine F.okX sc_p_check_way (fun vs H Q E h => ?_) (fun cdv A outer s H vs Q E hr h => ?_)
  · obtain ⟨a, us, qs, rfl, _⟩ := h
    rfl
  · obtain ⟨a, us, qs, rfl, hS, hd, hl, hok, k1, k2⟩ := h
    obtain ⟨⟨tM, rfl⟩, gM⟩ := id C_MOST_STRETCHES
    refine ⟨_, (pss_cons (ps_if (pt_not (pt_chain op_le op_le pe_int (pe_callB call_len_seq (by rfl) B.len_ (by decide +kernel) (pa_cons (pv 0) pa_nil)) (pe_glob (by rfl) C_MOST_STRETCHES.2 C_MOST_STRETCHES.1))) (pss_one (ps_raise rfl (takes_of rfl rfl rfl rfl) (pmk_err R_BadWay (hr.mono (by decide)) (by rfl)))) pss_nil)
      (pss_one (ps_for (passes_of rfl) rfl (pi_list (pv 0)) (pg_name (i := 1) sc_p_check_way.nd rfl (.inl rfl))
      (pss_one (ps_if (pt_not (pt_val (pe_fn F_p_is_stretch (hr.mono (by decide)) (pa_cons (pv 1) pa_nil)))) (pss_one (ps_raise rfl (takes_of rfl rfl rfl rfl) (pmk_err R_BadWay (hr.mono (by decide)) (by rfl)))) pss_nil))))), ?_⟩
    have el : us.length = qs.length := by rw [dpa_len hd, List.length_map]
    have bad : wayB qs = false → ∀ (H1 : Hp), Sm T H H1 → tErr K CP "bad way" [] H1 (fun cls d H' => E cls d H') := fun hb H1 s1 cls dd hn rf => k2 hb cls (some dd) _ (s1.trans (same_upd hn)) rf
    refine ⟨_, rfl, a, us, rfl, .inl hS, _, _, rfl, rfl, _, rfl, ?_⟩
    by_cases h1 : (1 : Int) ≤ (us.length : Int)
    · rw [decide_eq_true h1]
      refine iteT ?_
      refine ⟨_, _, rfl, rfl, _, rfl, ?_⟩
      by_cases h2 : (us.length : Int) ≤ 6
      · rw [decide_eq_true h2]
        refine iteF ?_
        refine ⟨_, rfl, a, rfl, ⟨_, hS⟩, for_list (K := K) (a := a) (xs := us) (fun i σ H3 => Sm T H H3 ∧ (qs.take i).all wOk = true ∧ ∃ x, σ = [some (.ref a), x]) ⟨Sm.refl, by rw [List.take_zero]; rfl, _, rfl⟩ (fun i σ H3 _ ⟨s3, _⟩ => s3.seq hS) ?_ ?_⟩
        · rintro i v σ H3 hi ⟨s3, ha, x, rfl⟩
          have hil : i < qs.length := by rw [← el]; exact (List.getElem?_eq_some_iff.mp hi).1
          obtain ⟨v', e1, e2⟩ := dpa_get hd (i := i) (d := amD qs[i]) (by rw [List.getElem?_map, List.getElem?_eq_getElem hil]; rfl)
          rw [hi] at e1
          cases e1
          obtain ⟨b, rfl, hb⟩ := pd_at e2
          refine ⟨_, rfl, b, qs[i], rfl, same_tup s3 hb, s3.ok hok, fun H4 s4 => ⟨_, rfl, ?_⟩⟩
          cases hw : wOk qs[i] with
          | true =>
            refine iteF ?_
            refine ⟨s3.trans s4, ?_, _, rfl⟩
            rw [List.take_add_one, List.all_append, ha, List.getElem?_eq_getElem hil]
            show (true && ([qs[i]].all wOk)) = true
            rw [List.all_cons, hw]
            rfl
          | false =>
            refine iteT ?_
            refine bad ?_ H4 (s3.trans s4)
            unfold wayB
            rw [Bool.and_eq_false_iff]
            refine .inr ?_
            rw [List.all_eq_false]
            exact ⟨_, List.getElem_mem hil, by rw [hw]; decide⟩
        · rintro σ H3 ⟨s3, ha, x, rfl⟩
          refine k1 ?_ H3 s3
          rw [el, List.take_length] at ha
          unfold wayB
          rw [ha, Bool.and_true, Bool.and_eq_true]
          exact ⟨decide_eq_true (by omega), decide_eq_true (by omega)⟩
      · rw [decide_eq_false h2]
        refine iteT ?_
        refine bad ?_ H Sm.refl
        unfold wayB
        rw [Bool.and_eq_false_iff, Bool.and_eq_false_iff]
        exact .inl (.inr (decide_eq_false (by omega)))
    · rw [decide_eq_false h1]
      refine iteF ?_
      refine ⟨_, rfl, iteT ?_⟩
      refine bad ?_ H Sm.refl
      unfold wayB
      rw [Bool.and_eq_false_iff, Bool.and_eq_false_iff]
      exact .inl (.inl (decide_eq_false (by omega)))
def sp_p_labour (K : PySem.W.Frag) (T : Tb) (CP : Addr) : Sp := fun vs H Q E => ∃ a us qs, vs = [.ref a] ∧ SqL K H a us ∧ DpAll K H us (qs.map amD) ∧ qs.length ≤ 1000 ∧ Ok T H ∧ (wayB qs = true → ∀ H', Sm T H H' → Q (.int (labourM qs)) H') ∧
  (wayB qs = false → ∀ cls d H', Sm T H H' → Rf K CP "bad way" cls d H' → E cls d H')
theorem ok_p_labour {f : Addr} {fd : FuncData} {c PT : Addr} (F : FunC K "labour" "labour" s_p_labour f fd c) (hnT : (T.map (·.1)).Nodup) (hPT : (PT, (none : Option Str)) ∈ T) (TB : GxR.TabB base mg c PT) (B : Bn mg) {CP : Addr} (F_p_check_way : Fx P w K mg base 4 "check_way" ["way"] (sp_p_check_way K T CP)) : FnOk P w K mg base (L2.CX P w) 5 f fd ["way"] (sp_p_labour K T CP) := by
  refine F.okX sc_p_labour (fun vs H Q E h => ?_) (fun A outer s H vs Q E hr h => ?_)
  · obtain ⟨a, us, qs, rfl, _⟩ := h
    rfl
  · obtain ⟨a, us, qs, rfl, hS, hd, hl, hok, k1, k2⟩ := h
    refine ⟨_, (pss_cons (ps_expr (pe_fx F_p_check_way (hr.mono (by decide)) (takes_of rfl rfl rfl rfl) (pa_cons (pv 0) pa_nil)))
      (pss_one (ps_ret (pe_sumP hnT hPT hr (by rfl) B.sum_ (by decide +kernel) TB rfl (gens_by (by decide +kernel)) rfl (by decide) (pv 0) (elt_mul rfl rfl rfl) (fun _ => rfl))))), ?_⟩
    refine ⟨_, rfl, a, us, qs, rfl, hS, hd, hl, hok, fun hw H1 s1 => ?_, k2⟩
    have hb := wayB_b hw
    refine ⟨_, rfl, a, qs, rfl, (pairs_of hS hd).keep s1, fun q hq => by have := hb.2.2 q hq; omega, s1.ok hok _ hPT, ⟨s1.ok hok, ?_⟩, fun H2 s2 => k1 hw H2 (s1.trans s2)⟩
    have := long_of (l := qs.map fun (q : Int × Int) => q.1 * q.2) (fun z hz => ?_) (by rw [List.length_map]; exact hb.2.1)
    · rw [List.length_map] at this
      exact this
    · obtain ⟨q, hq, rfl⟩ := List.mem_map.mp hz
      have c := hb.2.2 q hq
      exact ⟨Int.mul_nonneg (by omega) (by omega), (Int.mul_le_mul c.2.1 c.2.2.2 (by omega) (by omega) : q.1 * q.2 ≤ 9 * 9)⟩

theorem pairs_ofT {K : PySem.W.Frag} {H : Hp} {a : Addr} {vs : List V} {qs : List Am} (hS : SqT K H a vs) (hd : DpAll K H vs (qs.map amD)) : PairsT K H a qs := by
  refine ⟨vs, hS, by rw [dpa_len hd, List.length_map], fun i p e => ?_⟩
  obtain ⟨v, e1, e2⟩ := dpa_get hd (i := i) (d := amD p) (by rw [List.getElem?_map, e]; rfl)
  obtain ⟨b, rfl, hb⟩ := pd_at e2
  exact ⟨b, e1, hb⟩
def sp_p_check_way_t (K : PySem.W.Frag) (T : Tb) (CP : Addr) : Sp := fun vs H Q E => ∃ a us qs, vs = [.ref a] ∧ SqT K H a us ∧ DpAll K H us (qs.map amD) ∧ qs.length ≤ 1000 ∧ Ok T H ∧ (wayB qs = true → ∀ H', Sm T H H' → Q .non H') ∧
  (wayB qs = false → ∀ cls d H', Sm T H H' → Rf K CP "bad way" cls d H' → E cls d H')
theorem ok_p_check_way_t {f : Addr} {fd : FuncData} {u_MOST_STRETCHES : Value} (F : Fun K "check_way" "check_way" s_p_check_way_t f fd) (B : Bn mg) (C_MOST_STRETCHES : RelV (.int 6) u_MOST_STRETCHES ∧ mg "MOST_STRETCHES" = some u_MOST_STRETCHES) {CP : Addr} (R_BadWay : Err P w K mg base CP "BadWay" "bad way") (F_p_is_stretch : Fn P w K mg base 1 "is_stretch" ["thing"] (sp_p_is_stretch K T)) : FnOk P w K mg base (L2.CX P w) 4 f fd ["way"] (sp_p_check_way_t K T CP) := by
  refine F.okX sc_p_check_way_t (fun vs H Q E h => ?_) (fun cdv A outer s H vs Q E hr h => ?_)
  · obtain ⟨a, us, qs, rfl, _⟩ := h
    rfl
  · obtain ⟨a, us, qs, rfl, hS, hd, hl, hok, k1, k2⟩ := h
    obtain ⟨⟨tM, rfl⟩, gM⟩ := id C_MOST_STRETCHES
    refine ⟨_, (pss_cons (ps_if (pt_not (pt_chain op_le op_le pe_int (pe_callB call_len_seq (by rfl) B.len_ (by decide +kernel) (pa_cons (pv 0) pa_nil)) (pe_glob (by rfl) C_MOST_STRETCHES.2 C_MOST_STRETCHES.1))) (pss_one (ps_raise rfl (takes_of rfl rfl rfl rfl) (pmk_err R_BadWay (hr.mono (by decide)) (by rfl)))) pss_nil)
      (pss_one (ps_for (passes_of rfl) rfl (pi_tup (pv 0)) (pg_name (i := 1) sc_p_check_way_t.nd rfl (.inl rfl))
      (pss_one (ps_if (pt_not (pt_val (pe_fn F_p_is_stretch (hr.mono (by decide)) (pa_cons (pv 1) pa_nil)))) (pss_one (ps_raise rfl (takes_of rfl rfl rfl rfl) (pmk_err R_BadWay (hr.mono (by decide)) (by rfl)))) pss_nil))))), ?_⟩
    have el : us.length = qs.length := by rw [dpa_len hd, List.length_map]
    have bad : wayB qs = false → ∀ (H1 : Hp), Sm T H H1 → tErr K CP "bad way" [] H1 (fun cls d H' => E cls d H') := fun hb H1 s1 cls dd hn rf => k2 hb cls (some dd) _ (s1.trans (same_upd hn)) rf
    refine ⟨_, rfl, a, us, rfl, .inr hS, _, _, rfl, rfl, _, rfl, ?_⟩
    by_cases h1 : (1 : Int) ≤ (us.length : Int)
    · rw [decide_eq_true h1]
      refine iteT ?_
      refine ⟨_, _, rfl, rfl, _, rfl, ?_⟩
      by_cases h2 : (us.length : Int) ≤ 6
      · rw [decide_eq_true h2]
        refine iteF ?_
        refine ⟨_, rfl, a, rfl, ⟨_, hS⟩, for_it (walk_tup (K := K) (a := a) (xs := us)) (fun i σ H3 => Sm T H H3 ∧ (qs.take i).all wOk = true ∧ ∃ x, σ = [some (.ref a), x]) ⟨Sm.refl, by rw [List.take_zero]; rfl, _, rfl⟩ (fun i σ H3 _ ⟨s3, _⟩ => same_tup s3 hS) ?_ ?_⟩
        · rintro i v σ H2' H3 hi' ⟨s3, ha, x, rfl⟩ ⟨eH, hi⟩
          subst eH
          have hil : i < qs.length := by rw [← el]; exact (List.getElem?_eq_some_iff.mp hi).1
          obtain ⟨v', e1, e2⟩ := dpa_get hd (i := i) (d := amD qs[i]) (by rw [List.getElem?_map, List.getElem?_eq_getElem hil]; rfl)
          rw [hi] at e1
          cases e1
          obtain ⟨b, rfl, hb⟩ := pd_at e2
          refine ⟨_, rfl, b, qs[i], rfl, same_tup s3 hb, s3.ok hok, fun H4 s4 => ⟨_, rfl, ?_⟩⟩
          cases hw : wOk qs[i] with
          | true =>
            refine iteF ?_
            refine ⟨s3.trans s4, ?_, _, rfl⟩
            rw [List.take_add_one, List.all_append, ha, List.getElem?_eq_getElem hil]
            show (true && ([qs[i]].all wOk)) = true
            rw [List.all_cons, hw]
            rfl
          | false =>
            refine iteT ?_
            refine bad ?_ H4 (s3.trans s4)
            unfold wayB
            rw [Bool.and_eq_false_iff]
            refine .inr ?_
            rw [List.all_eq_false]
            exact ⟨_, List.getElem_mem hil, by rw [hw]; decide⟩
        · rintro σ H3 ⟨s3, ha, x, rfl⟩
          refine k1 ?_ H3 s3
          rw [el, List.take_length] at ha
          unfold wayB
          rw [ha, Bool.and_true, Bool.and_eq_true]
          exact ⟨decide_eq_true (by omega), decide_eq_true (by omega)⟩
      · rw [decide_eq_false h2]
        refine iteT ?_
        refine bad ?_ H Sm.refl
        unfold wayB
        rw [Bool.and_eq_false_iff, Bool.and_eq_false_iff]
        exact .inl (.inr (decide_eq_false (by omega)))
    · rw [decide_eq_false h1]
      refine iteF ?_
      refine ⟨_, rfl, iteT ?_⟩
      refine bad ?_ H Sm.refl
      unfold wayB
      rw [Bool.and_eq_false_iff, Bool.and_eq_false_iff]
      exact .inl (.inl (decide_eq_false (by omega)))
def sp_p_labour_t (K : PySem.W.Frag) (T : Tb) (CP : Addr) : Sp := fun vs H Q E => ∃ a us qs, vs = [.ref a] ∧ SqT K H a us ∧ DpAll K H us (qs.map amD) ∧ qs.length ≤ 1000 ∧ Ok T H ∧ (wayB qs = true → ∀ H', Sm T H H' → Q (.int (labourM qs)) H') ∧
  (wayB qs = false → ∀ cls d H', Sm T H H' → Rf K CP "bad way" cls d H' → E cls d H')
theorem ok_p_labour_t {f : Addr} {fd : FuncData} {c PT : Addr} (F : FunC K "labour" "labour" s_p_labour_t f fd c) (hnT : (T.map (·.1)).Nodup) (hPT : (PT, (none : Option Str)) ∈ T) (TB : GxR.TabB base mg c PT) (B : Bn mg) {CP : Addr} (F_p_check_way_t : Fx P w K mg base 4 "check_way" ["way"] (sp_p_check_way_t K T CP)) : FnOk P w K mg base (L2.CX P w) 5 f fd ["way"] (sp_p_labour_t K T CP) := by
  refine F.okX sc_p_labour_t (fun vs H Q E h => ?_) (fun A outer s H vs Q E hr h => ?_)
  · obtain ⟨a, us, qs, rfl, _⟩ := h
    rfl
  · obtain ⟨a, us, qs, rfl, hS, hd, hl, hok, k1, k2⟩ := h
    refine ⟨_, (pss_cons (ps_expr (pe_fx F_p_check_way_t (hr.mono (by decide)) (takes_of rfl rfl rfl rfl) (pa_cons (pv 0) pa_nil)))
      (pss_one (ps_ret (pe_sumPT hnT hPT hr (by rfl) B.sum_ (by decide +kernel) TB rfl (gens_by (by decide +kernel)) rfl (by decide) (pv 0) (elt_mul rfl rfl rfl) (fun _ => rfl))))), ?_⟩
    refine ⟨_, rfl, a, us, qs, rfl, hS, hd, hl, hok, fun hw H1 s1 => ?_, k2⟩
    have hb := wayB_b hw
    refine ⟨_, rfl, a, qs, rfl, (pairs_ofT hS hd).keep s1, fun q hq => by have := hb.2.2 q hq; omega, s1.ok hok _ hPT, ⟨s1.ok hok, ?_⟩, fun H2 s2 => k1 hw H2 (s1.trans s2)⟩
    have := long_of (l := qs.map fun (q : Int × Int) => q.1 * q.2) (fun z hz => ?_) (by rw [List.length_map]; exact hb.2.1)
    · rw [List.length_map] at this
      exact this
    · obtain ⟨q, hq, rfl⟩ := List.mem_map.mp hz
      have c := hb.2.2 q hq
      exact ⟨Int.mul_nonneg (by omega) (by omega), (Int.mul_le_mul c.2.1 c.2.2.2 (by omega) (by omega) : q.1 * q.2 ≤ 9 * 9)⟩

def newS (L : Int) (qs : List Am) : Ch := { fire := L, way := qs, now := 0, row := [], loads := [], spots := [], tempos := [], leaving := [], ledgers := [], marks := [], poured := [] }

def sp_init (sq : PySem.W.Frag → Hp → Addr → List V → Prop) (K : PySem.W.Frag) (T : Tb) (CP CC : Addr) : Sp := fun vs H Q E => ∃ (H0 : Hp) (c dx a : Addr) (us : List V) (qs : List Am), vs = [.ref c, .ref a] ∧ H = upd (upd H0 dx (.own c)) c (.ins CC dx []) ∧ H0 c = none ∧ H0 dx = none ∧ dx ≠ c ∧ sq K H0 a us ∧ DpAll K H0 us (qs.map amD) ∧ qs.length ≤ 1000 ∧ Ok T H0 ∧
  (wayB qs = true → ∀ H' A, Sm T H0 H' → ChAt K CC H' c A (newS (labourM qs) qs) → (∀ x ∈ ownC c A, H0 x = none) → Q .non H') ∧ (wayB qs = false → ∀ cls d H', Sm T H0 H' → Rf K CP "bad way" cls d H' → E cls d H')
abbrev sp_p_Chain___init__ : PySem.W.Frag → Tb → Addr → Addr → Sp := sp_init SqL
abbrev sp_p_Chain___init___t : PySem.W.Frag → Tb → Addr → Addr → Sp := sp_init SqT
/-- an instance that is being made -/
structure Mkg (T : Tb) (CC : Addr) (H0 H : Hp) (c dx : Addr) (fs : List (Str × V)) (L : List (Addr × HO)) : Prop where
  sm : Sm T H0 H
  ins : H c = some (.ins CC dx fs)
  own : H dx = some (.own c)
  at_ : ∀ x ∈ L, H x.1 = some x.2 ∧ H0 x.1 = none
  nd : (c :: L.map (·.1)).Nodup
theorem Mkg.val {T : Tb} {CC : Addr} {H0 H : Hp} {c dx : Addr} {fs : List (Str × V)} {L : List (Addr × HO)} (m : Mkg T CC H0 H c dx fs L) (nc : H0 c = none) (hd : dx ≠ c) (f : Str) (y : V) : Mkg T CC H0 (upd H c (.ins CC dx (putF f y fs))) c dx (putF f y fs) L := by
  refine ⟨⟨fun b o e n => ?_, fun hk q hq' => okP_mut2 (m.sm.ok hk q hq') m.ins rfl, fun l hl => ?_⟩, upd_same, by rw [upd_ne hd]; exact m.own, fun x hx => ?_, m.nd⟩
  · rw [upd_ne (fun z => by rw [z, nc] at e; cases e)]
    exact m.sm.keep b o e n
  · by_cases z : l = c
    · rw [z]; exact nc
    · rw [upd_ne z] at hl; exact m.sm.free l hl
  · have h := m.at_ x hx
    have hn : x.1 ≠ c := fun z => (List.nodup_cons.mp m.nd).1 (by rw [← z]; exact List.mem_map.mpr ⟨x, hx, rfl⟩)
    rw [upd_ne hn]
    exact h
theorem Mkg.sm' {T : Tb} {CC : Addr} {H0 H H' : Hp} {c dx : Addr} {fs : List (Str × V)} {L : List (Addr × HO)} (m : Mkg T CC H0 H c dx fs L) (s : Sm T H H') (hL : ∀ x ∈ L, nTbl x.2) : Mkg T CC H0 H' c dx fs L :=
  ⟨m.sm.trans s, s.k m.ins, s.k m.own, fun x hx => ⟨s.keep _ _ (m.at_ x hx).1 (hL x hx), (m.at_ x hx).2⟩, m.nd⟩
theorem Mkg.new {T : Tb} {CC : Addr} {H0 H : Hp} {c dx : Addr} {fs : List (Str × V)} {L : List (Addr × HO)} (m : Mkg T CC H0 H c dx fs L) (nc : H0 c = none) (hd : dx ≠ c) (f : Str) {p : Addr} {o : HO} (np : H p = none) (hL : ∀ x ∈ L, nTbl x.2) :
    Mkg T CC H0 (upd (upd H p o) c (.ins CC dx (putF f (.ref p) fs))) c dx (putF f (.ref p) fs) ((p, o) :: L) := by
  have u := same_upd (T := T) (o := o) np
  have m1 := m.sm' u hL
  have m2 : Mkg T CC H0 (upd H p o) c dx fs ((p, o) :: L) := by
    refine ⟨m1.sm, m1.ins, m1.own, fun x hx => ?_, ?_⟩
    · rcases List.mem_cons.mp hx with z | z
      · rw [z]; exact ⟨upd_same, m.sm.free _ np⟩
      · exact m1.at_ x z
    · rw [List.map_cons]
      have hpc : p ≠ c := fun z => by rw [z, m.ins] at np; cases np
      have hpL : p ∉ L.map (·.1) := fun z => by
        obtain ⟨x, hx, e⟩ := List.mem_map.mp z
        have := (m.at_ x hx).1
        rw [e, np] at this
        cases this
      have nd := List.nodup_cons.mp m.nd
      exact List.nodup_cons.mpr ⟨fun z => (List.mem_cons.mp z).elim (fun e => hpc e.symm) nd.1, List.nodup_cons.mpr ⟨hpL, nd.2⟩⟩
  exact m2.val nc hd f (.ref p)
theorem nt1 {L : List (Addr × HO)} (h : L.all (fun x => mutO x.2) = true) : ∀ x ∈ L, nTbl x.2 := fun x hx => by
  have := List.all_eq_true.mp h x hx
  cases e : x.2 <;> rw [e] at this <;> first | trivial | cases this
theorem nd_perm {l l' : List Addr} (h : l.Nodup) (p : l.Perm l') : l'.Nodup := p.nodup_iff.mp h
theorem ok_p_Chain___init__ {f : Addr} {fd : FuncData} {a_NOUGHT : Addr} (F : Fun K "__init__" "Chain.__init__" s_p_Chain___init__ f fd) (B : Bn mg) (g_NOUGHT : mg "NOUGHT" = some (.ref a_NOUGHT)) (s_NOUGHT : ∀ H, SqT K H a_NOUGHT [.int 0, .int 1]) {CP : Addr} {CC : Addr} (TC : Kl K CC) (F_p_labour : Fx P w K mg base 5 "labour" ["way"] (sp_p_labour K T CP)) : FnOk P w K mg base (L2.CX P w) 6 f fd ["self", "way"] (sp_p_Chain___init__ K T CP CC) := by
  refine F.okX sc_p_Chain___init__ (fun vs H Q E h => ?_) (fun cdv A outer s H vs Q E hr h => ?_)
  · obtain ⟨H0, c, dx, a, us, qs, rfl, _⟩ := h
    rfl
  · obtain ⟨H0, c, dx, a, us, qs, rfl, rfl, nc, nd, ncd, ha, hd, hq, hok, k1, k2⟩ := h
    refine ⟨_, (pss_cons (ps_fc TC.cl (TC.no "fire" (by decide +kernel)) (pv 0) (pe_fx F_p_labour (hr.mono (by decide)) (takes_of rfl rfl rfl rfl) (pa_cons (pv 1) pa_nil)))
      (pss_cons (ps_fc TC.cl (TC.no "stretches" (by decide +kernel)) (pv 0) (pe_callTy call_tuple_of (by rfl) B.tuple_ (by decide +kernel) (pa_cons (pv 1) pa_nil)))
      (pss_cons (ps_fc TC.cl (TC.no "now" (by decide +kernel)) (pv 0) (pe_glob (v := .ref a_NOUGHT) (by rfl) g_NOUGHT rfl))
      (pss_cons (ps_fc TC.cl (TC.no "row" (by decide +kernel)) (pv 0) (pe_lst pa_nil))
      (pss_cons (ps_fc TC.cl (TC.no "loads" (by decide +kernel)) (pv 0) (pe_lst pa_nil))
      (pss_cons (ps_fc TC.cl (TC.no "spots" (by decide +kernel)) (pv 0) (pe_lst pa_nil))
      (pss_cons (ps_fc TC.cl (TC.no "tempos" (by decide +kernel)) (pv 0) pe_dnewK)
      (pss_cons (ps_fc TC.cl (TC.no "leaving" (by decide +kernel)) (pv 0) (pe_lst pa_nil))
      (pss_cons (ps_fc TC.cl (TC.no "ledgers" (by decide +kernel)) (pv 0) pe_dnewK)
      (pss_cons (ps_fc TC.cl (TC.no "marks" (by decide +kernel)) (pv 0) (pe_lst pa_nil))
      (pss_one (ps_fc TC.cl (TC.no "poured" (by decide +kernel)) (pv 0) (pe_lst pa_nil))))))))))))), ?_⟩
    have v1 := same_upd (T := T) (o := .own c) nd
    have nc1 : upd H0 dx (.own c) c = none := by rw [upd_ne (Ne.symm ncd)]; exact nc
    have v2 := same_upd (T := T) (o := .ins CC dx []) nc1
    have s00 := v1.trans v2
    refine ⟨_, rfl, a, us, qs, rfl, Sm.seq s00 ha, dpa_same s00 _ _ hd, hq, s00.ok hok, fun hw H1 s1 => ?_, fun hw cls d H' s' rf => k2 hw cls d H' (s00.trans s') rf⟩
    have m0 : Mkg T CC H0 H1 c dx [] [] := ⟨s00.trans s1, s1.k (b := c) (o := .ins CC dx []) upd_same, (v2.trans s1).k (b := dx) (o := .own c) upd_same, (fun _ h => nomatch h), by simp⟩
    refine ⟨_, rfl, c, _, _, rfl, m0.ins, by show 0 < 1000; decide, ?_⟩
    have m1 := m0.val nc ncd "fire" (.int (labourM qs))
    generalize upd H1 c (.ins CC dx (putF "fire" (.int (labourM qs)) [])) = H2 at *
    refine ⟨_, rfl, a, us, rfl, .inl ⟨m1.sm.seq ha, fun pst nst => ?_⟩⟩
    have u2 := same_upd (T := T) (o := .tup us) nst
    have m2 := m1.sm' u2 (fun _ h => nomatch h)
    refine ⟨_, rfl, c, _, _, rfl, m2.ins, by show 1 < 1000; decide, ?_⟩
    have hst : SqT K (upd H2 pst (.tup us)) pst us := SqT.of upd_same
    have m3 := m2.val nc ncd "stretches" (.ref pst)
    have x3 : Sx [] [c] (upd H2 pst (.tup us)) _ := sx_upd (o := .ins CC dx (putF "stretches" (.ref pst) (putF "fire" (.int (labourM qs)) []))) m2.ins rfl List.mem_cons_self
    have hst3 := x3.tup hst
    generalize upd (upd H2 pst (.tup us)) c (.ins CC dx (putF "stretches" (.ref pst) (putF "fire" (.int (labourM qs)) []))) = H3 at *
    refine ⟨_, rfl, c, _, _, rfl, m3.ins, by show 2 < 1000; decide, ?_⟩
    have m4 := m3.val nc ncd "now" (.ref a_NOUGHT)
    have x4 : Sx [] [c] H3 _ := sx_upd (o := .ins CC dx (putF "now" (.ref a_NOUGHT) (putF "stretches" (.ref pst) (putF "fire" (.int (labourM qs)) [])))) m3.ins rfl List.mem_cons_self
    have hst4 := x4.tup hst3
    generalize upd H3 c (.ins CC dx (putF "now" (.ref a_NOUGHT) (putF "stretches" (.ref pst) (putF "fire" (.int (labourM qs)) [])))) = H4 at *
    refine ⟨Nat.zero_le _, fun prw nprw => ?_⟩
    have u4 := same_upd (T := T) (o := .lst []) nprw
    have w4 := m4.sm' u4 (nt1 rfl)
    refine ⟨_, rfl, c, _, _, rfl, w4.ins, by show 3 < 1000; decide, ?_⟩
    have m5 := m4.new nc ncd "row" (o := .lst []) nprw (nt1 rfl)
    have hst5 := (sx_upd (T := []) (S := [c]) (o := .ins CC dx (putF "row" (.ref prw) (putF "now" (.ref a_NOUGHT) (putF "stretches" (.ref pst) (putF "fire" (.int (labourM qs)) []))))) w4.ins rfl List.mem_cons_self).tup (same_tup u4 hst4)
    generalize upd (upd H4 prw (.lst [])) c (.ins CC dx (putF "row" (.ref prw) (putF "now" (.ref a_NOUGHT) (putF "stretches" (.ref pst) (putF "fire" (.int (labourM qs)) []))))) = H5 at *
    clear u4 w4
    refine ⟨Nat.zero_le _, fun pld npld => ?_⟩
    have u5 := same_upd (T := T) (o := .lst []) npld
    have w5 := m5.sm' u5 (nt1 rfl)
    refine ⟨_, rfl, c, _, _, rfl, w5.ins, by show 4 < 1000; decide, ?_⟩
    have m6 := m5.new nc ncd "loads" (o := .lst []) npld (nt1 rfl)
    have hst6 := (sx_upd (T := []) (S := [c]) (o := .ins CC dx (putF "loads" (.ref pld) (putF "row" (.ref prw) (putF "now" (.ref a_NOUGHT) (putF "stretches" (.ref pst) (putF "fire" (.int (labourM qs)) [])))))) w5.ins rfl List.mem_cons_self).tup (same_tup u5 hst5)
    generalize upd (upd H5 pld (.lst [])) c (.ins CC dx (putF "loads" (.ref pld) (putF "row" (.ref prw) (putF "now" (.ref a_NOUGHT) (putF "stretches" (.ref pst) (putF "fire" (.int (labourM qs)) [])))))) = H6 at *
    clear u5 w5
    refine ⟨Nat.zero_le _, fun psp npsp => ?_⟩
    have u6 := same_upd (T := T) (o := .lst []) npsp
    have w6 := m6.sm' u6 (nt1 rfl)
    refine ⟨_, rfl, c, _, _, rfl, w6.ins, by show 5 < 1000; decide, ?_⟩
    have m7 := m6.new nc ncd "spots" (o := .lst []) npsp (nt1 rfl)
    have hst7 := (sx_upd (T := []) (S := [c]) (o := .ins CC dx (putF "spots" (.ref psp) (putF "loads" (.ref pld) (putF "row" (.ref prw) (putF "now" (.ref a_NOUGHT) (putF "stretches" (.ref pst) (putF "fire" (.int (labourM qs)) []))))))) w6.ins rfl List.mem_cons_self).tup (same_tup u6 hst6)
    generalize upd (upd H6 psp (.lst [])) c (.ins CC dx (putF "spots" (.ref psp) (putF "loads" (.ref pld) (putF "row" (.ref prw) (putF "now" (.ref a_NOUGHT) (putF "stretches" (.ref pst) (putF "fire" (.int (labourM qs)) []))))))) = H7 at *
    clear u6 w6
    intro ptm nptm
    have u7 := same_upd (T := T) (o := .dK []) nptm
    have w7 := m7.sm' u7 (nt1 rfl)
    refine ⟨_, rfl, c, _, _, rfl, w7.ins, by show 6 < 1000; decide, ?_⟩
    have m8 := m7.new nc ncd "tempos" (o := .dK []) nptm (nt1 rfl)
    have hst8 := (sx_upd (T := []) (S := [c]) (o := .ins CC dx (putF "tempos" (.ref ptm) (putF "spots" (.ref psp) (putF "loads" (.ref pld) (putF "row" (.ref prw) (putF "now" (.ref a_NOUGHT) (putF "stretches" (.ref pst) (putF "fire" (.int (labourM qs)) [])))))))) w7.ins rfl List.mem_cons_self).tup (same_tup u7 hst7)
    generalize upd (upd H7 ptm (.dK [])) c (.ins CC dx (putF "tempos" (.ref ptm) (putF "spots" (.ref psp) (putF "loads" (.ref pld) (putF "row" (.ref prw) (putF "now" (.ref a_NOUGHT) (putF "stretches" (.ref pst) (putF "fire" (.int (labourM qs)) [])))))))) = H8 at *
    clear u7 w7
    refine ⟨Nat.zero_le _, fun plv nplv => ?_⟩
    have u8 := same_upd (T := T) (o := .lst []) nplv
    have w8 := m8.sm' u8 (nt1 rfl)
    refine ⟨_, rfl, c, _, _, rfl, w8.ins, by show 7 < 1000; decide, ?_⟩
    have m9 := m8.new nc ncd "leaving" (o := .lst []) nplv (nt1 rfl)
    have hst9 := (sx_upd (T := []) (S := [c]) (o := .ins CC dx (putF "leaving" (.ref plv) (putF "tempos" (.ref ptm) (putF "spots" (.ref psp) (putF "loads" (.ref pld) (putF "row" (.ref prw) (putF "now" (.ref a_NOUGHT) (putF "stretches" (.ref pst) (putF "fire" (.int (labourM qs)) []))))))))) w8.ins rfl List.mem_cons_self).tup (same_tup u8 hst8)
    generalize upd (upd H8 plv (.lst [])) c (.ins CC dx (putF "leaving" (.ref plv) (putF "tempos" (.ref ptm) (putF "spots" (.ref psp) (putF "loads" (.ref pld) (putF "row" (.ref prw) (putF "now" (.ref a_NOUGHT) (putF "stretches" (.ref pst) (putF "fire" (.int (labourM qs)) []))))))))) = H9 at *
    clear u8 w8
    intro plg nplg
    have u9 := same_upd (T := T) (o := .dK []) nplg
    have w9 := m9.sm' u9 (nt1 rfl)
    refine ⟨_, rfl, c, _, _, rfl, w9.ins, by show 8 < 1000; decide, ?_⟩
    have m10 := m9.new nc ncd "ledgers" (o := .dK []) nplg (nt1 rfl)
    have hst10 := (sx_upd (T := []) (S := [c]) (o := .ins CC dx (putF "ledgers" (.ref plg) (putF "leaving" (.ref plv) (putF "tempos" (.ref ptm) (putF "spots" (.ref psp) (putF "loads" (.ref pld) (putF "row" (.ref prw) (putF "now" (.ref a_NOUGHT) (putF "stretches" (.ref pst) (putF "fire" (.int (labourM qs)) [])))))))))) w9.ins rfl List.mem_cons_self).tup (same_tup u9 hst9)
    generalize upd (upd H9 plg (.dK [])) c (.ins CC dx (putF "ledgers" (.ref plg) (putF "leaving" (.ref plv) (putF "tempos" (.ref ptm) (putF "spots" (.ref psp) (putF "loads" (.ref pld) (putF "row" (.ref prw) (putF "now" (.ref a_NOUGHT) (putF "stretches" (.ref pst) (putF "fire" (.int (labourM qs)) [])))))))))) = H10 at *
    clear u9 w9
    refine ⟨Nat.zero_le _, fun pmr npmr => ?_⟩
    have u10 := same_upd (T := T) (o := .lst []) npmr
    have w10 := m10.sm' u10 (nt1 rfl)
    refine ⟨_, rfl, c, _, _, rfl, w10.ins, by show 9 < 1000; decide, ?_⟩
    have m11 := m10.new nc ncd "marks" (o := .lst []) npmr (nt1 rfl)
    have hst11 := (sx_upd (T := []) (S := [c]) (o := .ins CC dx (putF "marks" (.ref pmr) (putF "ledgers" (.ref plg) (putF "leaving" (.ref plv) (putF "tempos" (.ref ptm) (putF "spots" (.ref psp) (putF "loads" (.ref pld) (putF "row" (.ref prw) (putF "now" (.ref a_NOUGHT) (putF "stretches" (.ref pst) (putF "fire" (.int (labourM qs)) []))))))))))) w10.ins rfl List.mem_cons_self).tup (same_tup u10 hst10)
    generalize upd (upd H10 pmr (.lst [])) c (.ins CC dx (putF "marks" (.ref pmr) (putF "ledgers" (.ref plg) (putF "leaving" (.ref plv) (putF "tempos" (.ref ptm) (putF "spots" (.ref psp) (putF "loads" (.ref pld) (putF "row" (.ref prw) (putF "now" (.ref a_NOUGHT) (putF "stretches" (.ref pst) (putF "fire" (.int (labourM qs)) []))))))))))) = H11 at *
    clear u10 w10
    refine ⟨Nat.zero_le _, fun ppr nppr => ?_⟩
    have u11 := same_upd (T := T) (o := .lst []) nppr
    have w11 := m11.sm' u11 (nt1 rfl)
    refine ⟨_, rfl, c, _, _, rfl, w11.ins, by show 10 < 1000; decide, ?_⟩
    have m12 := m11.new nc ncd "poured" (o := .lst []) nppr (nt1 rfl)
    have hst12 := (sx_upd (T := []) (S := [c]) (o := .ins CC dx (putF "poured" (.ref ppr) (putF "marks" (.ref pmr) (putF "ledgers" (.ref plg) (putF "leaving" (.ref plv) (putF "tempos" (.ref ptm) (putF "spots" (.ref psp) (putF "loads" (.ref pld) (putF "row" (.ref prw) (putF "now" (.ref a_NOUGHT) (putF "stretches" (.ref pst) (putF "fire" (.int (labourM qs)) [])))))))))))) w11.ins rfl List.mem_cons_self).tup (same_tup u11 hst11)
    generalize upd (upd H11 ppr (.lst [])) c (.ins CC dx (putF "poured" (.ref ppr) (putF "marks" (.ref pmr) (putF "ledgers" (.ref plg) (putF "leaving" (.ref plv) (putF "tempos" (.ref ptm) (putF "spots" (.ref psp) (putF "loads" (.ref pld) (putF "row" (.ref prw) (putF "now" (.ref a_NOUGHT) (putF "stretches" (.ref pst) (putF "fire" (.int (labourM qs)) [])))))))))))) = H12 at *
    clear u11 w11
    have at_ := m12.at_
    refine k1 hw H12 { dx := dx, st := pst, nw := a_NOUGHT, rw := prw, ld := pld, sp := psp, tm := ptm, lv := plv, lg := plg, mr := pmr, pr := ppr } m12.sm ⟨m12.ins, m12.own, ⟨us, hst12, dpa_same m12.sm _ _ hd⟩, by show SqT K _ _ (tv (am 0)); rw [am_zero]; exact s_NOUGHT _, (at_ (prw, .lst []) (by simp)).1, (at_ (pld, .lst []) (by simp)).1, ⟨[], (at_ (psp, .lst []) (by simp)).1, .nil⟩, (at_ (ptm, .dK []) (by simp)).1, (at_ (plv, .lst []) (by simp)).1, ⟨[], (at_ (plg, .dK []) (by simp)).1, rfl, .nil⟩, ⟨[], (at_ (pmr, .lst []) (by simp)).1, .nil⟩, (at_ (ppr, .lst []) (by simp)).1, ?_⟩ (fun x hx => ?_)
    · have nd9 := m12.nd
      have e : ([c, ppr, pmr, plg, plv, ptm, psp, pld, prw] : List Addr).Perm [c, prw, pld, psp, ptm, plv, plg, pmr, ppr] := .cons c (List.reverse_perm _).symm
      exact nd_perm nd9 e
    · simp only [ownC, List.mem_cons, List.not_mem_nil, or_false] at hx
      rcases hx with rfl | rfl | rfl | rfl | rfl | rfl | rfl | rfl | rfl
      · exact nc
      · exact (at_ (x, .lst []) (by simp)).2
      · exact (at_ (x, .lst []) (by simp)).2
      · exact (at_ (x, .lst []) (by simp)).2
      · exact (at_ (x, .dK []) (by simp)).2
      · exact (at_ (x, .lst []) (by simp)).2
      · exact (at_ (x, .dK []) (by simp)).2
      · exact (at_ (x, .lst []) (by simp)).2
      · exact (at_ (x, .lst []) (by simp)).2
theorem ok_p_Chain___init___t {f : Addr} {fd : FuncData} {a_NOUGHT : Addr} (F : Fun K "__init__" "Chain.__init__" s_p_Chain___init___t f fd) (B : Bn mg) (g_NOUGHT : mg "NOUGHT" = some (.ref a_NOUGHT)) (s_NOUGHT : ∀ H, SqT K H a_NOUGHT [.int 0, .int 1]) {CP : Addr} {CC : Addr} (TC : Kl K CC) (F_p_labour_t : Fx P w K mg base 5 "labour" ["way"] (sp_p_labour_t K T CP)) : FnOk P w K mg base (L2.CX P w) 6 f fd ["self", "way"] (sp_p_Chain___init___t K T CP CC) := by
  refine F.okX sc_p_Chain___init___t (fun vs H Q E h => ?_) (fun cdv A outer s H vs Q E hr h => ?_)
  · obtain ⟨H0, c, dx, a, us, qs, rfl, _⟩ := h
    rfl
  · obtain ⟨H0, c, dx, a, us, qs, rfl, rfl, nc, nd, ncd, ha, hd, hq, hok, k1, k2⟩ := h
    refine ⟨_, (pss_cons (ps_fc TC.cl (TC.no "fire" (by decide +kernel)) (pv 0) (pe_fx F_p_labour_t (hr.mono (by decide)) (takes_of rfl rfl rfl rfl) (pa_cons (pv 1) pa_nil)))
      (pss_cons (ps_fc TC.cl (TC.no "stretches" (by decide +kernel)) (pv 0) (pe_callTy call_tuple_of (by rfl) B.tuple_ (by decide +kernel) (pa_cons (pv 1) pa_nil)))
      (pss_cons (ps_fc TC.cl (TC.no "now" (by decide +kernel)) (pv 0) (pe_glob (v := .ref a_NOUGHT) (by rfl) g_NOUGHT rfl))
      (pss_cons (ps_fc TC.cl (TC.no "row" (by decide +kernel)) (pv 0) (pe_lst pa_nil))
      (pss_cons (ps_fc TC.cl (TC.no "loads" (by decide +kernel)) (pv 0) (pe_lst pa_nil))
      (pss_cons (ps_fc TC.cl (TC.no "spots" (by decide +kernel)) (pv 0) (pe_lst pa_nil))
      (pss_cons (ps_fc TC.cl (TC.no "tempos" (by decide +kernel)) (pv 0) pe_dnewK)
      (pss_cons (ps_fc TC.cl (TC.no "leaving" (by decide +kernel)) (pv 0) (pe_lst pa_nil))
      (pss_cons (ps_fc TC.cl (TC.no "ledgers" (by decide +kernel)) (pv 0) pe_dnewK)
      (pss_cons (ps_fc TC.cl (TC.no "marks" (by decide +kernel)) (pv 0) (pe_lst pa_nil))
      (pss_one (ps_fc TC.cl (TC.no "poured" (by decide +kernel)) (pv 0) (pe_lst pa_nil))))))))))))), ?_⟩
    have v1 := same_upd (T := T) (o := .own c) nd
    have nc1 : upd H0 dx (.own c) c = none := by rw [upd_ne (Ne.symm ncd)]; exact nc
    have v2 := same_upd (T := T) (o := .ins CC dx []) nc1
    have s00 := v1.trans v2
    refine ⟨_, rfl, a, us, qs, rfl, same_tup s00 ha, dpa_same s00 _ _ hd, hq, s00.ok hok, fun hw H1 s1 => ?_, fun hw cls d H' s' rf => k2 hw cls d H' (s00.trans s') rf⟩
    have m0 : Mkg T CC H0 H1 c dx [] [] := ⟨s00.trans s1, s1.k (b := c) (o := .ins CC dx []) upd_same, (v2.trans s1).k (b := dx) (o := .own c) upd_same, (fun _ h => nomatch h), by simp⟩
    refine ⟨_, rfl, c, _, _, rfl, m0.ins, by show 0 < 1000; decide, ?_⟩
    have m1 := m0.val nc ncd "fire" (.int (labourM qs))
    generalize upd H1 c (.ins CC dx (putF "fire" (.int (labourM qs)) [])) = H2 at *
    have hst := same_tup m1.sm ha
    refine ⟨_, rfl, a, us, rfl, .inr ⟨hst, ?_⟩⟩
    obtain ⟨pst, rfl⟩ : ∃ pst, pst = a := ⟨a, rfl⟩
    refine ⟨_, rfl, c, _, _, rfl, m1.ins, by show 1 < 1000; decide, ?_⟩
    have m3 := m1.val nc ncd "stretches" (.ref pst)
    have x3 : Sx [] [c] H2 _ := sx_upd (o := .ins CC dx (putF "stretches" (.ref pst) (putF "fire" (.int (labourM qs)) []))) m1.ins rfl List.mem_cons_self
    have hst3 := x3.tup hst
    generalize upd H2 c (.ins CC dx (putF "stretches" (.ref pst) (putF "fire" (.int (labourM qs)) []))) = H3 at *
    refine ⟨_, rfl, c, _, _, rfl, m3.ins, by show 2 < 1000; decide, ?_⟩
    have m4 := m3.val nc ncd "now" (.ref a_NOUGHT)
    have x4 : Sx [] [c] H3 _ := sx_upd (o := .ins CC dx (putF "now" (.ref a_NOUGHT) (putF "stretches" (.ref pst) (putF "fire" (.int (labourM qs)) [])))) m3.ins rfl List.mem_cons_self
    have hst4 := x4.tup hst3
    generalize upd H3 c (.ins CC dx (putF "now" (.ref a_NOUGHT) (putF "stretches" (.ref pst) (putF "fire" (.int (labourM qs)) [])))) = H4 at *
    refine ⟨Nat.zero_le _, fun prw nprw => ?_⟩
    have u4 := same_upd (T := T) (o := .lst []) nprw
    have w4 := m4.sm' u4 (nt1 rfl)
    refine ⟨_, rfl, c, _, _, rfl, w4.ins, by show 3 < 1000; decide, ?_⟩
    have m5 := m4.new nc ncd "row" (o := .lst []) nprw (nt1 rfl)
    have hst5 := (sx_upd (T := []) (S := [c]) (o := .ins CC dx (putF "row" (.ref prw) (putF "now" (.ref a_NOUGHT) (putF "stretches" (.ref pst) (putF "fire" (.int (labourM qs)) []))))) w4.ins rfl List.mem_cons_self).tup (same_tup u4 hst4)
    generalize upd (upd H4 prw (.lst [])) c (.ins CC dx (putF "row" (.ref prw) (putF "now" (.ref a_NOUGHT) (putF "stretches" (.ref pst) (putF "fire" (.int (labourM qs)) []))))) = H5 at *
    clear u4 w4
    refine ⟨Nat.zero_le _, fun pld npld => ?_⟩
    have u5 := same_upd (T := T) (o := .lst []) npld
    have w5 := m5.sm' u5 (nt1 rfl)
    refine ⟨_, rfl, c, _, _, rfl, w5.ins, by show 4 < 1000; decide, ?_⟩
    have m6 := m5.new nc ncd "loads" (o := .lst []) npld (nt1 rfl)
    have hst6 := (sx_upd (T := []) (S := [c]) (o := .ins CC dx (putF "loads" (.ref pld) (putF "row" (.ref prw) (putF "now" (.ref a_NOUGHT) (putF "stretches" (.ref pst) (putF "fire" (.int (labourM qs)) [])))))) w5.ins rfl List.mem_cons_self).tup (same_tup u5 hst5)
    generalize upd (upd H5 pld (.lst [])) c (.ins CC dx (putF "loads" (.ref pld) (putF "row" (.ref prw) (putF "now" (.ref a_NOUGHT) (putF "stretches" (.ref pst) (putF "fire" (.int (labourM qs)) [])))))) = H6 at *
    clear u5 w5
    refine ⟨Nat.zero_le _, fun psp npsp => ?_⟩
    have u6 := same_upd (T := T) (o := .lst []) npsp
    have w6 := m6.sm' u6 (nt1 rfl)
    refine ⟨_, rfl, c, _, _, rfl, w6.ins, by show 5 < 1000; decide, ?_⟩
    have m7 := m6.new nc ncd "spots" (o := .lst []) npsp (nt1 rfl)
    have hst7 := (sx_upd (T := []) (S := [c]) (o := .ins CC dx (putF "spots" (.ref psp) (putF "loads" (.ref pld) (putF "row" (.ref prw) (putF "now" (.ref a_NOUGHT) (putF "stretches" (.ref pst) (putF "fire" (.int (labourM qs)) []))))))) w6.ins rfl List.mem_cons_self).tup (same_tup u6 hst6)
    generalize upd (upd H6 psp (.lst [])) c (.ins CC dx (putF "spots" (.ref psp) (putF "loads" (.ref pld) (putF "row" (.ref prw) (putF "now" (.ref a_NOUGHT) (putF "stretches" (.ref pst) (putF "fire" (.int (labourM qs)) []))))))) = H7 at *
    clear u6 w6
    intro ptm nptm
    have u7 := same_upd (T := T) (o := .dK []) nptm
    have w7 := m7.sm' u7 (nt1 rfl)
    refine ⟨_, rfl, c, _, _, rfl, w7.ins, by show 6 < 1000; decide, ?_⟩
    have m8 := m7.new nc ncd "tempos" (o := .dK []) nptm (nt1 rfl)
    have hst8 := (sx_upd (T := []) (S := [c]) (o := .ins CC dx (putF "tempos" (.ref ptm) (putF "spots" (.ref psp) (putF "loads" (.ref pld) (putF "row" (.ref prw) (putF "now" (.ref a_NOUGHT) (putF "stretches" (.ref pst) (putF "fire" (.int (labourM qs)) [])))))))) w7.ins rfl List.mem_cons_self).tup (same_tup u7 hst7)
    generalize upd (upd H7 ptm (.dK [])) c (.ins CC dx (putF "tempos" (.ref ptm) (putF "spots" (.ref psp) (putF "loads" (.ref pld) (putF "row" (.ref prw) (putF "now" (.ref a_NOUGHT) (putF "stretches" (.ref pst) (putF "fire" (.int (labourM qs)) [])))))))) = H8 at *
    clear u7 w7
    refine ⟨Nat.zero_le _, fun plv nplv => ?_⟩
    have u8 := same_upd (T := T) (o := .lst []) nplv
    have w8 := m8.sm' u8 (nt1 rfl)
    refine ⟨_, rfl, c, _, _, rfl, w8.ins, by show 7 < 1000; decide, ?_⟩
    have m9 := m8.new nc ncd "leaving" (o := .lst []) nplv (nt1 rfl)
    have hst9 := (sx_upd (T := []) (S := [c]) (o := .ins CC dx (putF "leaving" (.ref plv) (putF "tempos" (.ref ptm) (putF "spots" (.ref psp) (putF "loads" (.ref pld) (putF "row" (.ref prw) (putF "now" (.ref a_NOUGHT) (putF "stretches" (.ref pst) (putF "fire" (.int (labourM qs)) []))))))))) w8.ins rfl List.mem_cons_self).tup (same_tup u8 hst8)
    generalize upd (upd H8 plv (.lst [])) c (.ins CC dx (putF "leaving" (.ref plv) (putF "tempos" (.ref ptm) (putF "spots" (.ref psp) (putF "loads" (.ref pld) (putF "row" (.ref prw) (putF "now" (.ref a_NOUGHT) (putF "stretches" (.ref pst) (putF "fire" (.int (labourM qs)) []))))))))) = H9 at *
    clear u8 w8
    intro plg nplg
    have u9 := same_upd (T := T) (o := .dK []) nplg
    have w9 := m9.sm' u9 (nt1 rfl)
    refine ⟨_, rfl, c, _, _, rfl, w9.ins, by show 8 < 1000; decide, ?_⟩
    have m10 := m9.new nc ncd "ledgers" (o := .dK []) nplg (nt1 rfl)
    have hst10 := (sx_upd (T := []) (S := [c]) (o := .ins CC dx (putF "ledgers" (.ref plg) (putF "leaving" (.ref plv) (putF "tempos" (.ref ptm) (putF "spots" (.ref psp) (putF "loads" (.ref pld) (putF "row" (.ref prw) (putF "now" (.ref a_NOUGHT) (putF "stretches" (.ref pst) (putF "fire" (.int (labourM qs)) [])))))))))) w9.ins rfl List.mem_cons_self).tup (same_tup u9 hst9)
    generalize upd (upd H9 plg (.dK [])) c (.ins CC dx (putF "ledgers" (.ref plg) (putF "leaving" (.ref plv) (putF "tempos" (.ref ptm) (putF "spots" (.ref psp) (putF "loads" (.ref pld) (putF "row" (.ref prw) (putF "now" (.ref a_NOUGHT) (putF "stretches" (.ref pst) (putF "fire" (.int (labourM qs)) [])))))))))) = H10 at *
    clear u9 w9
    refine ⟨Nat.zero_le _, fun pmr npmr => ?_⟩
    have u10 := same_upd (T := T) (o := .lst []) npmr
    have w10 := m10.sm' u10 (nt1 rfl)
    refine ⟨_, rfl, c, _, _, rfl, w10.ins, by show 9 < 1000; decide, ?_⟩
    have m11 := m10.new nc ncd "marks" (o := .lst []) npmr (nt1 rfl)
    have hst11 := (sx_upd (T := []) (S := [c]) (o := .ins CC dx (putF "marks" (.ref pmr) (putF "ledgers" (.ref plg) (putF "leaving" (.ref plv) (putF "tempos" (.ref ptm) (putF "spots" (.ref psp) (putF "loads" (.ref pld) (putF "row" (.ref prw) (putF "now" (.ref a_NOUGHT) (putF "stretches" (.ref pst) (putF "fire" (.int (labourM qs)) []))))))))))) w10.ins rfl List.mem_cons_self).tup (same_tup u10 hst10)
    generalize upd (upd H10 pmr (.lst [])) c (.ins CC dx (putF "marks" (.ref pmr) (putF "ledgers" (.ref plg) (putF "leaving" (.ref plv) (putF "tempos" (.ref ptm) (putF "spots" (.ref psp) (putF "loads" (.ref pld) (putF "row" (.ref prw) (putF "now" (.ref a_NOUGHT) (putF "stretches" (.ref pst) (putF "fire" (.int (labourM qs)) []))))))))))) = H11 at *
    clear u10 w10
    refine ⟨Nat.zero_le _, fun ppr nppr => ?_⟩
    have u11 := same_upd (T := T) (o := .lst []) nppr
    have w11 := m11.sm' u11 (nt1 rfl)
    refine ⟨_, rfl, c, _, _, rfl, w11.ins, by show 10 < 1000; decide, ?_⟩
    have m12 := m11.new nc ncd "poured" (o := .lst []) nppr (nt1 rfl)
    have hst12 := (sx_upd (T := []) (S := [c]) (o := .ins CC dx (putF "poured" (.ref ppr) (putF "marks" (.ref pmr) (putF "ledgers" (.ref plg) (putF "leaving" (.ref plv) (putF "tempos" (.ref ptm) (putF "spots" (.ref psp) (putF "loads" (.ref pld) (putF "row" (.ref prw) (putF "now" (.ref a_NOUGHT) (putF "stretches" (.ref pst) (putF "fire" (.int (labourM qs)) [])))))))))))) w11.ins rfl List.mem_cons_self).tup (same_tup u11 hst11)
    generalize upd (upd H11 ppr (.lst [])) c (.ins CC dx (putF "poured" (.ref ppr) (putF "marks" (.ref pmr) (putF "ledgers" (.ref plg) (putF "leaving" (.ref plv) (putF "tempos" (.ref ptm) (putF "spots" (.ref psp) (putF "loads" (.ref pld) (putF "row" (.ref prw) (putF "now" (.ref a_NOUGHT) (putF "stretches" (.ref pst) (putF "fire" (.int (labourM qs)) [])))))))))))) = H12 at *
    clear u11 w11
    have at_ := m12.at_
    refine k1 hw H12 { dx := dx, st := pst, nw := a_NOUGHT, rw := prw, ld := pld, sp := psp, tm := ptm, lv := plv, lg := plg, mr := pmr, pr := ppr } m12.sm ⟨m12.ins, m12.own, ⟨us, hst12, dpa_same m12.sm _ _ hd⟩, by show SqT K _ _ (tv (am 0)); rw [am_zero]; exact s_NOUGHT _, (at_ (prw, .lst []) (by simp)).1, (at_ (pld, .lst []) (by simp)).1, ⟨[], (at_ (psp, .lst []) (by simp)).1, .nil⟩, (at_ (ptm, .dK []) (by simp)).1, (at_ (plv, .lst []) (by simp)).1, ⟨[], (at_ (plg, .dK []) (by simp)).1, rfl, .nil⟩, ⟨[], (at_ (pmr, .lst []) (by simp)).1, .nil⟩, (at_ (ppr, .lst []) (by simp)).1, ?_⟩ (fun x hx => ?_)
    · have nd9 := m12.nd
      have e : ([c, ppr, pmr, plg, plv, ptm, psp, pld, prw] : List Addr).Perm [c, prw, pld, psp, ptm, plv, plg, pmr, ppr] := .cons c (List.reverse_perm _).symm
      exact nd_perm nd9 e
    · simp only [ownC, List.mem_cons, List.not_mem_nil, or_false] at hx
      rcases hx with rfl | rfl | rfl | rfl | rfl | rfl | rfl | rfl | rfl
      · exact nc
      · exact (at_ (x, .lst []) (by simp)).2
      · exact (at_ (x, .lst []) (by simp)).2
      · exact (at_ (x, .lst []) (by simp)).2
      · exact (at_ (x, .dK []) (by simp)).2
      · exact (at_ (x, .lst []) (by simp)).2
      · exact (at_ (x, .dK []) (by simp)).2
      · exact (at_ (x, .lst []) (by simp)).2
      · exact (at_ (x, .lst []) (by simp)).2

def copyS (s r : Ch) : Ch := { r with fire := s.fire, way := s.way }
def sp_p_Chain_stand_as (K : PySem.W.Frag) (T : Tb) (CC : Addr) : Sp := fun vs H Q _ => ∃ (c d : Addr) (A B : Ad) (s r : Ch), vs = [.ref c, .ref d] ∧ ChAt K CC H c A s ∧ ChAt K CC H d B r ∧ c ∉ ownC d B ∧
  ∀ H' A', Sx T [c] H H' → ChAt K CC H' c A' (copyS s r) → (∀ x ∈ ownC c A', x = c ∨ H x = none) → Q .non H'
theorem ok_p_Chain_stand_as {f : Addr} {fd : FuncData} (F : Fun K "stand_as" "Chain.stand_as" s_p_Chain_stand_as f fd) (B : Bn mg) {CC : Addr} (TC : Kl K CC) : FnOk P w K mg base CX0 1 f fd ["self", "other"] (sp_p_Chain_stand_as K T CC) := by
  refine F.ok sc_p_Chain_stand_as (fun vs H Q E h => ?_) (fun cdv A outer s H vs Q E hr h => ?_)
  · obtain ⟨c, d, A, G, s, r, rfl, _⟩ := h
    rfl
  · obtain ⟨c, d, A, G, s, r, rfl, hc, hd, ncd, q⟩ := h
    refine ⟨_, (pss_cons (ps_fc TC.cl (TC.no "now" (by decide +kernel)) (pv 0) (pe_fc TC.cl (TC.no "now" (by decide +kernel)) (pv 1)))
      (pss_cons (ps_fc TC.cl (TC.no "row" (by decide +kernel)) (pv 0) (pe_callTy call_list_of (by rfl) B.list_ (by decide +kernel) (pa_cons (pe_fc TC.cl (TC.no "row" (by decide +kernel)) (pv 1)) pa_nil)))
      (pss_cons (ps_fc TC.cl (TC.no "loads" (by decide +kernel)) (pv 0) (pe_callTy call_list_of (by rfl) B.list_ (by decide +kernel) (pa_cons (pe_fc TC.cl (TC.no "loads" (by decide +kernel)) (pv 1)) pa_nil)))
      (pss_cons (ps_fc TC.cl (TC.no "spots" (by decide +kernel)) (pv 0) (pe_callTy call_list_of (by rfl) B.list_ (by decide +kernel) (pa_cons (pe_fc TC.cl (TC.no "spots" (by decide +kernel)) (pv 1)) pa_nil)))
      (pss_cons (ps_fc TC.cl (TC.no "tempos" (by decide +kernel)) (pv 0) (pe_callTy call_dictD (by rfl) B.dict_ (by decide +kernel) (pa_cons (pe_fc TC.cl (TC.no "tempos" (by decide +kernel)) (pv 1)) pa_nil)))
      (pss_cons (ps_fc TC.cl (TC.no "leaving" (by decide +kernel)) (pv 0) (pe_callTy call_list_of (by rfl) B.list_ (by decide +kernel) (pa_cons (pe_fc TC.cl (TC.no "leaving" (by decide +kernel)) (pv 1)) pa_nil)))
      (pss_cons (ps_fc TC.cl (TC.no "ledgers" (by decide +kernel)) (pv 0) (pe_callTy call_dictD (by rfl) B.dict_ (by decide +kernel) (pa_cons (pe_fc TC.cl (TC.no "ledgers" (by decide +kernel)) (pv 1)) pa_nil)))
      (pss_cons (ps_fc TC.cl (TC.no "marks" (by decide +kernel)) (pv 0) (pe_callTy call_list_of (by rfl) B.list_ (by decide +kernel) (pa_cons (pe_fc TC.cl (TC.no "marks" (by decide +kernel)) (pv 1)) pa_nil)))
      (pss_one (ps_fc TC.cl (TC.no "poured" (by decide +kernel)) (pv 0) (pe_callTy call_list_of (by rfl) B.list_ (by decide +kernel) (pa_cons (pe_fc TC.cl (TC.no "poured" (by decide +kernel)) (pv 1)) pa_nil)))))))))))), ?_⟩
    have dj : ∀ x ∈ ownC d G, x ∉ [c] := fun x hx z => ncd (by rw [← List.mem_singleton.mp z]; exact hx)
    have x0 : Sx T [c] H H := Sx.refl
    refine ⟨_, rfl, d, _, _, _, rfl, hd.ins, fl_nw, _, rfl, c, _, _, rfl, hc.ins, by show 11 < 1000; decide, ?_⟩
    rw [pf_nw]
    have z1 := sx_upd (T := T) (S := [c]) (o := .ins CC A.dx (flds s.fire { A with nw := G.nw })) hc.ins rfl List.mem_cons_self
    obtain ⟨A1, eA, hc1⟩ : ∃ A1 : Ad, A1 = { A with nw := G.nw } ∧ ChAt K CC (upd H c (.ins CC A.dx (flds s.fire { A with nw := G.nw }))) c A1 { s with now := r.now } := ⟨_, rfl, hc.re_nw hd.nw⟩
    have hd1 := hd.sx z1 dj
    have x1 := x0.step z1
    clear z1 x0 hc hd eA
    generalize upd H c (.ins CC A.dx (flds s.fire { A with nw := G.nw })) = H1 at *
    refine ⟨_, rfl, d, _, _, _, rfl, hd1.ins, fl_rw, G.rw, _, rfl, .inl (SqL.of hd1.rw), fun prw nprw => ?_⟩
    have u' := same_upd (T := T) (o := .lst (r.row.map V.str)) nprw
    have nw' := hc1.new nprw
    have fp : H prw = none := x1.free _ nprw
    have hc' := hc1.sm u'
    have hd' := hd1.sm u'
    refine ⟨_, rfl, c, _, _, rfl, hc'.ins, by show 11 < 1000; decide, ?_⟩
    dsimp only
    rw [pf_rw]
    have z' := sx_upd (T := T) (S := [c]) (o := .ins CC A1.dx (flds s.fire { A1 with rw := prw })) hc'.ins rfl List.mem_cons_self
    obtain ⟨A2, hc2, f_rw⟩ : ∃ A2 : Ad, ChAt K CC (upd (upd H1 prw (.lst (r.row.map V.str))) c (.ins CC A1.dx (flds s.fire { A1 with rw := prw }))) c A2 { s with now := r.now, row := r.row } ∧ H A2.rw = none := ⟨_, hc'.re_rw upd_same nw', fp⟩
    have hd2 := hd'.sx z' dj
    have x2 := (x1.sm' u').step z'
    clear z' hc' hd' hc1 x1 u' nw' fp
    generalize upd (upd H1 prw (.lst (r.row.map V.str))) c (.ins CC A1.dx (flds s.fire { A1 with rw := prw })) = H2 at *
    refine ⟨_, rfl, d, _, _, _, rfl, hd2.ins, fl_ld, G.ld, _, rfl, .inl (SqL.of hd2.ld), fun pld npld => ?_⟩
    have u' := same_upd (T := T) (o := .lst (r.loads.map V.int)) npld
    have nw' := hc2.new npld
    have fp : H pld = none := x2.free _ npld
    have hc' := hc2.sm u'
    have hd' := hd2.sm u'
    refine ⟨_, rfl, c, _, _, rfl, hc'.ins, by show 11 < 1000; decide, ?_⟩
    dsimp only
    rw [pf_ld]
    have z' := sx_upd (T := T) (S := [c]) (o := .ins CC A2.dx (flds s.fire { A2 with ld := pld })) hc'.ins rfl List.mem_cons_self
    obtain ⟨A3, hc3, f_rw, f_ld⟩ : ∃ A3 : Ad, ChAt K CC (upd (upd H2 pld (.lst (r.loads.map V.int))) c (.ins CC A2.dx (flds s.fire { A2 with ld := pld }))) c A3 { s with now := r.now, row := r.row, loads := r.loads } ∧ H A3.rw = none ∧ H A3.ld = none := ⟨_, hc'.re_ld upd_same nw', f_rw, fp⟩
    have hd3 := hd'.sx z' dj
    have x3 := (x2.sm' u').step z'
    clear z' hc' hd' hc2 x2 u' nw' fp
    generalize upd (upd H2 pld (.lst (r.loads.map V.int))) c (.ins CC A2.dx (flds s.fire { A2 with ld := pld })) = H3 at *
    obtain ⟨u3, g3, d3⟩ := hd3.sp
    refine ⟨_, rfl, d, _, _, _, rfl, hd3.ins, fl_sp, G.sp, _, rfl, .inl (SqL.of g3), fun psp npsp => ?_⟩
    have u' := same_upd (T := T) (o := .lst u3) npsp
    have nw' := hc3.new npsp
    have fp : H psp = none := x3.free _ npsp
    have hc' := hc3.sm u'
    have hd' := hd3.sm u'
    refine ⟨_, rfl, c, _, _, rfl, hc'.ins, by show 11 < 1000; decide, ?_⟩
    dsimp only
    rw [pf_sp]
    have z' := sx_upd (T := T) (S := [c]) (o := .ins CC A3.dx (flds s.fire { A3 with sp := psp })) hc'.ins rfl List.mem_cons_self
    obtain ⟨A4, hc4, f_rw, f_ld, f_sp⟩ : ∃ A4 : Ad, ChAt K CC (upd (upd H3 psp (.lst u3)) c (.ins CC A3.dx (flds s.fire { A3 with sp := psp }))) c A4 { s with now := r.now, row := r.row, loads := r.loads, spots := r.spots } ∧ H A4.rw = none ∧ H A4.ld = none ∧ H A4.sp = none := ⟨_, hc'.re_sp upd_same ((u'.sx (S := [])).ams d3) nw', f_rw, f_ld, fp⟩
    have hd4 := hd'.sx z' dj
    have x4 := (x3.sm' u').step z'
    clear z' hc' hd' hc3 x3 u' nw' fp
    generalize upd (upd H3 psp (.lst u3)) c (.ins CC A3.dx (flds s.fire { A3 with sp := psp })) = H4 at *
    refine ⟨_, rfl, d, _, _, _, rfl, hd4.ins, fl_tm, G.tm, _, rfl, Rd.of hd4.tm, fun ptm nptm => ?_⟩
    have u' := same_upd (T := T) (o := .dK (tmV r.tempos)) nptm
    have nw' := hc4.new nptm
    have fp : H ptm = none := x4.free _ nptm
    have hc' := hc4.sm u'
    have hd' := hd4.sm u'
    refine ⟨_, rfl, c, _, _, rfl, hc'.ins, by show 11 < 1000; decide, ?_⟩
    dsimp only
    rw [pf_tm]
    have z' := sx_upd (T := T) (S := [c]) (o := .ins CC A4.dx (flds s.fire { A4 with tm := ptm })) hc'.ins rfl List.mem_cons_self
    obtain ⟨A5, hc5, f_rw, f_ld, f_sp, f_tm⟩ : ∃ A5 : Ad, ChAt K CC (upd (upd H4 ptm (.dK (tmV r.tempos))) c (.ins CC A4.dx (flds s.fire { A4 with tm := ptm }))) c A5 { s with now := r.now, row := r.row, loads := r.loads, spots := r.spots, tempos := r.tempos } ∧ H A5.rw = none ∧ H A5.ld = none ∧ H A5.sp = none ∧ H A5.tm = none := ⟨_, hc'.re_tm upd_same nw', f_rw, f_ld, f_sp, fp⟩
    have hd5 := hd'.sx z' dj
    have x5 := (x4.sm' u').step z'
    clear z' hc' hd' hc4 x4 u' nw' fp
    generalize upd (upd H4 ptm (.dK (tmV r.tempos))) c (.ins CC A4.dx (flds s.fire { A4 with tm := ptm })) = H5 at *
    refine ⟨_, rfl, d, _, _, _, rfl, hd5.ins, fl_lv, G.lv, _, rfl, .inl (SqL.of hd5.lv), fun plv nplv => ?_⟩
    have u' := same_upd (T := T) (o := .lst (r.leaving.map V.str)) nplv
    have nw' := hc5.new nplv
    have fp : H plv = none := x5.free _ nplv
    have hc' := hc5.sm u'
    have hd' := hd5.sm u'
    refine ⟨_, rfl, c, _, _, rfl, hc'.ins, by show 11 < 1000; decide, ?_⟩
    dsimp only
    rw [pf_lv]
    have z' := sx_upd (T := T) (S := [c]) (o := .ins CC A5.dx (flds s.fire { A5 with lv := plv })) hc'.ins rfl List.mem_cons_self
    obtain ⟨A6, hc6, f_rw, f_ld, f_sp, f_tm, f_lv⟩ : ∃ A6 : Ad, ChAt K CC (upd (upd H5 plv (.lst (r.leaving.map V.str))) c (.ins CC A5.dx (flds s.fire { A5 with lv := plv }))) c A6 { s with now := r.now, row := r.row, loads := r.loads, spots := r.spots, tempos := r.tempos, leaving := r.leaving } ∧ H A6.rw = none ∧ H A6.ld = none ∧ H A6.sp = none ∧ H A6.tm = none ∧ H A6.lv = none := ⟨_, hc'.re_lv upd_same nw', f_rw, f_ld, f_sp, f_tm, fp⟩
    have hd6 := hd'.sx z' dj
    have x6 := (x5.sm' u').step z'
    clear z' hc' hd' hc5 x5 u' nw' fp
    generalize upd (upd H5 plv (.lst (r.leaving.map V.str))) c (.ins CC A5.dx (flds s.fire { A5 with lv := plv })) = H6 at *
    obtain ⟨u6, g6, d6⟩ := hd6.lg
    refine ⟨_, rfl, d, _, _, _, rfl, hd6.ins, fl_lg, G.lg, _, rfl, Rd.of g6, fun plg nplg => ?_⟩
    have u' := same_upd (T := T) (o := .dK u6) nplg
    have nw' := hc6.new nplg
    have fp : H plg = none := x6.free _ nplg
    have hc' := hc6.sm u'
    have hd' := hd6.sm u'
    refine ⟨_, rfl, c, _, _, rfl, hc'.ins, by show 11 < 1000; decide, ?_⟩
    dsimp only
    rw [pf_lg]
    have z' := sx_upd (T := T) (S := [c]) (o := .ins CC A6.dx (flds s.fire { A6 with lg := plg })) hc'.ins rfl List.mem_cons_self
    obtain ⟨A7, hc7, f_rw, f_ld, f_sp, f_tm, f_lv, f_lg⟩ : ∃ A7 : Ad, ChAt K CC (upd (upd H6 plg (.dK u6)) c (.ins CC A6.dx (flds s.fire { A6 with lg := plg }))) c A7 { s with now := r.now, row := r.row, loads := r.loads, spots := r.spots, tempos := r.tempos, leaving := r.leaving, ledgers := r.ledgers } ∧ H A7.rw = none ∧ H A7.ld = none ∧ H A7.sp = none ∧ H A7.tm = none ∧ H A7.lv = none ∧ H A7.lg = none := ⟨_, hc'.re_lg upd_same ((u'.sx (S := [])).led d6) nw', f_rw, f_ld, f_sp, f_tm, f_lv, fp⟩
    have hd7 := hd'.sx z' dj
    have x7 := (x6.sm' u').step z'
    clear z' hc' hd' hc6 x6 u' nw' fp
    generalize upd (upd H6 plg (.dK u6)) c (.ins CC A6.dx (flds s.fire { A6 with lg := plg })) = H7 at *
    obtain ⟨u7, g7, d7⟩ := hd7.mr
    refine ⟨_, rfl, d, _, _, _, rfl, hd7.ins, fl_mk, G.mr, _, rfl, .inl (SqL.of g7), fun pmr npmr => ?_⟩
    have u' := same_upd (T := T) (o := .lst u7) npmr
    have nw' := hc7.new npmr
    have fp : H pmr = none := x7.free _ npmr
    have hc' := hc7.sm u'
    have hd' := hd7.sm u'
    refine ⟨_, rfl, c, _, _, rfl, hc'.ins, by show 11 < 1000; decide, ?_⟩
    dsimp only
    rw [pf_mk]
    have z' := sx_upd (T := T) (S := [c]) (o := .ins CC A7.dx (flds s.fire { A7 with mr := pmr })) hc'.ins rfl List.mem_cons_self
    obtain ⟨A8, hc8, f_rw, f_ld, f_sp, f_tm, f_lv, f_lg, f_mr⟩ : ∃ A8 : Ad, ChAt K CC (upd (upd H7 pmr (.lst u7)) c (.ins CC A7.dx (flds s.fire { A7 with mr := pmr }))) c A8 { s with now := r.now, row := r.row, loads := r.loads, spots := r.spots, tempos := r.tempos, leaving := r.leaving, ledgers := r.ledgers, marks := r.marks } ∧ H A8.rw = none ∧ H A8.ld = none ∧ H A8.sp = none ∧ H A8.tm = none ∧ H A8.lv = none ∧ H A8.lg = none ∧ H A8.mr = none := ⟨_, hc'.re_mr upd_same (dpa_same u' _ _ d7) nw', f_rw, f_ld, f_sp, f_tm, f_lv, f_lg, fp⟩
    have hd8 := hd'.sx z' dj
    have x8 := (x7.sm' u').step z'
    clear z' hc' hd' hc7 x7 u' nw' fp
    generalize upd (upd H7 pmr (.lst u7)) c (.ins CC A7.dx (flds s.fire { A7 with mr := pmr })) = H8 at *
    refine ⟨_, rfl, d, _, _, _, rfl, hd8.ins, fl_pr, G.pr, _, rfl, .inl (SqL.of hd8.pr), fun ppr nppr => ?_⟩
    have u' := same_upd (T := T) (o := .lst (r.poured.map V.int)) nppr
    have nw' := hc8.new nppr
    have fp : H ppr = none := x8.free _ nppr
    have hc' := hc8.sm u'
    have hd' := hd8.sm u'
    refine ⟨_, rfl, c, _, _, rfl, hc'.ins, by show 11 < 1000; decide, ?_⟩
    dsimp only
    rw [pf_pr]
    have z' := sx_upd (T := T) (S := [c]) (o := .ins CC A8.dx (flds s.fire { A8 with pr := ppr })) hc'.ins rfl List.mem_cons_self
    obtain ⟨A9, hc9, f_rw, f_ld, f_sp, f_tm, f_lv, f_lg, f_mr, f_pr⟩ : ∃ A9 : Ad, ChAt K CC (upd (upd H8 ppr (.lst (r.poured.map V.int))) c (.ins CC A8.dx (flds s.fire { A8 with pr := ppr }))) c A9 { s with now := r.now, row := r.row, loads := r.loads, spots := r.spots, tempos := r.tempos, leaving := r.leaving, ledgers := r.ledgers, marks := r.marks, poured := r.poured } ∧ H A9.rw = none ∧ H A9.ld = none ∧ H A9.sp = none ∧ H A9.tm = none ∧ H A9.lv = none ∧ H A9.lg = none ∧ H A9.mr = none ∧ H A9.pr = none := ⟨_, hc'.re_pr upd_same nw', f_rw, f_ld, f_sp, f_tm, f_lv, f_lg, f_mr, fp⟩
    have hd9 := hd'.sx z' dj
    have x9 := (x8.sm' u').step z'
    clear z' hc' hd' hc8 x8 u' nw' fp
    generalize upd (upd H8 ppr (.lst (r.poured.map V.int))) c (.ins CC A8.dx (flds s.fire { A8 with pr := ppr })) = H9 at *
    refine q H9 A9 x9 hc9 fun x hx => ?_
    simp only [ownC, List.mem_cons, List.not_mem_nil, or_false] at hx
    rcases hx with e | e | e | e | e | e | e | e | e
    · exact .inl e
    · exact .inr (by rw [e]; exact f_rw)
    · exact .inr (by rw [e]; exact f_ld)
    · exact .inr (by rw [e]; exact f_sp)
    · exact .inr (by rw [e]; exact f_tm)
    · exact .inr (by rw [e]; exact f_lv)
    · exact .inr (by rw [e]; exact f_lg)
    · exact .inr (by rw [e]; exact f_mr)
    · exact .inr (by rw [e]; exact f_pr)
def sp_p_Chain_twin (K : PySem.W.Frag) (T : Tb) (CC : Addr) : Sp := fun vs H Q _ => ∃ (c : Addr) (A : Ad) (s : Ch), vs = [.ref c] ∧ ChAt K CC H c A s ∧ wayB s.way = true ∧ s.fire = labourM s.way ∧ Ok T H ∧ ∀ p H' B, Sm T H H' → ChAt K CC H' p B s → (∀ x ∈ ownC p B, H x = none) → Q (.ref p) H'
theorem ok_p_Chain_twin {f : Addr} {fd : FuncData} (F : Fun K "twin" "Chain.twin" s_p_Chain_twin f fd) {CP : Addr} {CC : Addr} (TC : Kl K CC) (M_init_t : Mnx P w K mg base CC 6 "Chain" ["self", "way"] (sp_p_Chain___init___t K T CP CC)) (M_stand_as : Mt P w K mg base CC 1 "stand_as" ["self", "other"] (sp_p_Chain_stand_as K T CC)) : FnOk P w K mg base CX0 8 f fd ["self"] (sp_p_Chain_twin K T CC) := by
  refine F.ok sc_p_Chain_twin (fun vs H Q E h => ?_) (fun cdv A outer s H vs Q E hr h => ?_)
  · obtain ⟨c, A, s, rfl, _⟩ := h
    rfl
  · obtain ⟨c, A, s, rfl, h, hw, hf, hok, q⟩ := h
    refine ⟨_, (pss_cons (ps_set (i := 1) sc_p_Chain_twin.nd rfl (.inl rfl) (pe_mnx_ M_init_t (hr.mono (by decide)) (pa_cons (pe_fc TC.cl (TC.no "stretches" (by decide +kernel)) (pv 0)) pa_nil)))
      (pss_cons (ps_expr (pe_mt M_stand_as TC.cl (hr.mono (by decide)) (pv 1) (pa_cons (pv 0) pa_nil)))
      (pss_one (ps_ret (pv 1))))), ?_⟩
    obtain ⟨us, hst, hds⟩ := h.st
    have wb := wayB_b hw
    refine ⟨_, rfl, c, _, _, _, rfl, h.ins, fl_st, fun x dx nx ndx nex => ?_⟩
    refine ⟨H, x, dx, A.st, us, s.way, rfl, rfl, nx, ndx, nex, hst, hds, by omega, hok, fun _ H1 B s1 hx fr => ⟨rfl, ?_⟩, fun z => by rw [hw] at z; cases z⟩
    have h1 := h.sm s1
    have xn : x ∉ ownC c A := h.new nx
    refine ⟨_, rfl, x, _, _, rfl, hx.ins, fl_no (by decide +kernel), _, rfl, x, c, B, A, _, s, rfl, hx, h1, xn, fun H2 B2 x2 hx2 fr2 => ?_⟩
    have e : copyS (newS (labourM s.way) s.way) s = s := by
      unfold copyS newS
      rw [← hf]
    rw [e] at hx2
    refine ⟨_, rfl, q x H2 B2 ?_ hx2 fun y hy => ?_⟩
    · exact Sx.sm (s1.sx.trans x2 fun y hy => .inr (by rw [List.mem_singleton.mp hy]; exact nx))
    · rcases fr2 y hy with z | z
      · rw [z]; exact nx
      · exact s1.free _ z

def sp_p_Chain_hands (K : PySem.W.Frag) (T : Tb) (CC : Addr) : Sp := fun vs H Q _ => ∃ (c : Addr) (A : Ad) (s : Ch), vs = [.ref c] ∧ ChAt K CC H c A s ∧ ∀ p H', Sm T H H' → H p = none → H' p = some (.lst (s.row.map V.str)) → Q (.ref p) H'
theorem ok_p_Chain_hands {f : Addr} {fd : FuncData} (F : Fun K "hands" "Chain.hands" s_p_Chain_hands f fd) (B : Bn mg) {CC : Addr} (TC : Kl K CC) : FnOk P w K mg base CX0 1 f fd ["self"] (sp_p_Chain_hands K T CC) := by
  refine F.ok sc_p_Chain_hands (fun vs H Q E h => ?_) (fun cdv A outer s H vs Q E hr h => ?_)
  · obtain ⟨c, A, s, rfl, _⟩ := h
    rfl
  · obtain ⟨c, A, s, rfl, h, q⟩ := h
    refine ⟨_, (pss_one (ps_ret (pe_callTy call_list_of (by rfl) B.list_ (by decide +kernel) (pa_cons (pe_fc TC.cl (TC.no "row" (by decide +kernel)) (pv 0)) pa_nil)))), ?_⟩
    exact ⟨_, rfl, c, _, _, _, rfl, h.ins, fl_rw, A.rw, _, rfl, .inl (SqL.of h.rw), fun p np => q p _ (same_upd np) np upd_same⟩
def sp_p_Chain_emptied (K : PySem.W.Frag) (T : Tb) (CC : Addr) : Sp := fun vs H Q _ => ∃ (c : Addr) (A : Ad) (s : Ch), vs = [.ref c] ∧ ChAt K CC H c A s ∧ ∀ p H', Sm T H H' → H p = none → H' p = some (.lst (s.poured.map V.int)) → Q (.ref p) H'
theorem ok_p_Chain_emptied {f : Addr} {fd : FuncData} (F : Fun K "emptied" "Chain.emptied" s_p_Chain_emptied f fd) (B : Bn mg) {CC : Addr} (TC : Kl K CC) : FnOk P w K mg base CX0 1 f fd ["self"] (sp_p_Chain_emptied K T CC) := by
  refine F.ok sc_p_Chain_emptied (fun vs H Q E h => ?_) (fun cdv A outer s H vs Q E hr h => ?_)
  · obtain ⟨c, A, s, rfl, _⟩ := h
    rfl
  · obtain ⟨c, A, s, rfl, h, q⟩ := h
    refine ⟨_, (pss_one (ps_ret (pe_callTy call_list_of (by rfl) B.list_ (by decide +kernel) (pa_cons (pe_fc TC.cl (TC.no "poured" (by decide +kernel)) (pv 0)) pa_nil)))), ?_⟩
    exact ⟨_, rfl, c, _, _, _, rfl, h.ins, fl_pr, A.pr, _, rfl, .inl (SqL.of h.pr), fun p np => q p _ (same_upd np) np upd_same⟩
def sp_p_Chain_pails (K : PySem.W.Frag) (T : Tb) (CC : Addr) : Sp := fun vs H Q _ => ∃ (c : Addr) (A : Ad) (s : Ch), vs = [.ref c] ∧ ChAt K CC H c A s ∧ Q (.int s.marks.length) H
theorem ok_p_Chain_pails {f : Addr} {fd : FuncData} (F : Fun K "pails" "Chain.pails" s_p_Chain_pails f fd) (B : Bn mg) {CC : Addr} (TC : Kl K CC) : FnOk P w K mg base CX0 1 f fd ["self"] (sp_p_Chain_pails K T CC) := by
  refine F.ok sc_p_Chain_pails (fun vs H Q E h => ?_) (fun cdv A outer s H vs Q E hr h => ?_)
  · obtain ⟨c, A, s, rfl, _⟩ := h
    rfl
  · obtain ⟨c, A, s, rfl, h, q⟩ := h
    refine ⟨_, (pss_one (ps_ret (pe_callB call_len_seq (by rfl) B.len_ (by decide +kernel) (pa_cons (pe_fc TC.cl (TC.no "marks" (by decide +kernel)) (pv 0)) pa_nil)))), ?_⟩
    obtain ⟨ms, m1, m2⟩ := h.mr
    have e : ms.length = s.marks.length := by rw [dpa_len m2, List.length_map]
    refine ⟨_, rfl, c, _, _, _, rfl, h.ins, fl_mk, A.mr, ms, rfl, .inl (SqL.of m1), ?_⟩
    rw [e]
    exact q
theorem strs_ix {l : List Str} {n : Str} (h : n ∈ l) : (l.map V.str)[l.idxOf n]? = some (.str n) ∧ ∀ (m : Nat) (z : V), m < l.idxOf n → (l.map V.str)[m]? = some z → eqV z (.str n) = false := by
  have hl := List.idxOf_lt_length_of_mem h
  refine ⟨?_, fun m z hm hz => ?_⟩
  · rw [List.getElem?_map, List.getElem?_eq_getElem hl, List.getElem_idxOf]
    rfl
  · rw [List.getElem?_map, List.getElem?_eq_getElem (by omega)] at hz
    cases hz
    have := List.not_of_lt_findIdx (p := (· == n)) (xs := l) (i := m) hm
    show (l[m] == n) = false
    simpa using this
def sp_p_Chain_number_of (K : PySem.W.Frag) (T : Tb) (CP CC : Addr) : Sp := fun vs H Q E => ∃ (c : Addr) (A : Ad) (s : Ch) (n : Str), vs = [.ref c, .str n] ∧ ChAt K CC H c A s ∧ (n ∈ s.row → Q (.int (s.row.idxOf n : Nat)) H) ∧ (n ∉ s.row → ∀ cls d H', Sm T H H' → Rf K CP "no hand" cls d H' → E cls d H')
theorem ok_p_Chain_number_of {f : Addr} {fd : FuncData} (F : Fun K "number_of" "Chain.number_of" s_p_Chain_number_of f fd) {CP : Addr} (R_NoHand : Err P w K mg base CP "NoHand" "no hand") {CC : Addr} (TC : Kl K CC) : FnOk P w K mg base (L2.CX P w) 4 f fd ["self", "name"] (sp_p_Chain_number_of K T CP CC) := by
  refine F.okX sc_p_Chain_number_of (fun vs H Q E h => ?_) (fun cdv A outer s H vs Q E hr h => ?_)
  · obtain ⟨c, A, s, n, rfl, _⟩ := h
    rfl
  · obtain ⟨c, A, s, n, rfl, h, k1, k2⟩ := h
    refine ⟨_, (pss_cons (ps_if (pt_cmpR op_notIn_seq (pv 1) (pe_fc TC.cl (TC.no "row" (by decide +kernel)) (pv 0)) (by rfl)) (pss_one (ps_raise rfl (takes_of rfl rfl rfl rfl) (pmk_err R_NoHand (hr.mono (by decide)) (by rfl)))) pss_nil)
      (pss_one (ps_ret (pe_bm PySem.F.plainAttrs_list PySem.F.slot_list_index PySem.F.type_list_index mt_index (pe_fc TC.cl (TC.no "row" (by decide +kernel)) (pv 0)) (pa_cons (pv 1) pa_nil))))), ?_⟩
    refine ⟨_, rfl, _, rfl, c, _, _, _, rfl, h.ins, fl_rw, A.rw, _, rfl, .inl (SqL.of h.rw), rfl, flat_strs _, _, rfl, ?_⟩
    show if (!inV (.str n) (s.row.map V.str)) = true then _ else _
    rw [inV_strs]
    by_cases hm : n ∈ s.row
    · rw [decide_eq_true hm]
      have e := strs_ix hm
      refine iteF ⟨_, rfl, c, _, _, _, rfl, h.ins, fl_rw, .inl ⟨rfl, _, SqL.of h.rw⟩, _, rfl, A.rw, _, _, s.row.idxOf n, .str n, rfl, rfl, SqL.of h.rw, rfl, flat_strs _, e.1, ?_, e.2, k1 hm⟩
      show (n == n) = true
      simp
    · rw [decide_eq_false hm]
      exact iteT fun cls dd hn' rf => k2 hm cls (some dd) _ (same_upd hn') rf
def sp_p_Chain_place (K : PySem.W.Frag) (T : Tb) (CP CC : Addr) : Sp := fun vs H Q E => ∃ (c : Addr) (A : Ad) (s : Ch) (n : Str), vs = [.ref c, .str n] ∧ ChAt K CC H c A s ∧ s.spots.length = s.row.length ∧ (n ∈ s.row → ∀ q, SqT K H q (tv (am (s.spots.getD (s.row.idxOf n) 0))) → Q (.ref q) H) ∧ (n ∉ s.row → ∀ cls d H', Sm T H H' → Rf K CP "no hand" cls d H' → E cls d H')
theorem ok_p_Chain_place {f : Addr} {fd : FuncData} (F : Fun K "place" "Chain.place" s_p_Chain_place f fd) {CP : Addr} {CC : Addr} (TC : Kl K CC) (M_number_of : Mx P w K mg base CC 4 "number_of" ["self", "name"] (sp_p_Chain_number_of K T CP CC)) : FnOk P w K mg base (L2.CX P w) 5 f fd ["self", "name"] (sp_p_Chain_place K T CP CC) := by
  refine F.okX sc_p_Chain_place (fun vs H Q E h => ?_) (fun cdv A outer s H vs Q E hr h => ?_)
  · obtain ⟨c, A, s, n, rfl, _⟩ := h
    rfl
  · obtain ⟨c, A, s, n, rfl, h, hl, k1, k2⟩ := h
    refine ⟨_, (pss_one (ps_ret (pe_ix ix_list (pe_fc TC.cl (TC.no "spots" (by decide +kernel)) (pv 0)) (pe_mx M_number_of TC.cl (hr.mono (by decide)) (takes_of rfl rfl rfl rfl) (pv 0) (pa_cons (pv 1) pa_nil)) (fun _ _ => rfl)))), ?_⟩
    obtain ⟨ps, p1, p2⟩ := h.sp
    refine ⟨_, rfl, c, _, _, _, rfl, h.ins, fl_sp, _, rfl, c, _, _, rfl, h.ins, fl_no (by decide +kernel), _, rfl, c, A, s, n, rfl, h, fun hm => ?_, k2⟩
    have hi : s.row.idxOf n < s.spots.length := by rw [hl]; exact List.idxOf_lt_length_of_mem hm
    obtain ⟨b, g, q⟩ := p2.at hi
    exact ⟨A.sp, ps, _, .ref b, rfl, rfl, SqL.of p1, at_of (j := s.row.idxOf n) rfl g, k1 hm b q⟩
def sp_p_Chain_ledger (K : PySem.W.Frag) (T : Tb) (CP CC : Addr) : Sp := fun vs H Q E => ∃ (c : Addr) (A : Ad) (s : Ch) (n : Str), vs = [.ref c, .str n] ∧ ChAt K CC H c A s ∧ (∀ x, getL s.ledgers n = some x → ∀ v, Dp K H v (ledD x) → Q v H) ∧ (getL s.ledgers n = none → ∀ cls d H', Sm T H H' → Rf K CP "no hand" cls d H' → E cls d H')
theorem ok_p_Chain_ledger {f : Addr} {fd : FuncData} (F : Fun K "ledger" "Chain.ledger" s_p_Chain_ledger f fd) {CP : Addr} (R_NoHand : Err P w K mg base CP "NoHand" "no hand") {CC : Addr} (TC : Kl K CC) : FnOk P w K mg base (L2.CX P w) 4 f fd ["self", "name"] (sp_p_Chain_ledger K T CP CC) := by
  refine F.okX sc_p_Chain_ledger (fun vs H Q E h => ?_) (fun cdv A outer s H vs Q E hr h => ?_)
  · obtain ⟨c, A, s, n, rfl, _⟩ := h
    rfl
  · obtain ⟨c, A, s, n, rfl, h, k1, k2⟩ := h
    refine ⟨_, (pss_cons (ps_if (pt_cmp (pc_dnotin (hu_of hr) (pv 1) (pe_fc TC.cl (TC.no "ledgers" (by decide +kernel)) (pv 0)))) (pss_one (ps_raise rfl (takes_of rfl rfl rfl rfl) (pmk_err R_NoHand (hr.mono (by decide)) (by rfl)))) pss_nil)
      (pss_one (ps_ret (pe_dget (hu_of hr) (pe_fc TC.cl (TC.no "ledgers" (by decide +kernel)) (pv 0)) (pv 1) (fun _ _ => rfl))))), ?_⟩
    obtain ⟨kv, g1, g2⟩ := h.lg
    refine ⟨_, rfl, _, rfl, c, _, _, _, rfl, h.ins, fl_lg, A.lg, _, rfl, DGet.k (k := Sum.inr n) g1, _, rfl, ?_⟩
    rcases led_val g2 n with ⟨e1, e2⟩ | ⟨x, v, e1, e2, e3⟩
    · rw [e2]
      exact iteT fun cls dd hn' rf => k2 e1 cls (some dd) _ (same_upd hn') rf
    · rw [e2]
      refine iteF ⟨_, rfl, c, _, _, _, rfl, h.ins, fl_lg, _, rfl, A.lg, _, rfl, ?_, k1 x e1 v e3⟩
      rw [← e2]
      exact DGet.k (k := Sum.inr n) g1
/-- the paces of the row -/
def pcs (s : Ch) : List Int := s.row.map fun n => (getL s.tempos n).getD 1
def sp_p_Chain_paces (K : PySem.W.Frag) (T : Tb) (CC : Addr) : Sp := fun vs H Q _ => ∃ (c : Addr) (A : Ad) (s : Ch), vs = [.ref c] ∧ ChAt K CC H c A s ∧ s.row.length ≤ 1000 ∧ (∀ n ∈ s.row, (getL s.tempos n).isSome = true) ∧ ∀ p H', Sm T H H' → H p = none → H' p = some (.lst ((pcs s).map V.int)) → Q (.ref p) H'
theorem ok_p_Chain_paces {f : Addr} {fd : FuncData} (F : Fun K "paces" "Chain.paces" s_p_Chain_paces f fd) {CC : Addr} (TC : Kl K CC) : FnOk P w K mg base CX0 1 f fd ["self"] (sp_p_Chain_paces K T CC) := by
  refine F.ok sc_p_Chain_paces (fun vs H Q E h => ?_) (fun cdv A outer s H vs Q E hr h => ?_)
  · obtain ⟨c, A, s, rfl, _⟩ := h
    rfl
  · obtain ⟨c, A, s, rfl, h, hl, hs, q⟩ := h
    refine ⟨_, (pss_one (ps_ret (pe_lc (own := [("name", 1)]) (g := (gName 1)) (tt := tYes) (by rfl) sc_p_Chain_paces.nd (pi_list (pe_fc TC.cl (TC.no "row" (by decide +kernel)) (pv 0))) (blkOk_by (own := [("name", 1)]) (N := ["self", "name"]) (sc := (defScope s_p_Chain_paces)) (by decide +kernel)) (fun _ _ _ _ _ => (pg_name (i := 1) sc_p_Chain_paces.nd rfl (.inl rfl))) (fun _ _ _ _ _ => pts_nil) (fun _ _ _ _ _ => (pe_dget (hu_of hr) (pe_fc TC.cl (TC.no "tempos" (by decide +kernel)) (pv 0)) (pv 1) (fun _ _ => rfl)))))), ?_⟩
    refine ⟨_, rfl, c, _, _, _, rfl, h.ins, fl_rw, A.rw, rfl, ⟨_, SqL.of h.rw⟩, fun D hD => lc_list (K := K) (a := A.rw) (xs := s.row.map V.str) (Qd := _) (fun i H' => Sm T H H' ∧ H' D = some (.lst (((pcs s).take i).map V.int))) ⟨same_upd hD, upd_same⟩ (fun i H' _ ⟨sm, _⟩ => SqL.of (sm.k h.rw)) ?_ ?_⟩
    · rintro i v H' hi ⟨sm, eD⟩
      rw [List.getElem?_map] at hi
      obtain ⟨n, hq, rfl⟩ : ∃ n, s.row[i]? = some n ∧ V.str n = v := Option.map_eq_some_iff.mp hi
      have hil := (List.getElem?_eq_some_iff.mp hq).1
      have h' := h.sm sm
      obtain ⟨p, hp⟩ := Option.isSome_iff_exists.mp (hs n (List.mem_of_getElem? hq))
      have ev : valV (tmV s.tempos) (Sum.inr n) = some (.int p) := by rw [val_tm, hp]; rfl
      refine ⟨rfl, tyes_i ?_⟩
      refine ⟨_, rfl, c, _, _, _, rfl, h'.ins, fl_tm, _, rfl, A.tm, .int p, rfl, by rw [← ev]; exact DGet.k (k := Sum.inr n) h'.tm, ?_⟩
      refine ⟨_, eD, by rw [List.length_map, List.length_take]; exact szl (by omega), same_mut sm hD eD, ?_⟩
      have e2 : (pcs s)[i]? = some p := by
        unfold pcs
        rw [List.getElem?_map, hq, Option.map_some, hp]
        rfl
      rw [upd_same, List.take_add_one, e2, List.map_append]
      rfl
    · rintro H' ⟨sm, eD⟩
      rw [List.length_map, List.take_of_length_le (by unfold pcs; rw [List.length_map]; exact Nat.le_refl _)] at eD
      exact q D H' sm hD eD

/-! ### list.remove of a text -/
theorem str_beqL (x y : Str) : (x == y) = (x.cps.toList == y.cps.toList) := by
  by_cases h : x = y
  · subst h; simp
  · have h2 : x.cps.toList ≠ y.cps.toList := fun z => h (by
      obtain ⟨⟨a⟩⟩ := x
      obtain ⟨⟨b⟩⟩ := y
      exact congrArg (fun l => (⟨⟨l⟩⟩ : Str)) z)
    rw [beq_false_of_ne h, beq_false_of_ne h2]
def eqkS (k : Str) (v : Value) : Bool := match v with
  | .str n _ => n == k
  | _ => false
inductive StrsAre : List Value → List Str → Prop
  | nil : StrsAre [] []
  | cons (n : Str) (t : Tok) {us : List Value} {ns : List Str} (h : StrsAre us ns) : StrsAre (.str n t :: us) (n :: ns)
theorem strs_of_vals : ∀ {ns : List Str} {us : List Value}, Vals (ns.map V.str) us → StrsAre us ns
  | [], _, h => by cases h; exact .nil
  | n :: ns, _, h => by
    cases h with
    | cons h1 h2 =>
      obtain ⟨t, rfl⟩ := h1
      exact .cons n t (strs_of_vals h2)
theorem eqkS_gives {k : Str} {t : Tok} : ∀ {us : List Value} {ns : List Str}, StrsAre us ns → ∀ y ∈ us, MeetsSeq.EqGives y (.str k t) (eqkS k y)
  | _, _, .nil => fun y hy => (nomatch hy)
  | _, _, .cons n t' h => fun y hy => by
    rcases List.mem_cons.mp hy with e | e
    · rw [e]
      have g := SeqRoads2.EqGives.str n k t' t
      rw [← str_beqL] at g
      exact g
    · exact eqkS_gives h y e
theorem StrsAre.get : ∀ {us : List Value} {ns : List Str}, StrsAre us ns → ∀ (j : Nat) (k : Str), ns[j]? = some k → ∃ t, us[j]? = some (.str k t)
  | _, _, .nil, j, k, h => by simp at h
  | _, _, .cons n t h, 0, k, e => by cases e; exact ⟨t, rfl⟩
  | _, _, .cons n t h, j + 1, k, e => h.get j k e
def rRemS : V → List V → Hp → VK → Prop := fun x xs H Q => ∃ (l : Addr) (ns : List Str) (k : Str), x = .ref l ∧ xs = [.str k] ∧ H l = some (.lst (ns.map V.str)) ∧ k ∈ ns ∧ Q .non (upd H l (.lst ((ns.eraseIdx (ns.idxOf k)).map V.str)))
theorem mt_remS {X : Cx} : MtM X "list.remove" rRemS := by
  intro pn s0 σ₁ H x0 as0 v0 us0 R I rx0 rs0 hh
  obtain ⟨l, ns, k, rfl, rfl, hH, hk, q⟩ := hh
  cases rx0; obtain ⟨u, rfl, ru⟩ := rs0.one; obtain ⟨t, rfl⟩ := ru; obtain ⟨z, its, n, r, hl, e⟩ := I.lstM hH
  have hi := strs_of_vals r
  rw [List.length_map] at hl z
  have hjn : ns.idxOf k < ns.length := List.idxOf_lt_length_of_mem hk
  have hjl : ns.idxOf k < its.toArray.size := by rw [List.size_toArray]; omega
  refine call_meets PySem.F.slot_list_remove ⟨_, e, rfl⟩ PySem.F.entry_list_remove (PySem.F.args_list_remove_2 _ _) (MeetsSeq.list_remove l its.toArray n (.str k t) (eqkS k) (fun y hy => eqkS_gives hi y (by simpa using hy)) (ns.idxOf k) hjl ?_ ?_ (by rw [List.size_toArray]; omega)) ⟨e, ?_⟩
  · obtain ⟨tj, hjt⟩ := hi.get (ns.idxOf k) k (by rw [List.getElem?_eq_getElem hjn, List.getElem_idxOf])
    obtain ⟨g1, h2⟩ := List.getElem?_eq_some_iff.mp hjt
    have e1 : its.toArray[ns.idxOf k] = .str k tj := by simpa using h2
    rw [e1]
    show (k == k) = true
    simp
  · intro m hm hmj
    have hmn : m < ns.length := by omega
    obtain ⟨tm, hmt⟩ := hi.get m ns[m] (List.getElem?_eq_getElem hmn); obtain ⟨h1, h2⟩ := List.getElem?_eq_some_iff.mp hmt
    have e1 : its.toArray[m] = .str ns[m] tm := by simpa using h2
    rw [e1]
    have := List.not_of_lt_findIdx (p := (· == k)) (xs := ns) (i := m) hmj
    show (ns[m] == k) = false
    simpa using this
  · have rr := r.eraseIdx (ns.idxOf k)
    have em : ∀ (l : List Str) (j : Nat), (l.map V.str).eraseIdx j = (l.eraseIdx j).map V.str := fun l => by
      induction l with
      | nil => intro j; simp
      | cons a l ih =>
        intro j
        cases j with
        | zero => simp
        | succ j => simp [ih j]
    rw [em] at rr
    refine ⟨.non, _, I.lset (its' := its.eraseIdx (ns.idxOf k)) (t' := s0.toks) hH e ?_ rr ?_, rfl, q⟩
    · show its.toArray.eraseIdxIfInBounds (ns.idxOf k) = (its.eraseIdx (ns.idxOf k)).toArray
      exact List.eraseIdxIfInBounds_toArray ..
    · have z2 : (ns.eraseIdx (ns.idxOf k)).length ≤ ns.length := by rw [List.length_eraseIdx]; split <;> omega
      rw [List.length_map]
      omega

/-! ### xs[a:b] = ys as a line of a def -/
def sSlP (to : TE) (tl th : TO) (tv : TE) : TS := fun D σ H => tv σ H fun v H1 => to σ H1 fun x H2 => tl σ H2 fun p H3 => th σ H3 fun q H4 =>
  ∃ (l b : Addr) (xs ys : List V) (i j : Int), x = .ref l ∧ v = .ref b ∧ p = some i ∧ q = some j ∧ H4 l = some (.lst xs) ∧ H4 b = some (.lst ys) ∧ l ≠ b ∧ 0 ≤ i ∧ i ≤ j ∧ j ≤ xs.length ∧ xs.length + ys.length ≤ sizeLine ∧
    D.nx σ (upd H4 l (.lst (xs.take i.toNat ++ ys ++ xs.drop j.toNat)))
theorem ps_slp {X : Cx} {o value : Expr} {lo hi : Option Expr} {to tv : TE} {tl th : TO} {pos p2 pos' : Pos} (ho : PE X o to) (hl : PO X lo tl) (hh : PO X hi th) (hv : PE X value tv)
    (hs : swapsWith value (some (.Subscript o (.Slice lo hi none p2) pos')) pos.line X.env = pure false) : PS X (.Assign [.Subscript o (.Slice lo hi none p2) pos'] value pos) (sSlP to tl th tv) := by
  refine ⟨fun pins s0 σ0 H D I h => ?_⟩
  refine wpAny_Assign_Subscript (thn (hv.run pins s0 σ0 H _ I h) fun rv s1 ⟨v, H1, I1, r1, q1⟩ => thn (ho.run pins s1 σ0 H1 _ I1 q1) fun ru s2 ⟨x, H2, I2, r2, q2⟩ => ?_) hs
  refine wpAny_Slice (thn (hl.run pins s2 σ0 H2 _ I2 q2) fun vl s3 ⟨p, H3, I3, r3, q3⟩ => thn (hh.run pins s3 σ0 H3 _ I3 q3) fun vu s4 ⟨q, H4, I4, r4, q4⟩ => ?_)
  obtain ⟨l, b, xs, ys, i, j, rfl, rfl, rfl, rfl, g1, g2, ne, i0, ij, jn, sz, fin⟩ := q4
  cases r1; cases r2
  rw [evalPart_none]
  have I5 := I4.kept (h' := s4.heap.push { cls := .type "slice", data := .fields #[vl, vu, .none] }) (t' := s4.toks) fun _ _ z => Heap.get?_push_of_some _ z
  cases r3 with
  | int _ ta => cases r4 with
    | int _ tb => exact wpAny_pure (set_slice I5 g1 g2 ne (Heap.IsSliceOf.new ..) ⟨ta, rfl⟩ ⟨tb, rfl⟩ i0 ij jn sz fun s6 I6 => ⟨σ0, _, I6, fin⟩)

/-- at the place at the bearer is noted -/
def markS (s : Ch) (i : Nat) : Ch := { s with marks := s.marks.set (s.loads.getD i 0).toNat (s.marks.getD (s.loads.getD i 0).toNat [] ++ [(s.row.getD i "", s.spots.getD i 0)]) }
/-- lists side by side -/
structure Side (s : Ch) : Prop where
  ll : s.loads.length = s.row.length
  ls : s.spots.length = s.row.length
  n8 : s.row.length ≤ 8
  ld : ∀ l ∈ s.loads, 0 ≤ l ∧ l < (s.marks.length : Int)
theorem markS_side {s : Ch} (h : Side s) (i : Nat) : Side (markS s i) := ⟨h.ll, h.ls, h.n8, fun l hl => by
  show 0 ≤ l ∧ l < ((s.marks.set _ _).length : Int)
  rw [List.length_set]
  exact h.ld l hl⟩
theorem map_set_mk (l : List (List (Str × Rat))) (k : Nat) (m : List (Str × Rat)) : (l.set k m).map mkD = (l.map mkD).set k (mkD m) := by rw [List.map_set]
theorem dpa_set {K : PySem.W.Frag} {H : Hp} : ∀ {vs : List V} {ds : List PyData} {v : V} {d : PyData} (k : Nat), DpAll K H vs ds → Dp K H v d → DpAll K H (vs.set k v) (ds.set k d)
  | _, [], _, _, _, h, _ => by cases h; exact .nil
  | _, _ :: _, _, _, 0, h, g => by
    cases h with
    | cons h1 h2 => exact .cons g h2
  | _, _ :: _, _, _, k + 1, h, g => by
    cases h with
    | cons h1 h2 => exact .cons h1 (dpa_set k h2 g)
def sp_p_Chain_mark (K : PySem.W.Frag) (T : Tb) (CC : Addr) : Sp := fun vs H Q _ => ∃ (c : Addr) (A : Ad) (s : Ch) (i : Nat), vs = [.ref c, .int i] ∧ ChAt K CC H c A s ∧ Side s ∧ i < s.row.length ∧ (∀ m ∈ s.marks, m.length ≤ 5000) ∧ ∀ H', Sx T (ownC c A) H H' → ChAt K CC H' c A (markS s i) → Q .non H'
theorem ok_p_Chain_mark {f : Addr} {fd : FuncData} (F : Fun K "mark" "Chain.mark" s_p_Chain_mark f fd) {CC : Addr} (TC : Kl K CC) : FnOk P w K mg base CX0 1 f fd ["self", "at"] (sp_p_Chain_mark K T CC) := by
  refine F.ok sc_p_Chain_mark (fun vs H Q E h => ?_) (fun cdv A outer s H vs Q E hr h => ?_)
  · obtain ⟨c, A, s, i, rfl, _⟩ := h
    rfl
  · obtain ⟨c, A, s, i, rfl, h, sd, hi, hm, q⟩ := h
    refine ⟨_, (pss_cons (ps_set (i := 2) sc_p_Chain_mark.nd rfl (.inl rfl) (pe_ix ix_list (pe_fc TC.cl (TC.no "loads" (by decide +kernel)) (pv 0)) (pv 1) (fun _ _ => rfl)))
      (pss_one (ps_asg (pe_op op_catA (pe_ix ix_list (pe_fc TC.cl (TC.no "marks" (by decide +kernel)) (pv 0)) (pv 2) (fun _ _ => rfl)) (pe_tup (pa_cons (pe_tup (pa_cons (pe_ix ix_list (pe_fc TC.cl (TC.no "row" (by decide +kernel)) (pv 0)) (pv 1) (fun _ _ => rfl)) (pa_cons (pe_ix ix_list (pe_fc TC.cl (TC.no "spots" (by decide +kernel)) (pv 0)) (pv 1) (fun _ _ => rfl)) pa_nil))) pa_nil))) (pg_sub (pe_fc TC.cl (TC.no "marks" (by decide +kernel)) (pv 0)) (pv 2) set_list)))), ?_⟩
    obtain ⟨ms, m1, m2⟩ := h.mr
    obtain ⟨ps, p1, p2⟩ := h.sp
    have lm : ms.length = s.marks.length := by rw [dpa_len m2, List.length_map]
    have hl := sd.ld _ (getD_mem (d := (0 : Int)) (show i < s.loads.length by rw [sd.ll]; exact hi))
    have gl : s.loads[i]? = some (s.loads.getD i 0) := by rw [getD_lt (show i < s.loads.length by rw [sd.ll]; exact hi), List.getElem?_eq_getElem (show i < s.loads.length by rw [sd.ll]; exact hi)]
    obtain ⟨k, hk⟩ : ∃ k : Nat, s.loads.getD i 0 = (k : Int) := ⟨(s.loads.getD i 0).toNat, by omega⟩
    have hkl : k < s.marks.length := by omega
    have gr : (s.row.map V.str)[i]? = some (.str (s.row.getD i "")) := by rw [List.getElem?_map, getD_lt hi, List.getElem?_eq_getElem hi]; rfl
    obtain ⟨b, gb, qb⟩ := p2.at (i := i) (by rw [sd.ls]; exact hi)
    obtain ⟨v, gv, dv⟩ := dpa_get m2 (i := k) (d := mkD s.marks[k]) (by rw [List.getElem?_map, List.getElem?_eq_getElem hkl]; rfl)
    obtain ⟨tm, us, rfl, htm, hus⟩ : ∃ tm us, v = .ref tm ∧ SqT K H tm us ∧ DpAll K H us (s.marks[k].map fun x => PyData.tuple [.str x.1, amD (am x.2)]) := by
      unfold mkD at dv
      cases dv with
      | tup hs ha => exact ⟨_, _, rfl, hs, ha⟩
    have lus : us.length = s.marks[k].length := by rw [dpa_len hus, List.length_map]
    have hm9 := hm _ (List.getElem_mem hkl)
    refine ⟨_, rfl, c, _, _, _, rfl, h.ins, fl_ld, _, rfl, A.ld, _, _, .int k, rfl, rfl, SqL.of h.ld, by rw [← hk]; exact at_map (i := i) rfl gl, ?_⟩
    refine ⟨_, rfl, c, _, _, _, rfl, h.ins, fl_mk, _, rfl, A.mr, ms, _, .ref tm, rfl, rfl, SqL.of m1, at_of (j := k) rfl gv, ?_⟩
    refine ⟨_, rfl, c, _, _, _, rfl, h.ins, fl_rw, _, rfl, A.rw, _, _, _, rfl, rfl, SqL.of h.rw, at_of (j := i) rfl gr, ?_⟩
    refine ⟨_, rfl, c, _, _, _, rfl, h.ins, fl_sp, _, rfl, A.sp, ps, _, .ref b, rfl, rfl, SqL.of p1, at_of (j := i) rfl gb, by show 2 ≤ sizeLine; decide, fun t1 n1 => ⟨by show 1 ≤ sizeLine; decide, fun t2 n2 => ?_⟩⟩
    have u1 := same_upd (T := T) (o := .tup [.str (s.row.getD i ""), .ref b]) n1
    have u2 := same_upd (T := T) (o := .tup [.ref t1]) n2
    have s2 := u1.trans u2
    have d1 : Dp K (upd (upd H t1 (.tup [.str (s.row.getD i ""), .ref b])) t2 (.tup [.ref t1])) (.ref t1) (.tuple [.str (s.row.getD i ""), amD (am (s.spots.getD i 0))]) := .tup (SqT.of (u2.k upd_same)) (.cons (.str _) (.cons (amD_dp (same_tup s2 qb)) .nil))
    have fin : ∀ (tn : Addr) (H3 : Hp), Sm T H H3 → Dp K H3 (.ref tn) (mkD (s.marks[k] ++ [(s.row.getD i "", s.spots.getD i 0)])) → Q .non (upd H3 A.mr (.lst (ms.set k (.ref tn)))) := fun tn H3 s3 d3 => by
      have h3 := h.sm s3
      have m4 : DpAll K H3 (ms.set k (.ref tn)) ((s.marks.set k (s.marks[k] ++ [(s.row.getD i "", s.spots.getD i 0)])).map mkD) := by
        rw [map_set_mk]
        exact dpa_set k (dpa_same s3 _ _ m2) d3
      have h4 := h3.set_mr m4
      have e4 : ({ s with marks := s.marks.set k (s.marks[k] ++ [(s.row.getD i "", s.spots.getD i 0)]) } : Ch) = markS s i := by
        unfold markS
        rw [hk, Int.toNat_natCast, getD_lt hkl]
      rw [e4] at h4
      exact q _ (s3.sx.step (sx_upd (s3.k m1) rfl (by simp [ownC]))) h4
    have ixk : ixN ms.length (k : Int) = some k := by
      unfold ixN
      rw [if_pos (by omega), if_pos (by omega), Int.toNat_natCast]
    refine ⟨tm, t2, us, [.ref t1], rfl, rfl, same_tup s2 htm, SqT.of upd_same, sz (by show _ + 1 ≤ _; omega), fun e => ?_, fun _ e => absurd e (by simp), fun _ _ p np => ?_⟩
    · have h3 := h.sm s2
      refine ⟨_, rfl, c, _, _, _, rfl, h3.ins, fl_mk, _, rfl, A.mr, ms, k, k, rfl, rfl, s2.k m1, ixk, fin t2 _ s2 ?_⟩
      have e0 : s.marks[k] = [] := by rw [e] at lus; exact List.length_eq_zero_iff.mp lus.symm
      rw [e0]
      exact .tup (SqT.of upd_same) (.cons d1 .nil)
    · have u3 := same_upd (T := T) (o := .tup (us ++ [.ref t1])) np
      have s3 := s2.trans u3
      have h3 := h.sm s3
      refine ⟨_, rfl, c, _, _, _, rfl, h3.ins, fl_mk, _, rfl, A.mr, ms, k, k, rfl, rfl, s3.k m1, ixk, fin p _ s3 ?_⟩
      unfold mkD
      rw [List.map_append]
      exact .tup (SqT.of upd_same) (dpa_app (dpa_same s3 _ _ hus) (.cons (dp_same u3 _ _ d1) .nil))

/-! ### called away, told to stay, a new pace -/
def callW (s : Ch) (n : Str) : Option Str := if n ∈ s.row then (if n ∈ s.leaving then some "called" else none) else some "no hand"
def callS (s : Ch) (n : Str) : Ch := { s with leaving := s.leaving ++ [n] }
def sp_p_Chain_call (K : PySem.W.Frag) (T : Tb) (CP CC : Addr) : Sp := fun vs H Q E => ∃ (c : Addr) (A : Ad) (s : Ch) (n : Str), vs = [.ref c, .str n] ∧ ChAt K CC H c A s ∧ s.leaving.length ≤ 1000 ∧
  (callW s n = none → ∀ H', Sx T (ownC c A) H H' → ChAt K CC H' c A (callS s n) → Q .non H') ∧ (∀ wd, callW s n = some wd → ∀ cls d H', Sm T H H' → Rf K CP wd cls d H' → E cls d H')
theorem ok_p_Chain_call {f : Addr} {fd : FuncData} (F : Fun K "call" "Chain.call" s_p_Chain_call f fd) {CP : Addr} (R_Called : Err P w K mg base CP "Called" "called") {CC : Addr} (TC : Kl K CC) (M_number_of : Mx P w K mg base CC 4 "number_of" ["self", "name"] (sp_p_Chain_number_of K T CP CC)) : FnOk P w K mg base (L2.CX P w) 5 f fd ["self", "name"] (sp_p_Chain_call K T CP CC) := by
  refine F.okX sc_p_Chain_call (fun vs H Q E h => ?_) (fun cdv A outer s H vs Q E hr h => ?_)
  · obtain ⟨c, A, s, n, rfl, _⟩ := h
    rfl
  · obtain ⟨c, A, s, n, rfl, h, hl, k1, k2⟩ := h
    refine ⟨_, (pss_cons (ps_expr (pe_mx M_number_of TC.cl (hr.mono (by decide)) (takes_of rfl rfl rfl rfl) (pv 0) (pa_cons (pv 1) pa_nil)))
      (pss_cons (ps_if (pt_cmpR op_in_seq (pv 1) (pe_fc TC.cl (TC.no "leaving" (by decide +kernel)) (pv 0)) (by rfl)) (pss_one (ps_raise rfl (takes_of rfl rfl rfl rfl) (pmk_err R_Called (hr.mono (by decide)) (by rfl)))) pss_nil)
      (pss_one (ps_expr (pe_bm PySem.F.plainAttrs_list PySem.F.slot_list_append PySem.F.type_list_append mt_append (pe_fc TC.cl (TC.no "leaving" (by decide +kernel)) (pv 0)) (pa_cons (pv 1) pa_nil)))))), ?_⟩
    refine ⟨_, rfl, c, _, _, rfl, h.ins, fl_no (by decide +kernel), _, rfl, c, A, s, n, rfl, h, fun hm => ?_, fun hm cls d H' s' rf => k2 "no hand" (by unfold callW; rw [if_neg hm]) cls d H' s' rf⟩
    refine ⟨_, rfl, _, rfl, c, _, _, _, rfl, h.ins, fl_lv, A.lv, _, rfl, .inl (SqL.of h.lv), rfl, flat_strs _, _, rfl, ?_⟩
    show if inV (.str n) (s.leaving.map V.str) = true then _ else _
    rw [inV_strs]
    by_cases hv : n ∈ s.leaving
    · rw [decide_eq_true hv]
      exact iteT fun cls dd hn' rf => k2 "called" (by unfold callW; rw [if_pos hm, if_pos hv]) cls (some dd) _ (same_upd hn') rf
    · rw [decide_eq_false hv]
      refine iteF ⟨_, rfl, c, _, _, _, rfl, h.ins, fl_lv, .inl ⟨rfl, _, SqL.of h.lv⟩, _, rfl, A.lv, _, _, rfl, rfl, h.lv, szl (by rw [List.length_map]; omega), ?_⟩
      have h2 := h.set_lv (s.leaving ++ [n])
      have x2 : Sx T (ownC c A) H (upd H A.lv (.lst ((s.leaving ++ [n]).map V.str))) := sx_upd h.lv rfl (by simp [ownC])
      rw [show s.leaving.map V.str ++ [V.str n] = (s.leaving ++ [n]).map V.str from by rw [List.map_append]; rfl]
      exact k1 (by unfold callW; rw [if_pos hm, if_neg hv]) _ x2 h2
def paceW (s : Ch) (n : Str) (p : Int) : Option Str := if n ∈ s.row then (if paceB p = true then none else some "bad pace") else some "no hand"
def paceS (s : Ch) (n : Str) (p : Int) : Ch := { s with tempos := putL s.tempos n p }
def sp_p_Chain_set_pace (K : PySem.W.Frag) (T : Tb) (CP CC : Addr) : Sp := fun vs H Q E => ∃ (c : Addr) (A : Ad) (s : Ch) (n : Str) (p : Int), vs = [.ref c, .str n, .int p] ∧ ChAt K CC H c A s ∧ s.tempos.length ≤ 1000 ∧
  (paceW s n p = none → ∀ H', Sx T (ownC c A) H H' → ChAt K CC H' c A (paceS s n p) → Q .non H') ∧ (∀ wd, paceW s n p = some wd → ∀ cls d H', Sm T H H' → Rf K CP wd cls d H' → E cls d H')
theorem ok_p_Chain_set_pace {f : Addr} {fd : FuncData} (F : Fun K "set_pace" "Chain.set_pace" s_p_Chain_set_pace f fd) {CP : Addr} {CC : Addr} (TC : Kl K CC) (F_p_check_pace : Fx P w K mg base 4 "check_pace" ["pace"] (sp_p_check_pace K T CP)) (M_number_of : Mx P w K mg base CC 4 "number_of" ["self", "name"] (sp_p_Chain_number_of K T CP CC)) : FnOk P w K mg base (L2.CX P w) 5 f fd ["self", "name", "pace"] (sp_p_Chain_set_pace K T CP CC) := by
  refine F.okX sc_p_Chain_set_pace (fun vs H Q E h => ?_) (fun cdv A outer s H vs Q E hr h => ?_)
  · obtain ⟨c, A, s, n, p, rfl, _⟩ := h
    rfl
  · obtain ⟨c, A, s, n, p, rfl, h, hl, k1, k2⟩ := h
    refine ⟨_, (pss_cons (ps_expr (pe_mx M_number_of TC.cl (hr.mono (by decide)) (takes_of rfl rfl rfl rfl) (pv 0) (pa_cons (pv 1) pa_nil)))
      (pss_cons (ps_expr (pe_fx F_p_check_pace (hr.mono (by decide)) (takes_of rfl rfl rfl rfl) (pa_cons (pv 2) pa_nil)))
      (pss_one (ps_dput (hu_of hr) (pe_fc TC.cl (TC.no "tempos" (by decide +kernel)) (pv 0)) (pv 1) (pv 2) rfl)))), ?_⟩
    refine ⟨_, rfl, c, _, _, rfl, h.ins, fl_no (by decide +kernel), _, rfl, c, A, s, n, rfl, h, fun hm => ?_, fun hm cls d H' s' rf => k2 "no hand" (by unfold paceW; rw [if_neg hm]) cls d H' s' rf⟩
    refine ⟨_, rfl, p, rfl, fun hp => ?_, fun hp cls d H' s' rf => k2 "bad pace" (by unfold paceW; rw [if_pos hm, hp]; rfl) cls d H' s' rf⟩
    refine ⟨_, rfl, _, rfl, c, _, _, _, rfl, h.ins, fl_tm, _, rfl, A.tm, _, rfl, DPut.k (k := Sum.inr n) h.tm (by unfold tmV; rw [List.length_map]; exact szl (by omega)), ?_⟩
    rw [put_tm]
    have h2 := h.set_tm (putL s.tempos n p)
    have x2 : Sx T (ownC c A) H (upd H A.tm (.dK (tmV (putL s.tempos n p)))) := sx_upd h.tm rfl (by simp [ownC])
    exact k1 (by unfold paceW; rw [if_pos hm, if_pos hp]) _ x2 h2
def stayW (s : Ch) (n : Str) : Option Str := if n ∈ s.row then (if n ∈ s.leaving then none else some "not called") else some "no hand"
def stayS (s : Ch) (n : Str) : Ch := { s with leaving := s.leaving.eraseIdx (s.leaving.idxOf n) }
def sp_p_Chain_stay (K : PySem.W.Frag) (T : Tb) (CP CC : Addr) : Sp := fun vs H Q E => ∃ (c : Addr) (A : Ad) (s : Ch) (n : Str), vs = [.ref c, .str n] ∧ ChAt K CC H c A s ∧
  (stayW s n = none → ∀ H', Sx T (ownC c A) H H' → ChAt K CC H' c A (stayS s n) → Q .non H') ∧ (∀ wd, stayW s n = some wd → ∀ cls d H', Sm T H H' → Rf K CP wd cls d H' → E cls d H')
theorem ok_p_Chain_stay {f : Addr} {fd : FuncData} (F : Fun K "stay" "Chain.stay" s_p_Chain_stay f fd) {CP : Addr} (R_NotCalled : Err P w K mg base CP "NotCalled" "not called") {CC : Addr} (TC : Kl K CC) (M_number_of : Mx P w K mg base CC 4 "number_of" ["self", "name"] (sp_p_Chain_number_of K T CP CC)) : FnOk P w K mg base (L2.CX P w) 5 f fd ["self", "name"] (sp_p_Chain_stay K T CP CC) := by
  refine F.okX sc_p_Chain_stay (fun vs H Q E h => ?_) (fun cdv A outer s H vs Q E hr h => ?_)
  · obtain ⟨c, A, s, n, rfl, _⟩ := h
    rfl
  · obtain ⟨c, A, s, n, rfl, h, k1, k2⟩ := h
    refine ⟨_, (pss_cons (ps_expr (pe_mx M_number_of TC.cl (hr.mono (by decide)) (takes_of rfl rfl rfl rfl) (pv 0) (pa_cons (pv 1) pa_nil)))
      (pss_cons (ps_if (pt_cmpR op_notIn_seq (pv 1) (pe_fc TC.cl (TC.no "leaving" (by decide +kernel)) (pv 0)) (by rfl)) (pss_one (ps_raise rfl (takes_of rfl rfl rfl rfl) (pmk_err R_NotCalled (hr.mono (by decide)) (by rfl)))) pss_nil)
      (pss_one (ps_expr (pe_bm PySem.F.plainAttrs_list PySem.F.slot_list_remove PySem.F.type_list_remove mt_remS (pe_fc TC.cl (TC.no "leaving" (by decide +kernel)) (pv 0)) (pa_cons (pv 1) pa_nil)))))), ?_⟩
    refine ⟨_, rfl, c, _, _, rfl, h.ins, fl_no (by decide +kernel), _, rfl, c, A, s, n, rfl, h, fun hm => ?_, fun hm cls d H' s' rf => k2 "no hand" (by unfold stayW; rw [if_neg hm]) cls d H' s' rf⟩
    refine ⟨_, rfl, _, rfl, c, _, _, _, rfl, h.ins, fl_lv, A.lv, _, rfl, .inl (SqL.of h.lv), rfl, flat_strs _, _, rfl, ?_⟩
    show if (!inV (.str n) (s.leaving.map V.str)) = true then _ else _
    rw [inV_strs]
    by_cases hv : n ∈ s.leaving
    · rw [decide_eq_true hv]
      refine iteF ⟨_, rfl, c, _, _, _, rfl, h.ins, fl_lv, .inl ⟨rfl, _, SqL.of h.lv⟩, _, rfl, A.lv, s.leaving, n, rfl, rfl, h.lv, hv, ?_⟩
      have h2 := h.set_lv (s.leaving.eraseIdx (s.leaving.idxOf n))
      have x2 : Sx T (ownC c A) H (upd H A.lv (.lst ((s.leaving.eraseIdx (s.leaving.idxOf n)).map V.str))) := sx_upd h.lv rfl (by simp [ownC])
      exact k1 (by unfold stayW; rw [if_pos hm, if_pos hv]) _ x2 h2
    · rw [decide_eq_false hv]
      exact iteT fun cls dd hn' rf => k2 "not called" (by unfold stayW; rw [if_pos hm, if_neg hv]) cls (some dd) _ (same_upd hn') rf

/-! ### places changed -/
def swapL (l : List Str) (i : Nat) : List Str := (l.set i (l.getD (i + 1) "")).set (i + 1) (l.getD i "")
def swapW (s : Ch) (n : Str) : Option Str := if n ∈ s.row then (if s.row.idxOf n + 1 = s.row.length then some "no next" else none) else some "no hand"
def swapS (s : Ch) (n : Str) : Ch := { markS (markS s (s.row.idxOf n)) (s.row.idxOf n + 1) with row := swapL s.row (s.row.idxOf n) }
def sp_p_Chain_swap (K : PySem.W.Frag) (T : Tb) (CP CC : Addr) : Sp := fun vs H Q E => ∃ (c : Addr) (A : Ad) (s : Ch) (n : Str), vs = [.ref c, .str n] ∧ ChAt K CC H c A s ∧ Side s ∧ (∀ m ∈ s.marks, m.length ≤ 4900) ∧
  (swapW s n = none → ∀ H', Sx T (ownC c A) H H' → ChAt K CC H' c A (swapS s n) → Q .non H') ∧ (∀ wd, swapW s n = some wd → ∀ cls d H', Sm T H H' → Rf K CP wd cls d H' → E cls d H')
theorem ok_p_Chain_swap {f : Addr} {fd : FuncData} (F : Fun K "swap" "Chain.swap" s_p_Chain_swap f fd) (B : Bn mg) {CP : Addr} (R_NoNext : Err P w K mg base CP "NoNext" "no next") {CC : Addr} (TC : Kl K CC) (M_number_of : Mx P w K mg base CC 4 "number_of" ["self", "name"] (sp_p_Chain_number_of K T CP CC)) (M_mark : Mt P w K mg base CC 1 "mark" ["self", "at"] (sp_p_Chain_mark K T CC)) : FnOk P w K mg base (L2.CX P w) 5 f fd ["self", "name"] (sp_p_Chain_swap K T CP CC) := by
  refine F.okX sc_p_Chain_swap (fun vs H Q E h => ?_) (fun cdv A outer s H vs Q E hr h => ?_)
  · obtain ⟨c, A, s, n, rfl, _⟩ := h
    rfl
  · obtain ⟨c, A, s, n, rfl, h, sd, hmm, k1, k2⟩ := h
    refine ⟨_, (pss_cons (ps_set (i := 2) sc_p_Chain_swap.nd rfl (.inl rfl) (pe_mx M_number_of TC.cl (hr.mono (by decide)) (takes_of rfl rfl rfl rfl) (pv 0) (pa_cons (pv 1) pa_nil)))
      (pss_cons (ps_if (pt_cmpR op_eq (pv 2) (pe_op op_sub (pe_callB call_len_seq (by rfl) B.len_ (by decide +kernel) (pa_cons (pe_fc TC.cl (TC.no "row" (by decide +kernel)) (pv 0)) pa_nil)) pe_int) (nomark _)) (pss_one (ps_raise rfl (takes_of rfl rfl rfl rfl) (pmk_err R_NoNext (hr.mono (by decide)) (by rfl)))) pss_nil)
      (pss_cons (ps_expr (pe_mt M_mark TC.cl (hr.mono (by decide)) (pv 0) (pa_cons (pv 2) pa_nil)))
      (pss_cons (ps_expr (pe_mt M_mark TC.cl (hr.mono (by decide)) (pv 0) (pa_cons (pe_op op_add (pv 2) pe_int) pa_nil)))
      (pss_one (ps_asg (pe_tup (pa_cons (pe_ix ix_list (pe_fc TC.cl (TC.no "row" (by decide +kernel)) (pv 0)) (pe_op op_add (pv 2) pe_int) (fun _ _ => rfl)) (pa_cons (pe_ix ix_list (pe_fc TC.cl (TC.no "row" (by decide +kernel)) (pv 0)) (pv 2) (fun _ _ => rfl)) pa_nil))) (pg_tup rfl (pgs_cons (pg_sub (pe_fc TC.cl (TC.no "row" (by decide +kernel)) (pv 0)) (pv 2) set_list) (pgs_cons (pg_sub (pe_fc TC.cl (TC.no "row" (by decide +kernel)) (pv 0)) (pe_op op_add (pv 2) pe_int) set_list) pgs_nil))))))))), ?_⟩
    refine ⟨_, rfl, c, _, _, rfl, h.ins, fl_no (by decide +kernel), _, rfl, c, A, s, n, rfl, h, fun hm => ?_, fun hm cls d H' s' rf => k2 "no hand" (by unfold swapW; rw [if_neg hm]) cls d H' s' rf⟩
    have hi := List.idxOf_lt_length_of_mem hm
    dsimp only [gName]
    refine ⟨_, rfl, _, rfl, c, _, _, _, rfl, h.ins, fl_rw, A.rw, _, rfl, .inl (SqL.of h.rw), _, _, rfl, rfl, rfl, _, rfl, ?_⟩
    rw [List.length_map]
    by_cases hl : s.row.idxOf n + 1 = s.row.length
    · rw [decide_eq_true (show V.int (s.row.idxOf n : Nat) = V.int ((s.row.length : Int) - 1) from congrArg V.int (by omega))]
      exact iteT fun cls dd hn' rf => k2 "no next" (by unfold swapW; rw [if_pos hm, if_pos hl]) cls (some dd) _ (same_upd hn') rf
    · rw [decide_eq_false (fun z => hl (by have := V.int.inj z; omega))]
      refine iteF ?_
      have hl2 : s.row.idxOf n + 1 < s.row.length := by omega
      refine ⟨_, rfl, c, _, _, rfl, h.ins, fl_no (by decide +kernel), _, rfl, c, A, s, s.row.idxOf n, rfl, h, sd, hi, fun m hm' => Nat.le_trans (hmm m hm') (by decide), fun H1 x1 h1 => ?_⟩
      have sd1 := markS_side sd (s.row.idxOf n)
      refine ⟨_, rfl, c, _, _, rfl, h1.ins, fl_no (by decide +kernel), _, rfl, _, _, rfl, rfl, c, A, markS s (s.row.idxOf n), s.row.idxOf n + 1, rfl, h1, sd1, hl2, fun m hm' => ?_, fun H2 x2 h2 => ?_⟩
      · have hm' : m ∈ s.marks.set _ _ := hm'
        rcases List.mem_or_eq_of_mem_set hm' with z | z
        · exact Nat.le_trans (hmm m z) (by decide)
        · rw [z, List.length_append]
          have : (s.marks.getD (s.loads.getD (s.row.idxOf n) 0).toNat []).length ≤ 4900 := by
            rcases Nat.lt_or_ge (s.loads.getD (s.row.idxOf n) 0).toNat s.marks.length with y | y
            · exact hmm _ (getD_mem (d := []) y)
            · rw [List.getD_eq_getElem?_getD, List.getElem?_eq_none y]; exact Nat.zero_le _
          show _ + 1 ≤ 5000
          omega
      · have x12 := x1.step x2
        have er : (markS (markS s (s.row.idxOf n)) (s.row.idxOf n + 1)).row = s.row := rfl
        have g1 : (s.row.map V.str)[s.row.idxOf n + 1]? = some (.str (s.row.getD (s.row.idxOf n + 1) "")) := by rw [List.getElem?_map, List.getElem?_eq_getElem hl2, getD_lt hl2]; rfl
        have g0 : (s.row.map V.str)[s.row.idxOf n]? = some (.str (s.row.getD (s.row.idxOf n) "")) := by rw [List.getElem?_map, List.getElem?_eq_getElem hi, getD_lt hi]; rfl
        have e2 : H2 A.rw = some (.lst (s.row.map V.str)) := h2.rw
        refine ⟨_, rfl, c, _, _, _, rfl, h2.ins, fl_rw, _, rfl, _, _, rfl, rfl, A.rw, _, _, _, rfl, rfl, SqL.of e2, at_of (j := s.row.idxOf n + 1) (by omega) g1, _, rfl, c, _, _, _, rfl, h2.ins, fl_rw, _, rfl, A.rw, _, _, _, rfl, rfl, SqL.of e2, at_of (j := s.row.idxOf n) rfl g0, by show 2 ≤ sizeLine; decide, fun t3 n3 => ?_⟩
        have u3 := same_upd (T := T) (o := HO.tup [V.str (s.row.getD (s.row.idxOf n + 1) ""), V.str (s.row.getD (s.row.idxOf n) "")]) n3
        have h3 := h2.sm u3
        have x03 := x12.sm' u3
        have et : upd H2 t3 (.tup [V.str (s.row.getD (s.row.idxOf n + 1) ""), V.str (s.row.getD (s.row.idxOf n) "")]) t3 = some (.tup [V.str (s.row.getD (s.row.idxOf n + 1) ""), V.str (s.row.getD (s.row.idxOf n) "")]) := upd_same
        have e3 := u3.k e2
        clear u3 n3 x12 x1 x2 e2 h2 h1
        generalize upd H2 t3 (.tup [V.str (s.row.getD (s.row.idxOf n + 1) ""), V.str (s.row.getD (s.row.idxOf n) "")]) = H3 at *
        have ix : ∀ {k : Nat} {l : List V}, k < l.length → ixN l.length (k : Int) = some k := fun {k l} hk => by
          unfold ixN
          rw [if_pos (by omega), if_pos (by omega)]
          congr 1
        refine ⟨t3, _, rfl, SqT.of et, rfl, _, _, rfl, _, rfl, c, _, _, _, rfl, h3.ins, fl_rw, _, rfl, A.rw, _, _, s.row.idxOf n, rfl, rfl, e3, ix (by rw [List.length_map]; exact hi), ?_⟩
        have h4 := h3.set_rw (s.row.set (s.row.idxOf n) (s.row.getD (s.row.idxOf n + 1) ""))
        have x4 : Sx T (ownC c A) H3 (upd H3 A.rw (.lst ((s.row.set (s.row.idxOf n) (s.row.getD (s.row.idxOf n + 1) "")).map V.str))) := sx_upd e3 rfl (by simp [ownC])
        rw [show (s.row.map V.str).set (s.row.idxOf n) (V.str (s.row.getD (s.row.idxOf n + 1) "")) = (s.row.set (s.row.idxOf n) (s.row.getD (s.row.idxOf n + 1) "")).map V.str from by rw [List.map_set]]
        have x04 := x03.step x4
        have e4 : upd H3 A.rw (.lst ((s.row.set (s.row.idxOf n) (s.row.getD (s.row.idxOf n + 1) "")).map V.str)) A.rw = some (.lst ((s.row.set (s.row.idxOf n) (s.row.getD (s.row.idxOf n + 1) "")).map V.str)) := upd_same
        clear x4 x03 e3 h3 et
        generalize upd H3 A.rw (.lst ((s.row.set (s.row.idxOf n) (s.row.getD (s.row.idxOf n + 1) "")).map V.str)) = H4 at *
        refine ⟨_, _, rfl, _, rfl, c, _, _, _, rfl, h4.ins, fl_rw, _, rfl, _, _, rfl, rfl, A.rw, _, _, s.row.idxOf n + 1, rfl, rfl, e4, ix (by rw [List.length_map, List.length_set]; exact hl2), ?_⟩
        have h5 := h4.set_rw (swapL s.row (s.row.idxOf n))
        have x5 : Sx T (ownC c A) H4 (upd H4 A.rw (.lst ((swapL s.row (s.row.idxOf n)).map V.str))) := sx_upd e4 rfl (by simp [ownC])
        rw [show ((s.row.set (s.row.idxOf n) (s.row.getD (s.row.idxOf n + 1) "")).map V.str).set (s.row.idxOf n + 1) (V.str (s.row.getD (s.row.idxOf n) "")) = (swapL s.row (s.row.idxOf n)).map V.str from by unfold swapL; simp only [List.map_set]]
        exact ⟨rfl, k1 (by unfold swapW; rw [if_pos hm, if_neg hl]) _ (x04.step x5) h5⟩

/-! ### a yard's grounds in the heap -/
structure GdS where
  now : Rat
  tempos : List (Str × Int)
  posts : List (Str × Int)
  laid : List Ch
def gd0 : GdS := ⟨0, [], [], []⟩
structure GdA where
  dx : Addr
  nw : Addr
  tm : Addr
  po : Addr
  la : Addr
  cs : List (Addr × Ad)
def FLDG : List Str := ["now", "tempos", "posts", "laid"]
structure KlG (K : PySem.W.Frag) (C : Addr) : Prop where
  cl : Cls K C
  no : ∀ f ∈ FLDG, NoAttr K C f
def fldG (A : GdA) : List (Str × V) := [("now", .ref A.nw), ("tempos", .ref A.tm), ("posts", .ref A.po), ("laid", .ref A.la)]
theorem fg_no {A : GdA} {m : Str} (h : m ∉ FLDG) : (fldG A).lookup m = none := lookup_no h
theorem fg_nw {A : GdA} : (fldG A).lookup ("now" : Str) = some (.ref A.nw) := rfl
theorem fg_tm {A : GdA} : (fldG A).lookup ("tempos" : Str) = some (.ref A.tm) := rfl
theorem fg_po {A : GdA} : (fldG A).lookup ("posts" : Str) = some (.ref A.po) := rfl
theorem fg_la {A : GdA} : (fldG A).lookup ("laid" : Str) = some (.ref A.la) := rfl
theorem pg_nw {A : GdA} {a : Addr} : putF "now" (.ref a) (fldG A) = fldG { A with nw := a } := rfl
theorem pg_tm {A : GdA} {a : Addr} : putF "tempos" (.ref a) (fldG A) = fldG { A with tm := a } := rfl
theorem pg_po {A : GdA} {a : Addr} : putF "posts" (.ref a) (fldG A) = fldG { A with po := a } := rfl
theorem pg_la {A : GdA} {a : Addr} : putF "laid" (.ref a) (fldG A) = fldG { A with la := a } := rfl
def ownB (g : Addr) (A : GdA) : List Addr := [g, A.tm, A.po, A.la]
def ownCs (cs : List (Addr × Ad)) : List Addr := cs.flatMap fun p => ownC p.1 p.2
def ownG (g : Addr) (A : GdA) : List Addr := ownB g A ++ ownCs A.cs
/-- the chains of a ground -/
def ChL (K : PySem.W.Frag) (CC : Addr) (H : Hp) : List (Addr × Ad) → List Ch → Prop
  | [], [] => True
  | p :: cs, s :: l => ChAt K CC H p.1 p.2 s ∧ ChL K CC H cs l
  | _, _ => False
section
variable {K : PySem.W.Frag} {T : Tb} {CC CG : Addr} {H H' : Hp} {S : List Addr}
theorem ChL.len : ∀ {cs : List (Addr × Ad)} {l : List Ch}, ChL K CC H cs l → cs.length = l.length
  | [], [], _ => rfl
  | [], _ :: _, h => h.elim
  | _ :: _, [], h => h.elim
  | _ :: _, _ :: _, h => congrArg (· + 1) (ChL.len h.2)
theorem ChL.sx (e : Sx T S H H') : ∀ {cs : List (Addr × Ad)} {l : List Ch}, ChL K CC H cs l → (∀ x ∈ ownCs cs, x ∉ S) → ChL K CC H' cs l
  | [], [], _, _ => trivial
  | [], _ :: _, h, _ => h.elim
  | _ :: _, [], h, _ => h.elim
  | p :: cs, s :: l, h, d => ⟨h.1.sx e fun x hx => d x (List.mem_append_left _ hx), ChL.sx e h.2 fun x hx => d x (List.mem_append_right _ hx)⟩
theorem ChL.get : ∀ {cs : List (Addr × Ad)} {l : List Ch}, ChL K CC H cs l → ∀ {i : Nat} {s : Ch}, l[i]? = some s → ∃ p, cs[i]? = some p ∧ ChAt K CC H p.1 p.2 s
  | [], [], _, i, s, e => by simp at e
  | [], _ :: _, h, _, _, _ => h.elim
  | _ :: _, [], h, _, _, _ => h.elim
  | p :: cs, s0 :: l, h, 0, s, e => by
    obtain rfl := Option.some.inj e
    exact ⟨p, rfl, h.1⟩
  | p :: cs, s0 :: l, h, i + 1, s, e => ChL.get (cs := cs) (l := l) h.2 (i := i) e
theorem ChL.set : ∀ {cs : List (Addr × Ad)} {l : List Ch}, ChL K CC H cs l → ∀ (i : Nat) {q : Addr × Ad} {s : Ch}, ChAt K CC H q.1 q.2 s → ChL K CC H (cs.set i q) (l.set i s)
  | [], [], _, _, _, _, _ => trivial
  | [], _ :: _, h, _, _, _, _ => h.elim
  | _ :: _, [], h, _, _, _, _ => h.elim
  | p :: cs, s0 :: l, h, 0, q, s, e => ⟨e, h.2⟩
  | p :: cs, s0 :: l, h, i + 1, q, s, e => ⟨h.1, ChL.set (cs := cs) (l := l) h.2 i e⟩
theorem ChL.push : ∀ {cs : List (Addr × Ad)} {l : List Ch}, ChL K CC H cs l → ∀ {q : Addr × Ad} {s : Ch}, ChAt K CC H q.1 q.2 s → ChL K CC H (cs ++ [q]) (l ++ [s])
  | [], [], _, _, _, e => ⟨e, trivial⟩
  | [], _ :: _, h, _, _, _ => h.elim
  | _ :: _, [], h, _, _, _ => h.elim
  | p :: cs, s0 :: l, h, q, s, e => ⟨h.1, ChL.push (cs := cs) (l := l) h.2 e⟩
theorem mem_ownCs {cs : List (Addr × Ad)} {x : Addr} : x ∈ ownCs cs ↔ ∃ p ∈ cs, x ∈ ownC p.1 p.2 := List.mem_flatMap
theorem ChL.obj {cs : List (Addr × Ad)} {l : List Ch} (h : ChL K CC H cs l) {x : Addr} (hx : x ∈ ownCs cs) : ∃ o, H x = some o ∧ mutO o = true := by
  obtain ⟨p, hp, hm⟩ := mem_ownCs.mp hx
  obtain ⟨i, hi, e⟩ := List.getElem_of_mem hp
  have hl : i < l.length := by rw [← h.len]; exact hi
  obtain ⟨q, eq, hq⟩ := h.get (List.getElem?_eq_getElem hl)
  rw [List.getElem?_eq_getElem hi, e] at eq
  cases eq
  exact hq.some hm
/-- of all chains the i-th anew: whatever is in another one is not in it -/
theorem own_set {cs : List (Addr × Ad)} {i : Nat} {q : Addr × Ad} {x : Addr} (hx : x ∈ ownCs (cs.set i q)) : x ∈ ownCs cs ∨ x ∈ ownC q.1 q.2 := by
  obtain ⟨p, hp, hm⟩ := mem_ownCs.mp hx
  rcases List.mem_or_eq_of_mem_set hp with z | z
  · exact .inl (mem_ownCs.mpr ⟨p, z, hm⟩)
  · subst z
    exact .inr hm
theorem own_set_nd : ∀ {cs : List (Addr × Ad)} {i : Nat} {p q : Addr × Ad}, (ownCs cs).Nodup → cs[i]? = some p → (ownC q.1 q.2).Nodup → (∀ x ∈ ownC q.1 q.2, x ∈ ownC p.1 p.2 ∨ x ∉ ownCs cs) → (ownCs (cs.set i q)).Nodup
  | [], i, p, q, _, e, _, _ => by simp at e
  | a :: cs, 0, p, q, nd, e, nq, h => by
    obtain rfl := Option.some.inj e
    have nd : (ownC a.1 a.2 ++ ownCs cs).Nodup := nd
    show (ownC q.1 q.2 ++ ownCs cs).Nodup
    rw [List.nodup_append] at nd ⊢
    refine ⟨nq, nd.2.1, fun x hx y hy => ?_⟩
    rcases h x hx with z | z
    · exact nd.2.2 x z y hy
    · intro e2
      exact z (by rw [e2]; exact List.mem_append_right (ownC a.1 a.2) hy)
  | a :: cs, i + 1, p, q, nd, e, nq, h => by
    have nd : (ownC a.1 a.2 ++ ownCs cs).Nodup := nd
    show (ownC a.1 a.2 ++ ownCs (cs.set i q)).Nodup
    rw [List.nodup_append] at nd ⊢
    have e : cs[i]? = some p := e
    have hp : p ∈ cs := List.mem_of_getElem? e
    refine ⟨nd.1, own_set_nd (p := p) nd.2.1 e nq fun x hx => ?_, fun x hx y hy => ?_⟩
    · exact (h x hx).imp id fun z w => z (List.mem_append_right (ownC a.1 a.2) w)
    · rcases own_set hy with z | z
      · exact nd.2.2 x hx y z
      · rcases h y z with k | k
        · exact nd.2.2 x hx y (mem_ownCs.mpr ⟨p, hp, k⟩)
        · intro e2
          exact k (by rw [← e2]; exact List.mem_append_left _ hx)
structure GdAt (K : PySem.W.Frag) (CC CG : Addr) (H : Hp) (g : Addr) (A : GdA) (s : GdS) : Prop where
  ins : H g = some (.ins CG A.dx (fldG A))
  own : H A.dx = some (.own g)
  nw : SqT K H A.nw (tv (am s.now))
  tm : H A.tm = some (.dK (tmV s.tempos))
  po : H A.po = some (.dK (tmV s.posts))
  la : H A.la = some (.lst (A.cs.map fun p => V.ref p.1))
  ch : ChL K CC H A.cs s.laid
  nd : (ownG g A).Nodup
variable {g : Addr} {A : GdA} {s : GdS}
theorem GdAt.sx (h : GdAt K CC CG H g A s) (e : Sx T S H H') (hd : ∀ x ∈ ownG g A, x ∉ S) : GdAt K CC CG H' g A s := by
  have m : ∀ x, x ∈ ownB g A → ∀ o, H x = some o → nTbl o → H' x = some o := fun x hx o ho n => e.keep x o ho n (.inr (hd x (List.mem_append_left _ hx)))
  exact ⟨m _ (by simp [ownB]) _ h.ins trivial, e.keep _ _ h.own trivial (.inl rfl), e.tup h.nw, m _ (by simp [ownB]) _ h.tm trivial, m _ (by simp [ownB]) _ h.po trivial, m _ (by simp [ownB]) _ h.la trivial,
    h.ch.sx e fun x hx => hd x (List.mem_append_right _ hx), h.nd⟩
theorem GdAt.sm (h : GdAt K CC CG H g A s) (e : Sm T H H') : GdAt K CC CG H' g A s := h.sx (S := []) e.sx fun _ _ => by simp
theorem GdAt.obj (h : GdAt K CC CG H g A s) {x : Addr} (hx : x ∈ ownG g A) : ∃ o, H x = some o ∧ mutO o = true := by
  rcases List.mem_append.mp hx with z | z
  · simp only [ownB, List.mem_cons, List.not_mem_nil, or_false] at z
    rcases z with rfl | rfl | rfl | rfl
    · exact ⟨_, h.ins, rfl⟩
    · exact ⟨_, h.tm, rfl⟩
    · exact ⟨_, h.po, rfl⟩
    · exact ⟨_, h.la, rfl⟩
  · exact h.ch.obj z
theorem GdAt.new (h : GdAt K CC CG H g A s) {n : Addr} (hn : H n = none) : n ∉ ownG g A := fun hx => by
  obtain ⟨o, ho, _⟩ := h.obj hx
  rw [hn] at ho
  cases ho
theorem GdAt.nb (h : GdAt K CC CG H g A s) {i j : Nat} {x y : Addr} (hi : (ownB g A)[i]? = some x) (hj : (ownB g A)[j]? = some y) (hij : i ≠ j) : x ∉ [y] := fun z => by
  rw [List.mem_singleton.mp z] at hi
  exact hij (nd_ix (List.nodup_append.mp h.nd).1 hi hj)
theorem GdAt.nc (h : GdAt K CC CG H g A s) {x y : Addr} (hx : x ∈ ownCs A.cs) (hy : y ∈ ownB g A) : x ∉ [y] := fun z => (List.nodup_append.mp h.nd).2.2 y hy x hx (List.mem_singleton.mp z).symm
theorem GdAt.set_tm (h : GdAt K CC CG H g A s) (r : List (Str × Int)) : GdAt K CC CG (upd H A.tm (.dK (tmV r))) g A { s with tempos := r } := by
  have e : Sx [] [A.tm] H (upd H A.tm (.dK (tmV r))) := sx_upd h.tm rfl List.mem_cons_self
  exact ⟨e.keep _ _ h.ins trivial (.inr (h.nb (i := 0) (j := 1) rfl rfl (by decide))), e.keep _ _ h.own trivial (.inl rfl), e.tup h.nw, upd_same, e.keep _ _ h.po trivial (.inr (h.nb (i := 2) (j := 1) rfl rfl (by decide))), e.keep _ _ h.la trivial (.inr (h.nb (i := 3) (j := 1) rfl rfl (by decide))), h.ch.sx e fun x hx => h.nc hx (by simp [ownB]), h.nd⟩
theorem GdAt.set_po (h : GdAt K CC CG H g A s) (r : List (Str × Int)) : GdAt K CC CG (upd H A.po (.dK (tmV r))) g A { s with posts := r } := by
  have e : Sx [] [A.po] H (upd H A.po (.dK (tmV r))) := sx_upd h.po rfl List.mem_cons_self
  exact ⟨e.keep _ _ h.ins trivial (.inr (h.nb (i := 0) (j := 2) rfl rfl (by decide))), e.keep _ _ h.own trivial (.inl rfl), e.tup h.nw, e.keep _ _ h.tm trivial (.inr (h.nb (i := 1) (j := 2) rfl rfl (by decide))), upd_same, e.keep _ _ h.la trivial (.inr (h.nb (i := 3) (j := 2) rfl rfl (by decide))), h.ch.sx e fun x hx => h.nc hx (by simp [ownB]), h.nd⟩
theorem GdAt.re_nw (h : GdAt K CC CG H g A s) {n : Addr} {t : Rat} (hn : SqT K H n (tv (am t))) : GdAt K CC CG (upd H g (.ins CG A.dx (fldG { A with nw := n }))) g { A with nw := n } { s with now := t } := by
  have e : Sx [] [g] H (upd H g (.ins CG A.dx (fldG { A with nw := n }))) := sx_upd h.ins rfl List.mem_cons_self
  exact ⟨upd_same, e.keep _ _ h.own trivial (.inl rfl), e.tup hn, e.keep _ _ h.tm trivial (.inr (h.nb (i := 1) (j := 0) rfl rfl (by decide))), e.keep _ _ h.po trivial (.inr (h.nb (i := 2) (j := 0) rfl rfl (by decide))), e.keep _ _ h.la trivial (.inr (h.nb (i := 3) (j := 0) rfl rfl (by decide))), h.ch.sx e fun x hx => h.nc hx (by simp [ownB]), h.nd⟩
/-- the i-th chain has been changed -/
theorem GdAt.chain (h : GdAt K CC CG H g A s) {i : Nat} {p : Addr} {B B' : Ad} {s' : Ch} (hi : A.cs[i]? = some (p, B)) (e : Sx T (ownC p B) H H') (hc : ChAt K CC H' p B' s') (hf : ∀ x ∈ ownC p B', x ∈ ownC p B ∨ H x = none) :
    GdAt K CC CG H' g { A with cs := A.cs.set i (p, B') } { s with laid := s.laid.set i s' } := by
  have hp : (p, B) ∈ A.cs := List.mem_of_getElem? hi
  have dj : ∀ x ∈ ownB g A, x ∉ ownC p B := fun x hx z => (List.nodup_append.mp h.nd).2.2 x hx x (mem_ownCs.mpr ⟨_, hp, z⟩) rfl
  have m : ∀ x, x ∈ ownB g A → ∀ o, H x = some o → nTbl o → H' x = some o := fun x hx o ho n => e.keep x o ho n (.inr (dj x hx))
  have hil := (List.getElem?_eq_some_iff.mp hi).1
  have fr : ∀ x ∈ ownC p B', x ∈ ownC p B ∨ x ∉ ownG g A := fun x hx => (hf x hx).imp id fun z => h.new z
  have key : ∀ {cs : List (Addr × Ad)} {l : List Ch} {i : Nat}, ChL K CC H cs l → (ownCs cs).Nodup → cs[i]? = some (p, B) → ChL K CC H' (cs.set i (p, B')) (l.set i s') := by
    intro cs
    induction cs with
    | nil => intro l i _ _ q; simp at q
    | cons a cs ih =>
      intro l i hl nd q
      cases l with
      | nil => exact hl.elim
      | cons s0 l =>
        have nd : (ownC a.1 a.2 ++ ownCs cs).Nodup := nd
        rw [List.nodup_append] at nd
        cases i with
        | zero =>
          obtain rfl : a = (p, B) := Option.some.inj q
          exact ⟨hc, hl.2.sx e fun x hx z => nd.2.2 x z x hx rfl⟩
        | succ i =>
          have q : cs[i]? = some (p, B) := q
          exact ⟨hl.1.sx e fun x hx z => nd.2.2 x hx x (mem_ownCs.mpr ⟨_, List.mem_of_getElem? q, z⟩) rfl, ih hl.2 nd.2.1 q⟩
  have nd2 := List.nodup_append.mp h.nd
  refine ⟨m _ (by simp [ownB]) _ h.ins trivial, e.keep _ _ h.own trivial (.inl rfl), e.tup h.nw, m _ (by simp [ownB]) _ h.tm trivial, m _ (by simp [ownB]) _ h.po trivial, ?_, key h.ch nd2.2.1 hi, ?_⟩
  · rw [m _ (by simp [ownB]) _ h.la trivial]
    congr 2
    refine List.ext_getElem? fun j => ?_
    rw [List.getElem?_map, List.getElem?_map, List.getElem?_set]
    split
    · rename_i z
      subst z
      rw [hi]
      rfl
    · rfl
  · refine List.nodup_append.mpr ⟨nd2.1, own_set_nd (p := (p, B)) nd2.2.1 hi hc.nd fun x hx => (fr x hx).imp id fun z w => z (List.mem_append_right _ w), fun x hx y hy => ?_⟩
    have hx : x ∈ ownB g A := hx
    rcases own_set hy with z | z
    · exact nd2.2.2 x hx y z
    · rcases fr y z with k | k
      · exact nd2.2.2 x hx y (mem_ownCs.mpr ⟨_, hp, k⟩)
      · intro e2
        exact k (by rw [← e2]; exact List.mem_append_left _ hx)
/-- a new chain in the i-th place -/
theorem GdAt.lead (h : GdAt K CC CG H g A s) {i : Nat} {p : Addr} {B : Ad} {s' : Ch} (hi : i < A.cs.length) (hc : ChAt K CC H p B s') (hf : ∀ x ∈ ownC p B, x ∉ ownG g A) :
    GdAt K CC CG (upd H A.la (.lst ((A.cs.set i (p, B)).map fun p => V.ref p.1))) g { A with cs := A.cs.set i (p, B) } { s with laid := s.laid.set i s' } := by
  have nd2 := List.nodup_append.mp h.nd
  have e : Sx [] [A.la] H (upd H A.la (.lst ((A.cs.set i (p, B)).map fun p => V.ref p.1))) := sx_upd h.la rfl List.mem_cons_self
  have hla : A.la ∈ ownG g A := List.mem_append_left _ (by simp [ownB])
  have dj : ∀ x ∈ ownC p B, x ∉ [A.la] := fun x hx z => hf x hx (by rw [List.mem_singleton.mp z]; exact hla)
  refine ⟨e.keep _ _ h.ins trivial (.inr (h.nb (i := 0) (j := 3) rfl rfl (by decide))), e.keep _ _ h.own trivial (.inl rfl), e.tup h.nw, e.keep _ _ h.tm trivial (.inr (h.nb (i := 1) (j := 3) rfl rfl (by decide))), e.keep _ _ h.po trivial (.inr (h.nb (i := 2) (j := 3) rfl rfl (by decide))), upd_same, (h.ch.sx e fun x hx => h.nc hx (by simp [ownB])).set i (q := (p, B)) (hc.sx e dj), ?_⟩
  refine List.nodup_append.mpr ⟨nd2.1, own_set_nd (q := (p, B)) nd2.2.1 (List.getElem?_eq_getElem hi) hc.nd fun x hx => .inr fun w => hf x hx (List.mem_append_right _ w), fun x hx y hy => ?_⟩
  have hx : x ∈ ownB g A := hx
  rcases own_set hy with z | z
  · exact nd2.2.2 x hx y z
  · intro e2
    exact hf y z (by rw [← e2]; exact List.mem_append_left _ hx)
/-- a new chain behind the others -/
theorem GdAt.push (h : GdAt K CC CG H g A s) {p : Addr} {B : Ad} {s' : Ch} (hc : ChAt K CC H p B s') (hf : ∀ x ∈ ownC p B, x ∉ ownG g A) :
    GdAt K CC CG (upd H A.la (.lst ((A.cs ++ [(p, B)]).map fun p => V.ref p.1))) g { A with cs := A.cs ++ [(p, B)] } { s with laid := s.laid ++ [s'] } := by
  have nd2 := List.nodup_append.mp h.nd
  have e : Sx [] [A.la] H (upd H A.la (.lst ((A.cs ++ [(p, B)]).map fun p => V.ref p.1))) := sx_upd h.la rfl List.mem_cons_self
  have hla : A.la ∈ ownG g A := List.mem_append_left _ (by simp [ownB])
  have dj : ∀ x ∈ ownC p B, x ∉ [A.la] := fun x hx z => hf x hx (by rw [List.mem_singleton.mp z]; exact hla)
  have eo : ownCs (A.cs ++ [(p, B)]) = ownCs A.cs ++ ownC p B := by
    unfold ownCs
    rw [List.flatMap_append, List.flatMap_cons, List.flatMap_nil, List.append_nil]
  refine ⟨e.keep _ _ h.ins trivial (.inr (h.nb (i := 0) (j := 3) rfl rfl (by decide))), e.keep _ _ h.own trivial (.inl rfl), e.tup h.nw, e.keep _ _ h.tm trivial (.inr (h.nb (i := 1) (j := 3) rfl rfl (by decide))), e.keep _ _ h.po trivial (.inr (h.nb (i := 2) (j := 3) rfl rfl (by decide))), upd_same, (h.ch.sx e fun x hx => h.nc hx (by simp [ownB])).push (q := (p, B)) (hc.sx e dj), ?_⟩
  show (ownB g A ++ ownCs (A.cs ++ [(p, B)])).Nodup
  rw [eo]
  refine List.nodup_append.mpr ⟨nd2.1, List.nodup_append.mpr ⟨nd2.2.1, hc.nd, fun x hx y hy e2 => hf y hy (by rw [← e2]; exact List.mem_append_right _ hx)⟩, fun x hx y hy => ?_⟩
  rcases List.mem_append.mp hy with z | z
  · exact nd2.2.2 x hx y z
  · intro e2
    exact hf y z (by rw [← e2]; exact List.mem_append_left _ hx)
end
section
variable {K : PySem.W.Frag} {T : Tb} {CC CG : Addr} {H H' : Hp} {g : Addr} {A : GdA} {s : GdS}
theorem nd_base {g : Addr} {A : GdA} {i : Nat} {x y : Addr} (h : (ownG g A).Nodup) (hi : (ownB g A)[i]? = some x) (hy : y ∉ ownG g A) : ((ownB g A).set i y ++ ownCs A.cs).Nodup := by
  have nd2 := List.nodup_append.mp h
  refine List.nodup_append.mpr ⟨nd_set nd2.1 hi fun z => hy (List.mem_append_left _ z), nd2.2.1, fun a ha b hb => ?_⟩
  rcases List.mem_or_eq_of_mem_set ha with z | z
  · exact nd2.2.2 a z b hb
  · rw [z]
    intro e
    exact hy (by rw [e]; exact List.mem_append_right _ hb)
theorem GdAt.re_tm (h : GdAt K CC CG H g A s) {n : Addr} {r : List (Str × Int)} (hn : H n = some (.dK (tmV r))) (np : n ∉ ownG g A) : GdAt K CC CG (upd H g (.ins CG A.dx (fldG { A with tm := n }))) g { A with tm := n } { s with tempos := r } := by
  have e : Sx [] [g] H (upd H g (.ins CG A.dx (fldG { A with tm := n }))) := sx_upd h.ins rfl List.mem_cons_self
  have ng : n ∉ [g] := fun z => np (by rw [List.mem_singleton.mp z]; exact List.mem_append_left _ (by simp [ownB]))
  exact ⟨upd_same, e.keep _ _ h.own trivial (.inl rfl), e.tup h.nw, e.keep _ _ hn trivial (.inr ng), e.keep _ _ h.po trivial (.inr (h.nb (i := 2) (j := 0) rfl rfl (by decide))), e.keep _ _ h.la trivial (.inr (h.nb (i := 3) (j := 0) rfl rfl (by decide))), h.ch.sx e fun x hx => h.nc hx (by simp [ownB]), (by have z := nd_base (i := 1) h.nd rfl np; exact z)⟩
theorem GdAt.re_po (h : GdAt K CC CG H g A s) {n : Addr} {r : List (Str × Int)} (hn : H n = some (.dK (tmV r))) (np : n ∉ ownG g A) : GdAt K CC CG (upd H g (.ins CG A.dx (fldG { A with po := n }))) g { A with po := n } { s with posts := r } := by
  have e : Sx [] [g] H (upd H g (.ins CG A.dx (fldG { A with po := n }))) := sx_upd h.ins rfl List.mem_cons_self
  have ng : n ∉ [g] := fun z => np (by rw [List.mem_singleton.mp z]; exact List.mem_append_left _ (by simp [ownB]))
  exact ⟨upd_same, e.keep _ _ h.own trivial (.inl rfl), e.tup h.nw, e.keep _ _ h.tm trivial (.inr (h.nb (i := 1) (j := 0) rfl rfl (by decide))), e.keep _ _ hn trivial (.inr ng), e.keep _ _ h.la trivial (.inr (h.nb (i := 3) (j := 0) rfl rfl (by decide))), h.ch.sx e fun x hx => h.nc hx (by simp [ownB]), (by have z := nd_base (i := 2) h.nd rfl np; exact z)⟩
theorem GdAt.re_la (h : GdAt K CC CG H g A s) {n : Addr} {cs : List (Addr × Ad)} {l : List Ch} (hn : H n = some (.lst (cs.map fun p => V.ref p.1))) (hc : ChL K CC H cs l) (nd : (ownG g { A with la := n, cs := cs }).Nodup) :
    GdAt K CC CG (upd H g (.ins CG A.dx (fldG { A with la := n, cs := cs }))) g { A with la := n, cs := cs } { s with laid := l } := by
  have e : Sx [] [g] H (upd H g (.ins CG A.dx (fldG { A with la := n, cs := cs }))) := sx_upd h.ins rfl List.mem_cons_self
  have nd2 := List.nodup_append.mp nd
  have ng : n ∉ [g] := fun z => by
    have := (List.nodup_cons.mp nd2.1).1
    rw [List.mem_singleton.mp z] at this
    exact this (by simp)
  exact ⟨upd_same, e.keep _ _ h.own trivial (.inl rfl), e.tup h.nw, e.keep _ _ h.tm trivial (.inr (h.nb (i := 1) (j := 0) rfl rfl (by decide))), e.keep _ _ h.po trivial (.inr (h.nb (i := 2) (j := 0) rfl rfl (by decide))), e.keep _ _ hn trivial (.inr ng), hc.sx e fun x hx z => nd2.2.2 g (by simp [ownB]) x hx (List.mem_singleton.mp z).symm, nd⟩
end

def sp_p_Ground___init__ (K : PySem.W.Frag) (T : Tb) (CC CG : Addr) : Sp := fun vs H Q _ => ∃ (H0 : Hp) (g dx : Addr), vs = [.ref g] ∧ H = upd (upd H0 dx (.own g)) g (.ins CG dx []) ∧ H0 g = none ∧ H0 dx = none ∧ dx ≠ g ∧
  ∀ H' A, Sm T H0 H' → GdAt K CC CG H' g A gd0 → (∀ x ∈ ownG g A, H0 x = none) → A.cs = [] → Q .non H'
theorem ok_p_Ground___init__ {f : Addr} {fd : FuncData} {a_NOUGHT : Addr} (F : Fun K "__init__" "Ground.__init__" s_p_Ground___init__ f fd) (g_NOUGHT : mg "NOUGHT" = some (.ref a_NOUGHT)) (s_NOUGHT : ∀ H, SqT K H a_NOUGHT [.int 0, .int 1]) {CC : Addr} {CG : Addr} (TG : KlG K CG) : FnOk P w K mg base CX0 1 f fd ["self"] (sp_p_Ground___init__ K T CC CG) := by
  refine F.ok sc_p_Ground___init__ (fun vs H Q E h => ?_) (fun cdv A outer s H vs Q E hr h => ?_)
  · obtain ⟨H0, g, dx, rfl, _⟩ := h
    rfl
  · obtain ⟨H0, g, dx, rfl, rfl, nc, nd, ncd, q⟩ := h
    refine ⟨_, (pss_cons (ps_fc TG.cl (TG.no "now" (by decide +kernel)) (pv 0) (pe_glob (v := .ref a_NOUGHT) (by rfl) g_NOUGHT rfl))
      (pss_cons (ps_fc TG.cl (TG.no "tempos" (by decide +kernel)) (pv 0) pe_dnewK)
      (pss_cons (ps_fc TG.cl (TG.no "posts" (by decide +kernel)) (pv 0) pe_dnewK)
      (pss_one (ps_fc TG.cl (TG.no "laid" (by decide +kernel)) (pv 0) (pe_lst pa_nil)))))), ?_⟩
    have v1 := same_upd (T := T) (o := .own g) nd
    have nc1 : upd H0 dx (.own g) g = none := by rw [upd_ne (Ne.symm ncd)]; exact nc
    have v2 := same_upd (T := T) (o := .ins CG dx []) nc1
    have m0 : Mkg T CG H0 (upd (upd H0 dx (.own g)) g (.ins CG dx [])) g dx [] [] := ⟨v1.trans v2, upd_same, v2.k (b := dx) (o := .own g) upd_same, (fun _ h => nomatch h), by simp⟩
    generalize upd (upd H0 dx (.own g)) g (.ins CG dx []) = H1 at *
    refine ⟨_, rfl, g, _, _, rfl, m0.ins, by show 0 < 1000; decide, ?_⟩
    have m1 := m0.val nc ncd "now" (.ref a_NOUGHT)
    generalize upd H1 g (.ins CG dx (putF "now" (.ref a_NOUGHT) [])) = H2 at *
    intro ptm n1
    have w1 := m1.sm' (same_upd (T := T) (o := .dK []) n1) (nt1 rfl)
    refine ⟨_, rfl, g, _, _, rfl, w1.ins, by show 1 < 1000; decide, ?_⟩
    have m2 := m1.new nc ncd "tempos" (o := .dK []) n1 (nt1 rfl)
    generalize upd (upd H2 ptm (.dK [])) g (.ins CG dx (putF "tempos" (.ref ptm) (putF "now" (.ref a_NOUGHT) []))) = H3 at *
    intro ppo n2
    have w2 := m2.sm' (same_upd (T := T) (o := .dK []) n2) (nt1 rfl)
    refine ⟨_, rfl, g, _, _, rfl, w2.ins, by show 2 < 1000; decide, ?_⟩
    have m3 := m2.new nc ncd "posts" (o := .dK []) n2 (nt1 rfl)
    generalize upd (upd H3 ppo (.dK [])) g (.ins CG dx (putF "posts" (.ref ppo) (putF "tempos" (.ref ptm) (putF "now" (.ref a_NOUGHT) [])))) = H4 at *
    refine ⟨Nat.zero_le _, fun pla n3 => ?_⟩
    have w3 := m3.sm' (same_upd (T := T) (o := .lst []) n3) (nt1 rfl)
    refine ⟨_, rfl, g, _, _, rfl, w3.ins, by show 3 < 1000; decide, ?_⟩
    have m4 := m3.new nc ncd "laid" (o := .lst []) n3 (nt1 rfl)
    generalize upd (upd H4 pla (.lst [])) g (.ins CG dx (putF "laid" (.ref pla) (putF "posts" (.ref ppo) (putF "tempos" (.ref ptm) (putF "now" (.ref a_NOUGHT) []))))) = H5 at *
    have at_ := m4.at_
    refine q H5 { dx := dx, nw := a_NOUGHT, tm := ptm, po := ppo, la := pla, cs := [] } m4.sm ⟨m4.ins, m4.own, by show SqT K _ _ (tv (am 0)); rw [am_zero]; exact s_NOUGHT _, (at_ (ptm, .dK []) (by simp)).1, (at_ (ppo, .dK []) (by simp)).1, (at_ (pla, .lst []) (by simp)).1, trivial, ?_⟩ (fun x hx => ?_) rfl
    · have nd9 := m4.nd
      have e : ([g, pla, ppo, ptm] : List Addr).Perm [g, ptm, ppo, pla] := .cons g (List.reverse_perm _).symm
      show ([g, ptm, ppo, pla] ++ []).Nodup
      rw [List.append_nil]
      exact nd_perm nd9 e
    · have hx : x ∈ [g, ptm, ppo, pla] ++ [] := hx
      rw [List.append_nil] at hx
      simp only [List.mem_cons, List.not_mem_nil, or_false] at hx
      rcases hx with rfl | rfl | rfl | rfl
      · exact nc
      · exact (at_ (x, .dK []) (by simp)).2
      · exact (at_ (x, .dK []) (by simp)).2
      · exact (at_ (x, .lst []) (by simp)).2
def sp_p_Ground_twin (K : PySem.W.Frag) (T : Tb) (CC CG : Addr) : Sp := fun vs H Q _ => ∃ (g : Addr) (A : GdA) (s : GdS), vs = [.ref g] ∧ GdAt K CC CG H g A s ∧
  ∀ p B H', Sm T H H' → GdAt K CC CG H' p B s → (∀ x ∈ ownB p B, H x = none) → B.cs = A.cs → Q (.ref p) H'
theorem ok_p_Ground_twin {f : Addr} {fd : FuncData} (F : Fun K "twin" "Ground.twin" s_p_Ground_twin f fd) (B : Bn mg) {CC : Addr} {CG : Addr} (TG : KlG K CG) (MG_init : Mn P w K mg base CG 1 "Ground" ["self"] (sp_p_Ground___init__ K T CC CG)) : FnOk P w K mg base CX0 3 f fd ["self"] (sp_p_Ground_twin K T CC CG) := by
  refine F.ok sc_p_Ground_twin (fun vs H Q E h => ?_) (fun cdv A outer s H vs Q E hr h => ?_)
  · obtain ⟨g, A, s, rfl, _⟩ := h
    rfl
  · obtain ⟨g, A, s, rfl, h, q⟩ := h
    refine ⟨_, (pss_cons (ps_set (i := 1) sc_p_Ground_twin.nd rfl (.inl rfl) (pe_mn0 MG_init (hr.mono (by decide))))
      (pss_cons (ps_fc TG.cl (TG.no "now" (by decide +kernel)) (pv 1) (pe_fc TG.cl (TG.no "now" (by decide +kernel)) (pv 0)))
      (pss_cons (ps_fc TG.cl (TG.no "tempos" (by decide +kernel)) (pv 1) (pe_callTy call_dictD (by rfl) B.dict_ (by decide +kernel) (pa_cons (pe_fc TG.cl (TG.no "tempos" (by decide +kernel)) (pv 0)) pa_nil)))
      (pss_cons (ps_fc TG.cl (TG.no "posts" (by decide +kernel)) (pv 1) (pe_callTy call_dictD (by rfl) B.dict_ (by decide +kernel) (pa_cons (pe_fc TG.cl (TG.no "posts" (by decide +kernel)) (pv 0)) pa_nil)))
      (pss_cons (ps_fc TG.cl (TG.no "laid" (by decide +kernel)) (pv 1) (pe_callTy call_list_of (by rfl) B.list_ (by decide +kernel) (pa_cons (pe_fc TG.cl (TG.no "laid" (by decide +kernel)) (pv 0)) pa_nil)))
      (pss_one (ps_ret (pv 1)))))))), ?_⟩
    refine fun x dx nx ndx nex => ?_
    refine ⟨H, x, dx, rfl, rfl, nx, ndx, nex, fun H1 B s1 hx fr ec => ⟨rfl, ?_⟩⟩
    have h1 := h.sm s1
    have own : ∀ y ∈ ownG g A, y ∉ [x] := fun y hy z => by
      rw [List.mem_singleton.mp z] at hy
      exact h.new nx hy
    have fb : ∀ y ∈ ownB x B, H y = none := fun y hy => fr y (List.mem_append_left _ hy)
    have fx : ∀ {H2 : Hp}, Sx T [x] H1 H2 → Sx T [x] H H2 := fun z => s1.sx.trans z fun y hy => .inl hy
    -- the hour
    refine ⟨_, rfl, g, _, _, _, rfl, h1.ins, fg_nw, _, rfl, x, _, _, rfl, hx.ins, by show 4 < 1000; decide, ?_⟩
    rw [pg_nw]
    have x2 : Sx T [x] H1 (upd H1 x (.ins CG B.dx (fldG { B with nw := A.nw }))) := sx_upd hx.ins rfl List.mem_cons_self
    have hx2 := hx.re_nw h1.nw
    have h2 := h1.sx x2 own
    have y2 := fx x2
    have fb2 : ∀ y ∈ ownB x { B with nw := A.nw }, H y = none := fb
    have ec2 : ({ B with nw := A.nw } : GdA).cs = [] := ec
    clear x2 hx h1 s1 fr fb ec fx
    generalize upd H1 x (.ins CG B.dx (fldG { B with nw := A.nw })) = H2 at *
    generalize ({ B with nw := A.nw } : GdA) = B2 at *
    -- the paces
    refine ⟨_, rfl, g, _, _, _, rfl, h2.ins, fg_tm, A.tm, _, rfl, Rd.of h2.tm, fun p3 n3 => ?_⟩
    have u3 := same_upd (T := T) (o := .dK (tmV s.tempos)) n3
    have k3 := hx2.sm u3
    have z3 := hx2.new n3
    have f3 : H p3 = none := y2.free _ n3
    refine ⟨_, rfl, x, _, _, rfl, k3.ins, by show 4 < 1000; decide, ?_⟩
    rw [pg_tm]
    have x3 : Sx T [x] (upd H2 p3 (.dK (tmV s.tempos))) (upd (upd H2 p3 (.dK (tmV s.tempos))) x (.ins CG B2.dx (fldG { B2 with tm := p3 }))) := sx_upd k3.ins rfl List.mem_cons_self
    have hx3 := k3.re_tm upd_same z3
    have h3 := (h2.sm u3).sx x3 own
    have y3 := (y2.sm' u3).step x3
    have fb3 : ∀ y ∈ ownB x { B2 with tm := p3 }, H y = none := fun y hy => by
      simp only [ownB, List.mem_cons, List.not_mem_nil, or_false] at hy
      rcases hy with rfl | rfl | rfl | rfl
      · exact nx
      · exact f3
      · exact fb2 _ (by simp [ownB])
      · exact fb2 _ (by simp [ownB])
    have ec3 : ({ B2 with tm := p3 } : GdA).cs = [] := ec2
    clear x3 k3 u3 z3 n3 hx2 h2 y2 fb2 ec2
    generalize upd (upd H2 p3 (.dK (tmV s.tempos))) x (.ins CG B2.dx (fldG { B2 with tm := p3 })) = H3 at *
    generalize ({ B2 with tm := p3 } : GdA) = B3 at *
    -- the posts
    refine ⟨_, rfl, g, _, _, _, rfl, h3.ins, fg_po, A.po, _, rfl, Rd.of h3.po, fun p4 n4 => ?_⟩
    have u4 := same_upd (T := T) (o := .dK (tmV s.posts)) n4
    have k4 := hx3.sm u4
    have z4 := hx3.new n4
    have f4 : H p4 = none := y3.free _ n4
    refine ⟨_, rfl, x, _, _, rfl, k4.ins, by show 4 < 1000; decide, ?_⟩
    rw [pg_po]
    have x4 : Sx T [x] (upd H3 p4 (.dK (tmV s.posts))) (upd (upd H3 p4 (.dK (tmV s.posts))) x (.ins CG B3.dx (fldG { B3 with po := p4 }))) := sx_upd k4.ins rfl List.mem_cons_self
    have hx4 := k4.re_po upd_same z4
    have h4 := (h3.sm u4).sx x4 own
    have y4 := (y3.sm' u4).step x4
    have fb4 : ∀ y ∈ ownB x { B3 with po := p4 }, H y = none := fun y hy => by
      simp only [ownB, List.mem_cons, List.not_mem_nil, or_false] at hy
      rcases hy with rfl | rfl | rfl | rfl
      · exact nx
      · exact fb3 _ (by simp [ownB])
      · exact f4
      · exact fb3 _ (by simp [ownB])
    have ec4 : ({ B3 with po := p4 } : GdA).cs = [] := ec3
    clear x4 k4 u4 z4 n4 hx3 h3 y3 fb3 ec3
    generalize upd (upd H3 p4 (.dK (tmV s.posts))) x (.ins CG B3.dx (fldG { B3 with po := p4 })) = H4 at *
    generalize ({ B3 with po := p4 } : GdA) = B4 at *
    -- the chains
    refine ⟨_, rfl, g, _, _, _, rfl, h4.ins, fg_la, A.la, _, rfl, .inl (SqL.of h4.la), fun p5 n5 => ?_⟩
    have u5 := same_upd (T := T) (o := .lst (A.cs.map fun p => V.ref p.1)) n5
    have k5 := hx4.sm u5
    have z5 := hx4.new n5
    have f5 : H p5 = none := y4.free _ n5
    have fb5 : ∀ y ∈ ownB x { B4 with la := p5, cs := A.cs }, H y = none := fun y hy => by
      simp only [ownB, List.mem_cons, List.not_mem_nil, or_false] at hy
      rcases hy with rfl | rfl | rfl | rfl
      · exact nx
      · exact fb4 _ (by simp [ownB])
      · exact fb4 _ (by simp [ownB])
      · exact f5
    refine ⟨_, rfl, x, _, _, rfl, k5.ins, by show 4 < 1000; decide, ?_⟩
    rw [show putF "laid" (.ref p5) (fldG B4) = fldG { B4 with la := p5, cs := A.cs } from rfl]
    have x5 : Sx T [x] (upd H4 p5 (.lst (A.cs.map fun p => V.ref p.1))) (upd (upd H4 p5 (.lst (A.cs.map fun p => V.ref p.1))) x (.ins CG B4.dx (fldG { B4 with la := p5, cs := A.cs }))) := sx_upd k5.ins rfl List.mem_cons_self
    have nd5 : (ownG x { B4 with la := p5, cs := A.cs }).Nodup := by
      refine List.nodup_append.mpr ⟨?_, (List.nodup_append.mp h.nd).2.1, fun a ha b hb e => ?_⟩
      · have := nd_base (i := 3) hx4.nd rfl z5
        exact (List.nodup_append.mp this).1
      · have a0 := fb5 a ha
        obtain ⟨o, ho, _⟩ := h.ch.obj hb
        rw [e, ho] at a0
        cases a0
    have hx5 := k5.re_la upd_same ((h4.sm u5).ch) nd5
    exact ⟨_, rfl, q x _ _ (Sx.sm (Sx.trans (S := []) Sx.refl ((y4.sm' u5).step x5) fun y hy => .inr (by rw [List.mem_singleton.mp hy]; exact nx))) hx5 fb5 rfl⟩
/-! ### who is there, who is in the pool, which chains there are -/
def handW (s : GdS) (n : Str) : Option Str := if (getL s.tempos n).isSome = true then none else some "no hand"
def idleW (s : GdS) (n : Str) : Option Str := if (getL s.tempos n).isSome = true then (if (getL s.posts n).isSome = true then some "busy" else none) else some "no hand"
def chainW (s : GdS) (k : Int) : Option Str := if 0 ≤ k ∧ k ≤ (s.laid.length : Int) - 1 then none else some "no chain"
theorem tm_in (l : List (Str × Int)) (n : Str) : (valV (tmV l) (Sum.inr n)).isSome = (getL l n).isSome := by rw [val_tm]; cases getL l n <;> rfl
def sp_p_Ground_check_hand (K : PySem.W.Frag) (T : Tb) (CP CC CG : Addr) : Sp := fun vs H Q E => ∃ (g : Addr) (A : GdA) (s : GdS) (n : Str), vs = [.ref g, .str n] ∧ GdAt K CC CG H g A s ∧ (handW s n = none → Q .non H) ∧ (∀ wd, handW s n = some wd → ∀ cls d H', Sm T H H' → Rf K CP wd cls d H' → E cls d H')
theorem ok_p_Ground_check_hand {f : Addr} {fd : FuncData} (F : Fun K "check_hand" "Ground.check_hand" s_p_Ground_check_hand f fd) {CP : Addr} (R_NoHand : Err P w K mg base CP "NoHand" "no hand") {CC : Addr} {CG : Addr} (TG : KlG K CG) : FnOk P w K mg base (L2.CX P w) 4 f fd ["self", "name"] (sp_p_Ground_check_hand K T CP CC CG) := by
  refine F.okX sc_p_Ground_check_hand (fun vs H Q E h => ?_) (fun cdv A outer s H vs Q E hr h => ?_)
  · obtain ⟨g, A, s, n, rfl, _⟩ := h
    rfl
  · obtain ⟨g, A, s, n, rfl, h, k1, k2⟩ := h
    refine ⟨_, (pss_one (ps_if (pt_cmp (pc_dnotin (hu_of hr) (pv 1) (pe_fc TG.cl (TG.no "tempos" (by decide +kernel)) (pv 0)))) (pss_one (ps_raise rfl (takes_of rfl rfl rfl rfl) (pmk_err R_NoHand (hr.mono (by decide)) (by rfl)))) pss_nil)), ?_⟩
    refine ⟨_, rfl, _, rfl, g, _, _, _, rfl, h.ins, fg_tm, A.tm, _, rfl, DGet.k (k := Sum.inr n) h.tm, _, rfl, ?_⟩
    rw [tm_in]
    cases e : (getL s.tempos n).isSome with
    | true => exact iteF (k1 (by unfold handW; rw [e]; rfl))
    | false => exact iteT fun cls dd hn rf => k2 "no hand" (by unfold handW; rw [e]; rfl) cls (some dd) _ (same_upd hn) rf
def sp_p_Ground_check_idle (K : PySem.W.Frag) (T : Tb) (CP CC CG : Addr) : Sp := fun vs H Q E => ∃ (g : Addr) (A : GdA) (s : GdS) (n : Str), vs = [.ref g, .str n] ∧ GdAt K CC CG H g A s ∧ (idleW s n = none → Q .non H) ∧ (∀ wd, idleW s n = some wd → ∀ cls d H', Sm T H H' → Rf K CP wd cls d H' → E cls d H')
theorem ok_p_Ground_check_idle {f : Addr} {fd : FuncData} (F : Fun K "check_idle" "Ground.check_idle" s_p_Ground_check_idle f fd) {CP : Addr} (R_Busy : Err P w K mg base CP "Busy" "busy") {CC : Addr} {CG : Addr} (TG : KlG K CG) (MG_check_hand : Mx P w K mg base CG 4 "check_hand" ["self", "name"] (sp_p_Ground_check_hand K T CP CC CG)) : FnOk P w K mg base (L2.CX P w) 5 f fd ["self", "name"] (sp_p_Ground_check_idle K T CP CC CG) := by
  refine F.okX sc_p_Ground_check_idle (fun vs H Q E h => ?_) (fun cdv A outer s H vs Q E hr h => ?_)
  · obtain ⟨g, A, s, n, rfl, _⟩ := h
    rfl
  · obtain ⟨g, A, s, n, rfl, h, k1, k2⟩ := h
    refine ⟨_, (pss_cons (ps_expr (pe_mx MG_check_hand TG.cl (hr.mono (by decide)) (takes_of rfl rfl rfl rfl) (pv 0) (pa_cons (pv 1) pa_nil)))
      (pss_one (ps_if (pt_cmp (pc_din (hu_of hr) (pv 1) (pe_fc TG.cl (TG.no "posts" (by decide +kernel)) (pv 0)))) (pss_one (ps_raise rfl (takes_of rfl rfl rfl rfl) (pmk_err R_Busy (hr.mono (by decide)) (by rfl)))) pss_nil))), ?_⟩
    refine ⟨_, rfl, g, _, _, rfl, h.ins, fg_no (by decide +kernel), _, rfl, g, A, s, n, rfl, h, fun z => ?_, fun wd z => k2 wd ?_⟩
    · have e1 : (getL s.tempos n).isSome = true := by
        unfold handW at z
        split at z
        · assumption
        · cases z
      refine ⟨_, rfl, _, rfl, g, _, _, _, rfl, h.ins, fg_po, A.po, _, rfl, DGet.k (k := Sum.inr n) h.po, _, rfl, ?_⟩
      rw [tm_in]
      cases e : (getL s.posts n).isSome with
      | false => exact iteF (k1 (by unfold idleW; rw [e1, e]; rfl))
      | true => exact iteT fun cls dd hn rf => k2 "busy" (by unfold idleW; rw [e1, e]; rfl) cls (some dd) _ (same_upd hn) rf
    · unfold handW at z
      split at z
      · cases z
      · rename_i c
        unfold idleW
        rw [if_neg c]
        exact z
def sp_p_Ground_check_chain (K : PySem.W.Frag) (T : Tb) (CP CC CG : Addr) : Sp := fun vs H Q E => ∃ (g : Addr) (A : GdA) (s : GdS) (k : Int), vs = [.ref g, .int k] ∧ GdAt K CC CG H g A s ∧ (chainW s k = none → Q .non H) ∧ (∀ wd, chainW s k = some wd → ∀ cls d H', Sm T H H' → Rf K CP wd cls d H' → E cls d H')
theorem ok_p_Ground_check_chain {f : Addr} {fd : FuncData} (F : Fun K "check_chain" "Ground.check_chain" s_p_Ground_check_chain f fd) (B : Bn mg) {CP : Addr} (R_NoChain : Err P w K mg base CP "NoChain" "no chain") {CC : Addr} {CG : Addr} (TG : KlG K CG) (F_p_is_within : Fn P w K mg base 2 "is_within" ["thing", "least", "most"] (sp_p_is_within K T)) : FnOk P w K mg base (L2.CX P w) 4 f fd ["self", "number"] (sp_p_Ground_check_chain K T CP CC CG) := by
  refine F.okX sc_p_Ground_check_chain (fun vs H Q E h => ?_) (fun cdv A outer s H vs Q E hr h => ?_)
  · obtain ⟨g, A, s, k, rfl, _⟩ := h
    rfl
  · obtain ⟨g, A, s, k, rfl, h, k1, k2⟩ := h
    refine ⟨_, (pss_one (ps_if (pt_not (pt_val (pe_fn F_p_is_within (hr.mono (by decide)) (pa_cons (pv 1) (pa_cons pe_int (pa_cons (pe_op op_sub (pe_callB call_len_seq (by rfl) B.len_ (by decide +kernel) (pa_cons (pe_fc TG.cl (TG.no "laid" (by decide +kernel)) (pv 0)) pa_nil)) pe_int) pa_nil)))))) (pss_one (ps_raise rfl (takes_of rfl rfl rfl rfl) (pmk_err R_NoChain (hr.mono (by decide)) (by rfl)))) pss_nil)), ?_⟩
    refine ⟨_, rfl, _, rfl, g, _, _, _, rfl, h.ins, fg_la, A.la, _, rfl, .inl (SqL.of h.la), _, _, rfl, rfl, ?_⟩
    rw [List.length_map, h.ch.len]
    refine ⟨k, 0, _, rfl, _, rfl, ?_⟩
    rw [← Bool.decide_and]
    by_cases c : 0 ≤ k ∧ k ≤ (s.laid.length : Int) - 1
    · rw [decide_eq_true c]
      exact iteF (k1 (if_pos c))
    · rw [decide_eq_false c]
      exact iteT fun cls dd hn rf => k2 "no chain" (if_neg c) cls (some dd) _ (same_upd hn) rf
/-- what is asked of a chain of a ground -/
structure FitC (s : Ch) : Prop where
  wy : wayB s.way = true
  fi : s.fire = labourM s.way
  sd : Side s
  ml : s.marks.length < 4900
  mm : ∀ m ∈ s.marks, m.length ≤ 4900
  tl : s.tempos.length < 1000
  gl : s.ledgers.length < 1000
  lv : s.leaving.length ≤ 1000
structure FitG (s : GdS) : Prop where
  tl : s.tempos.length ≤ 1000
  pl : s.posts.length ≤ 1000
  ll : s.laid.length ≤ 100
  pk : ∀ n k, getL s.posts n = some k → 0 ≤ k ∧ k < (s.laid.length : Int)
  ch : ∀ c ∈ s.laid, FitC c
  pr : ∀ n k, getL s.posts n = some k → n ∈ (s.laid.getD k.toNat (newS 1 [])).row
theorem ixN_nat {n k : Nat} (h : k < n) : ixN n (k : Int) = some k := by
  unfold ixN
  rw [if_pos (by omega), if_pos (by omega)]
  congr 1
def sp_p_Ground_lead (K : PySem.W.Frag) (T : Tb) (CC CG : Addr) : Sp := fun vs H Q _ => ∃ (g : Addr) (A : GdA) (s : GdS) (i : Nat) (c : Ch), vs = [.ref g, .int i] ∧ GdAt K CC CG H g A s ∧ s.laid[i]? = some c ∧ FitC c ∧ Ok T H ∧
  ∀ p B H', Sx T (ownB g A) H H' → GdAt K CC CG H' g { A with cs := A.cs.set i (p, B) } s → (∀ x ∈ ownC p B, H x = none) → ChAt K CC H' p B c → Q (.ref p) H'
theorem ok_p_Ground_lead {f : Addr} {fd : FuncData} (F : Fun K "lead" "Ground.lead" s_p_Ground_lead f fd) {CC : Addr} {CG : Addr} (TC : Kl K CC) (TG : KlG K CG) (M_twin : Mt P w K mg base CC 8 "twin" ["self"] (sp_p_Chain_twin K T CC)) : FnOk P w K mg base CX0 9 f fd ["self", "number"] (sp_p_Ground_lead K T CC CG) := by
  refine F.ok sc_p_Ground_lead (fun vs H Q E h => ?_) (fun cdv A outer s H vs Q E hr h => ?_)
  · obtain ⟨g, A, s, i, c, rfl, _⟩ := h
    rfl
  · obtain ⟨g, A, s, i, c, rfl, h, hi, fc, hok, q⟩ := h
    refine ⟨_, (pss_cons (ps_set (i := 2) sc_p_Ground_lead.nd rfl (.inl rfl) (pe_mt0 M_twin TC.cl (hr.mono (by decide)) (pe_ix ix_list (pe_fc TG.cl (TG.no "laid" (by decide +kernel)) (pv 0)) (pv 1) (fun _ _ => rfl)) ))
      (pss_cons (ps_asg (pv 2) (pg_sub (pe_fc TG.cl (TG.no "laid" (by decide +kernel)) (pv 0)) (pv 1) set_list))
      (pss_one (ps_ret (pv 2))))), ?_⟩
    obtain ⟨p0, e0, c0⟩ := h.ch.get hi
    have hil := (List.getElem?_eq_some_iff.mp e0).1
    have hil' := (List.getElem?_eq_some_iff.mp hi).1
    refine ⟨_, rfl, g, _, _, _, rfl, h.ins, fg_la, _, rfl, A.la, _, _, .ref p0.1, rfl, rfl, SqL.of h.la, at_of (j := i) rfl (by rw [List.getElem?_map, e0]; rfl), p0.1, _, _, rfl, c0.ins, fl_no (by decide +kernel), p0.1, p0.2, c, rfl, c0, fc.wy, fc.fi, hok, fun p H1 B s1 hp fr => ?_⟩
    have h1 := h.sm s1
    have nw : ∀ x ∈ ownC p B, x ∉ ownG g A := fun x hx => h.new (fr x hx)
    refine ⟨_, rfl, _, rfl, g, _, _, _, rfl, h1.ins, fg_la, _, rfl, A.la, _, _, i, rfl, rfl, h1.la, by rw [List.length_map]; exact ixN_nat hil, ?_⟩
    have h2 := h1.lead hil hp nw
    have e2 : (A.cs.map fun p => V.ref p.1).set i (.ref p) = (A.cs.set i (p, B)).map fun p => V.ref p.1 := by rw [List.map_set]
    rw [e2]
    have x2 : Sx T (ownB g A) H1 (upd H1 A.la (.lst ((A.cs.set i (p, B)).map fun p => V.ref p.1))) := sx_upd h1.la rfl (by simp [ownB])
    have es : s.laid.set i c = s.laid := by
      refine List.ext_getElem? fun j => ?_
      rw [List.getElem?_set]
      split
      · rename_i z; subst z; rw [hi]
      · rfl
    have h2 : GdAt K CC CG _ g _ { s with laid := s.laid.set i c } := h2
    rw [es] at h2
    exact ⟨_, rfl, q p B _ (s1.sx.step x2) h2 fr (hp.sx x2 fun x hx z => nw x hx (List.mem_append_left _ z))⟩

def dropL (l : List (Str × Int)) (n : Str) : List (Str × Int) := l.filter fun x => !decide (x.1 = n)

theorem drop_tm (l : List (Str × Int)) (n : Str) : dropK (tmV l) (Sum.inr n) = tmV (dropL l n) := by
  unfold dropK tmV dropL
  rw [List.filter_map]
  congr 1
  refine List.filter_congr fun x _ => ?_
  show decide ((Sum.inr x.1 : L2.Key) ≠ Sum.inr n) = !decide (x.1 = n)
  by_cases c : x.1 = n
  · rw [decide_eq_true c, decide_eq_false (fun z => z (inr_eq.mpr c))]
    rfl
  · rw [decide_eq_false c, decide_eq_true (p := (Sum.inr x.1 : L2.Key) ≠ Sum.inr n) (fun z => c (inr_eq.mp z))]
    rfl

/-- a chain without hands lets the hours go by -/
def sp_p_Chain_walk_for_e (K : PySem.W.Frag) (T : Tb) (CC : Addr) : Sp := fun vs H Q _ => ∃ (c : Addr) (A : Ad) (s : Ch) (hp : Addr) (h : Rat), vs = [.ref c, .ref hp] ∧ ChAt K CC H c A s ∧ SqT K H hp (tv (am h)) ∧ s.row = [] ∧ (Bd 4000 (am s.now) ∧ Bd 4000 (am h)) ∧ s.poured.length ≤ 5000 ∧
  ∀ p H' A', Sx T [c] H H' → ChAt K CC H' c A' { s with now := s.now + h } → ownC c A' = ownC c A → p ∉ ownC c A → H p = none → H' p = some (.lst []) → Q (.ref p) H'
theorem ok_p_Chain_walk_for_e {f : Addr} {fd : FuncData} {u_MOST_OUTS : Value} (F : Fun K "walk_for" "Chain.walk_for" s_p_Chain_walk_for_e f fd) (B : Bn mg) (C_MOST_OUTS : RelV (.int 60) u_MOST_OUTS ∧ mg "MOST_OUTS" = some u_MOST_OUTS) {CC : Addr} (TC : Kl K CC) (F_p_plus : Fn P w K mg base 3 "plus" ["one", "other"] (sp_p_plus K T)) : FnOk P w K mg base CX0 4 f fd ["self", "hours"] (sp_p_Chain_walk_for_e K T CC) := by
  obtain ⟨⟨tM, rfl⟩, gM⟩ := id C_MOST_OUTS
  refine F.ok sc_p_Chain_walk_for_e (fun vs H Q E h => ?_) (fun cdv A outer s H vs Q E hr h => ?_)
  · obtain ⟨c, A, s, hp, h0, rfl, _⟩ := h
    rfl
  · obtain ⟨c, A, s, hp, h0, rfl, h, hh, hr0, bb, hpo, q⟩ := h
    refine ⟨_, (pss_cons (ps_set (i := 2) sc_p_Chain_walk_for_e.nd rfl (.inl rfl) (pe_lst pa_nil))
      (pss_cons (ps_set (i := 3) sc_p_Chain_walk_for_e.nd rfl (.inl rfl) (pe_op op_add (pe_callB call_len_seq (by rfl) B.len_ (by decide +kernel) (pa_cons (pe_fc TC.cl (TC.no "poured" (by decide +kernel)) (pv 0)) pa_nil)) (pe_glob (by rfl) C_MOST_OUTS.2 C_MOST_OUTS.1)))
      (pss_cons (ps_set (i := 4) sc_p_Chain_walk_for_e.nd rfl (.inl rfl) (pv 1))
      (pss_cons (ps_while PassesOwn.never (PW.pt (pw_and (pt_truth (pe_fc TC.cl (TC.no "row" (by decide +kernel)) (pv 0)) (by intro _; rfl)) (pw_and1 (pt_val pe_nvr)))) pss_never)
      (pss_cons (ps_fc TC.cl (TC.no "now" (by decide +kernel)) (pv 0) (pe_fn F_p_plus (hr.mono (by decide)) (pa_cons (pe_fc TC.cl (TC.no "now" (by decide +kernel)) (pv 0)) (pa_cons (pv 4) pa_nil))))
      (pss_one (ps_ret (pv 2)))))))), ?_⟩
    refine ⟨Nat.zero_le _, fun o no => ?_⟩
    have u0 := same_upd (T := T) (o := .lst []) no
    have h1 := h.sm u0
    have e1 : upd H o (.lst []) o = some (.lst []) := upd_same
    have no1 := h.new no
    refine ⟨_, rfl, c, _, _, _, rfl, h1.ins, fl_pr, A.pr, _, rfl, .inl (SqL.of h1.pr), _, _, rfl, rfl, ?_⟩
    refine ⟨_, rfl, ?_⟩
    dsimp only [gName, List.set]
    have hh1 := same_tup u0 hh
    generalize upd H o (.lst []) = H1 at *
    refine ⟨fun m σ' H' => H' = H1 ∧ σ' = [some (.ref c), some (.ref hp), some (.ref o), some (.int ((s.poured.map V.int).length + 60)), some (.ref hp), none], ⟨0, rfl, rfl⟩, ?_⟩
    rintro m σ' H' ⟨rfl, rfl⟩
    refine ⟨_, rfl, c, _, _, _, rfl, h1.ins, fl_rw, _, .inl ⟨_, SqL.of h1.rw, rfl⟩, ?_⟩
    rw [hr0]
    refine iteF (iteF ?_)
    refine ⟨_, rfl, c, _, _, _, rfl, h1.ins, fl_nw, _, rfl, A.nw, hp, _, _, rfl, h1.nw, hh1, bb, ⟨am_pos _, am_pos _⟩, fun p4 H4 s4 n4 e4 => ?_⟩
    rw [plus_am] at e4
    have h4 := h1.sm s4
    refine ⟨_, rfl, c, _, _, rfl, h4.ins, by show 11 < 1000; decide, ?_⟩
    rw [pf_nw]
    have h5 := h4.re_nw (SqT.of e4)
    have z5 : Sx T [c] H4 (upd H4 c (.ins CC A.dx (flds s.fire { A with nw := p4 }))) := sx_upd h4.ins rfl List.mem_cons_self
    exact ⟨_, rfl, q o _ _ ((u0.sx.sm' s4).step z5) h5 rfl no1 no (z5.lst (s4.k e1) fun z => no1 (by rw [List.mem_singleton.mp z]; exact List.mem_cons_self))⟩

/-! ### deeds of a yard, on a ground of their own -/
/-- what a deed comes to: refused by the word W, or the ground S and the answer -/
def ActF (K : PySem.W.Frag) (T : Tb) (CP CC CG : Addr) (H : Hp) (g : Addr) (A : GdA) (W : Option Str) (S : GdS) (ans : V) (Q : VK) (E : XK) : Prop :=
  (W = none → ∀ H' A', Sx T (ownB g A) H H' → (∀ x ∈ ownG g A', x ∈ ownG g A ∨ H x = none) → GdAt K CC CG H' g A' S → Q ans H') ∧ (∀ wd, W = some wd → ∀ cls d H', Sx T (ownB g A) H H' → Rf K CP wd cls d H' → E cls d H')
def layW (s : GdS) (W : List Am) : Option Str := if wayB W = true then (if s.laid.length < 4 then none else some "full") else some "bad way"
def layS (s : GdS) (W : List Am) : GdS := { s with laid := s.laid ++ [{ newS (labourM W) W with now := s.now }] }
def sp_p_lay (K : PySem.W.Frag) (T : Tb) (CP CC CG : Addr) : Sp := fun vs H Q E => ∃ (g : Addr) (A : GdA) (s : GdS) (t : Addr) (us : List V) (W : List Am), vs = [.ref g, .ref t] ∧ GdAt K CC CG H g A s ∧ SqT K H t us ∧ DpAll K H us (W.map amD) ∧ W.length ≤ 1000 ∧ s.laid.length ≤ 100 ∧ Bd 4000 (am s.now) ∧ Ok T H ∧
  ActF K T CP CC CG H g A (layW s W) (layS s W) (.int s.laid.length) Q E
theorem ok_p_lay {f : Addr} {fd : FuncData} {u_MOST_CHAINS : Value} (F : Fun K "lay" "lay" s_p_lay f fd) (B : Bn mg) (C_MOST_CHAINS : RelV (.int 4) u_MOST_CHAINS ∧ mg "MOST_CHAINS" = some u_MOST_CHAINS) {CP : Addr} (R_Full : Err P w K mg base CP "Full" "full") {CC : Addr} {CG : Addr} (TC : Kl K CC) (TG : KlG K CG) (M_init_t : Mnx P w K mg base CC 6 "Chain" ["self", "way"] (sp_p_Chain___init___t K T CP CC)) (M_walk_for_e : Mt P w K mg base CC 4 "walk_for" ["self", "hours"] (sp_p_Chain_walk_for_e K T CC)) : FnOk P w K mg base (L2.CX P w) 8 f fd ["ground", "way"] (sp_p_lay K T CP CC CG) := by
  obtain ⟨⟨tM, rfl⟩, gM⟩ := id C_MOST_CHAINS
  refine F.okX sc_p_lay (fun vs H Q E h => ?_) (fun cdv A outer s H vs Q E hr h => ?_)
  · obtain ⟨g, A, s, t, us, W, rfl, _⟩ := h
    rfl
  · obtain ⟨g, A, s, t, us, W, rfl, h, ht, hd, hw, hl, bn, hok, k1, k2⟩ := h
    refine ⟨_, (pss_cons (ps_set (i := 2) sc_p_lay.nd rfl (.inl rfl) (pe_mnx M_init_t (hr.mono (by decide)) (takes_of rfl rfl rfl rfl) (pa_cons (pv 1) pa_nil)))
      (pss_cons (ps_if (pt_cmpR op_ge (pe_callB call_len_seq (by rfl) B.len_ (by decide +kernel) (pa_cons (pe_fc TG.cl (TG.no "laid" (by decide +kernel)) (pv 0)) pa_nil)) (pe_glob (by rfl) C_MOST_CHAINS.2 C_MOST_CHAINS.1) (nomark _)) (pss_one (ps_raise rfl (takes_of rfl rfl rfl rfl) (pmk_err R_Full (hr.mono (by decide)) (by rfl)))) pss_nil)
      (pss_cons (ps_expr (pe_mt M_walk_for_e TC.cl (hr.mono (by decide)) (pv 2) (pa_cons (pe_fc TG.cl (TG.no "now" (by decide +kernel)) (pv 0)) pa_nil)))
      (pss_cons (ps_expr (pe_bm PySem.F.plainAttrs_list PySem.F.slot_list_append PySem.F.type_list_append mt_append (pe_fc TG.cl (TG.no "laid" (by decide +kernel)) (pv 0)) (pa_cons (pv 2) pa_nil)))
      (pss_one (ps_ret (pe_op op_sub (pe_callB call_len_seq (by rfl) B.len_ (by decide +kernel) (pa_cons (pe_fc TG.cl (TG.no "laid" (by decide +kernel)) (pv 0)) pa_nil)) pe_int))))))), ?_⟩
    refine ⟨_, rfl, fun c dx nc ndx nex => ?_⟩
    refine ⟨H, c, dx, t, us, W, rfl, rfl, nc, ndx, nex, ht, hd, hw, hok, fun hW H1 B s1 hc fr => ⟨rfl, ?_⟩, fun hW cls d H' s' rf => k2 "bad way" (by unfold layW; rw [hW]; rfl) cls d H' s'.sx rf⟩
    have h1 := h.sm s1
    have nw : ∀ x ∈ ownC c B, x ∉ ownG g A := fun x hx => h.new (fr x hx)
    refine ⟨_, rfl, g, _, _, _, rfl, h1.ins, fg_la, A.la, _, rfl, .inl (SqL.of h1.la), _, _, rfl, rfl, _, rfl, ?_⟩
    rw [List.length_map, h1.ch.len]
    by_cases hf : s.laid.length < 4
    · rw [decide_eq_false (show ¬ ((s.laid.length : Int) ≥ 4) by omega)]
      refine iteF ?_
      dsimp only [gName, List.set]
      refine ⟨_, rfl, c, _, _, rfl, hc.ins, fl_no (by decide +kernel), _, rfl, g, _, _, _, rfl, h1.ins, fg_nw, c, B, _, A.nw, s.now, rfl, hc, h1.nw, rfl, ⟨by show Bd 4000 (am 0); rw [am_zero]; exact bd_int (small (by decide)), bn⟩, Nat.zero_le _, fun p H2 B2 x2 hc2 eo np fp ep => ?_⟩
      have h2 := h1.sx x2 fun x hx z => nw c (by simp [ownC]) (by rw [← List.mem_singleton.mp z]; exact hx)
      have fr2 : ∀ x ∈ ownC c B2, H x = none := fun x hx => fr x (by rw [← eo]; exact hx)
      have nw2 : ∀ x ∈ ownC c B2, x ∉ ownG g A := fun x hx => h.new (fr2 x hx)
      refine ⟨_, rfl, g, _, _, _, rfl, h2.ins, fg_la, .inl ⟨rfl, _, SqL.of h2.la⟩, _, rfl, A.la, _, _, rfl, rfl, h2.la, szl (by rw [List.length_map, h2.ch.len]; omega), ?_⟩
      have h3 := h2.push hc2 nw2
      have e3 : (A.cs.map fun p => V.ref p.1) ++ [V.ref c] = (A.cs ++ [(c, B2)]).map fun p => V.ref p.1 := by rw [List.map_append]; rfl
      rw [e3]
      have x3 : Sx T (ownB g A) H2 (upd H2 A.la (.lst ((A.cs ++ [(c, B2)]).map fun p => V.ref p.1))) := sx_upd h2.la rfl (by simp [ownB])
      have x13 : Sx T (ownB g A) H (upd H2 A.la (.lst ((A.cs ++ [(c, B2)]).map fun p => V.ref p.1))) :=
        (s1.sx.trans x2 fun y hy => .inr (by rw [List.mem_singleton.mp hy]; exact nc)).step x3
      refine ⟨_, rfl, g, _, _, _, rfl, h3.ins, fg_la, A.la, _, rfl, .inl (SqL.of h3.la), _, _, rfl, rfl, ?_⟩
      rw [List.length_map, List.length_append, h2.ch.len]
      have e4 : ((s.laid.length + [(c, B2)].length : Nat) : Int) - 1 = (s.laid.length : Int) := by show ((s.laid.length + 1 : Nat) : Int) - 1 = _; omega
      show Q (.int (((s.laid.length + [(c, B2)].length : Nat) : Int) - 1)) _
      rw [e4]
      refine k1 (by unfold layW; rw [if_pos hW, if_pos hf]) _ { A with cs := A.cs ++ [(c, B2)] } x13 (fun x hx => ?_) ?_
      · rcases List.mem_append.mp hx with z | z
        · exact .inl (List.mem_append_left _ z)
        · obtain ⟨q, hq, hm⟩ := mem_ownCs.mp z
          rcases List.mem_append.mp hq with y | y
          · exact .inl (List.mem_append_right _ (mem_ownCs.mpr ⟨q, y, hm⟩))
          · rw [List.mem_singleton.mp y] at hm
            exact .inr (fr2 x hm)
      · have en : (newS (labourM W) W).now + s.now = s.now := by show (0 : Rat) + s.now = _; rw [Rat.zero_add]
        rw [en] at h3
        exact h3
    · rw [decide_eq_true (show ((s.laid.length : Int) ≥ 4) by omega)]
      exact iteT fun cls dd hn rf => k2 "full" (by unfold layW; rw [if_pos hW, if_neg hf]) cls (some dd) _ ((s1.trans (same_upd hn)).sx) rf
def hireW (s : GdS) (n : Str) (p : Int) : Option Str := if nameB n = true then (if (getL s.tempos n).isSome = true then some "taken" else if paceB p = true then (if s.tempos.length < 30 then none else some "full") else some "bad pace") else some "bad name"
def hireS (s : GdS) (n : Str) (p : Int) : GdS := { s with tempos := putL s.tempos n p }
def sp_p_hire (K : PySem.W.Frag) (T : Tb) (CP CC CG : Addr) : Sp := fun vs H Q E => ∃ (g : Addr) (A : GdA) (s : GdS) (n : Str) (p : Int), vs = [.ref g, .str n, .int p] ∧ GdAt K CC CG H g A s ∧ n.length ≤ sizeLine ∧ s.tempos.length ≤ 1000 ∧ Ok T H ∧
  ActF K T CP CC CG H g A (hireW s n p) (hireS s n p) .non Q E
theorem ok_p_hire {f : Addr} {fd : FuncData} {u_MOST_HIRED : Value} (F : Fun K "hire" "hire" s_p_hire f fd) (B : Bn mg) (C_MOST_HIRED : RelV (.int 30) u_MOST_HIRED ∧ mg "MOST_HIRED" = some u_MOST_HIRED) {CP : Addr} (R_Taken : Err P w K mg base CP "Taken" "taken") (R_Full : Err P w K mg base CP "Full" "full") {CC : Addr} {CG : Addr} (TG : KlG K CG) (F_p_check_pace : Fx P w K mg base 4 "check_pace" ["pace"] (sp_p_check_pace K T CP)) (F_p_check_name : Fx P w K mg base 4 "check_name" ["name"] (sp_p_check_name K T CP)) : FnOk P w K mg base (L2.CX P w) 5 f fd ["ground", "name", "pace"] (sp_p_hire K T CP CC CG) := by
  obtain ⟨⟨tM, rfl⟩, gM⟩ := id C_MOST_HIRED
  refine F.okX sc_p_hire (fun vs H Q E h => ?_) (fun cdv A outer s H vs Q E hr h => ?_)
  · obtain ⟨g, A, s, n, p, rfl, _⟩ := h
    rfl
  · obtain ⟨g, A, s, n, p, rfl, h, hn, hl, hok, k1, k2⟩ := h
    refine ⟨_, (pss_cons (ps_expr (pe_fx F_p_check_name (hr.mono (by decide)) (takes_of rfl rfl rfl rfl) (pa_cons (pv 1) pa_nil)))
      (pss_cons (ps_if (pt_cmp (pc_din (hu_of hr) (pv 1) (pe_fc TG.cl (TG.no "tempos" (by decide +kernel)) (pv 0)))) (pss_one (ps_raise rfl (takes_of rfl rfl rfl rfl) (pmk_err R_Taken (hr.mono (by decide)) (by rfl)))) pss_nil)
      (pss_cons (ps_expr (pe_fx F_p_check_pace (hr.mono (by decide)) (takes_of rfl rfl rfl rfl) (pa_cons (pv 2) pa_nil)))
      (pss_cons (ps_if (pt_cmpR op_ge (pe_callB call_lenD (by rfl) B.len_ (by decide +kernel) (pa_cons (pe_fc TG.cl (TG.no "tempos" (by decide +kernel)) (pv 0)) pa_nil)) (pe_glob (by rfl) C_MOST_HIRED.2 C_MOST_HIRED.1) (nomark _)) (pss_one (ps_raise rfl (takes_of rfl rfl rfl rfl) (pmk_err R_Full (hr.mono (by decide)) (by rfl)))) pss_nil)
      (pss_one (ps_dput (hu_of hr) (pe_fc TG.cl (TG.no "tempos" (by decide +kernel)) (pv 0)) (pv 1) (pv 2) rfl)))))), ?_⟩
    refine ⟨_, rfl, n, rfl, hn, hok, fun nb H1 s1 => ?_, fun nb cls d H' s' rf => k2 "bad name" (by unfold hireW; rw [nb]; rfl) cls d H' s'.sx rf⟩
    have h1 := h.sm s1
    refine ⟨_, rfl, _, rfl, g, _, _, _, rfl, h1.ins, fg_tm, A.tm, _, rfl, DGet.k (k := Sum.inr n) h1.tm, _, rfl, ?_⟩
    rw [tm_in]
    cases e : (getL s.tempos n).isSome with
    | true => exact iteT fun cls dd hn rf => k2 "taken" (by unfold hireW; rw [if_pos nb, if_pos e]) cls (some dd) _ ((s1.trans (same_upd hn)).sx) rf
    | false =>
      have e' : ¬ (getL s.tempos n).isSome = true := by rw [e]; decide
      refine iteF ⟨_, rfl, p, rfl, fun hp => ?_, fun hp cls d H' s' rf => k2 "bad pace" (by unfold hireW; rw [if_pos nb, if_neg e', hp]; rfl) cls d H' ((s1.trans s').sx) rf⟩
      refine ⟨_, rfl, g, _, _, _, rfl, h1.ins, fg_tm, A.tm, _, rfl, h1.tm, _, _, rfl, rfl, _, rfl, ?_⟩
      have el : (tmV s.tempos).length = s.tempos.length := List.length_map ..
      rw [el]
      by_cases hf : s.tempos.length < 30
      · rw [decide_eq_false (show ¬ ((s.tempos.length : Int) ≥ 30) by omega)]
        refine iteF ⟨_, rfl, _, rfl, g, _, _, _, rfl, h1.ins, fg_tm, _, rfl, A.tm, _, rfl, DPut.k (k := Sum.inr n) h1.tm (by rw [el]; exact szl (by omega)), ?_⟩
        rw [put_tm]
        exact k1 (by unfold hireW; rw [if_pos nb, if_neg e', if_pos hp, if_pos hf]) _ A (s1.sx.step (sx_upd h1.tm rfl (by simp [ownB]))) (fun x hx => .inl hx) (h1.set_tm _)
      · rw [decide_eq_true (show ((s.tempos.length : Int) ≥ 30) by omega)]
        exact iteT fun cls dd hn rf => k2 "full" (by unfold hireW; rw [if_pos nb, if_neg e', if_pos hp, if_neg hf]) cls (some dd) _ ((s1.trans (same_upd hn)).sx) rf
def dismissS (s : GdS) (n : Str) : GdS := { s with tempos := dropL s.tempos n }
theorem idleW_none {s : GdS} {n : Str} (h : idleW s n = none) : (∃ p, getL s.tempos n = some p) ∧ getL s.posts n = none := by
  unfold idleW at h
  split at h
  · rename_i c
    split at h
    · cases h
    · rename_i d
      refine ⟨Option.isSome_iff_exists.mp c, ?_⟩
      cases e : getL s.posts n with
      | none => rfl
      | some k => rw [e] at d; exact absurd rfl d
  · cases h
def sp_p_dismiss (K : PySem.W.Frag) (T : Tb) (CP CC CG : Addr) : Sp := fun vs H Q E => ∃ (g : Addr) (A : GdA) (s : GdS) (n : Str), vs = [.ref g, .str n] ∧ GdAt K CC CG H g A s ∧
  ActF K T CP CC CG H g A (idleW s n) (dismissS s n) .non Q E
theorem ok_p_dismiss {f : Addr} {fd : FuncData} (F : Fun K "dismiss" "dismiss" s_p_dismiss f fd) {CP : Addr} {CC : Addr} {CG : Addr} (TG : KlG K CG) (MG_check_idle : Mx P w K mg base CG 5 "check_idle" ["self", "name"] (sp_p_Ground_check_idle K T CP CC CG)) : FnOk P w K mg base (L2.CX P w) 6 f fd ["ground", "name"] (sp_p_dismiss K T CP CC CG) := by
  refine F.okX sc_p_dismiss (fun vs H Q E h => ?_) (fun cdv A outer s H vs Q E hr h => ?_)
  · obtain ⟨g, A, s, n, rfl, _⟩ := h
    rfl
  · obtain ⟨g, A, s, n, rfl, h, k1, k2⟩ := h
    refine ⟨_, (pss_cons (ps_expr (pe_mx MG_check_idle TG.cl (hr.mono (by decide)) (takes_of rfl rfl rfl rfl) (pv 0) (pa_cons (pv 1) pa_nil)))
      (pss_one (ps_expr (pe_dpop1 (pe_fc TG.cl (TG.no "tempos" (by decide +kernel)) (pv 0)) (pv 1) ⟨rfl, rfl, rfl, rfl⟩)))), ?_⟩
    refine ⟨_, rfl, g, _, _, rfl, h.ins, fg_no (by decide +kernel), _, rfl, g, A, s, n, rfl, h, fun z => ?_, fun wd z cls d H' s' rf => k2 wd z cls d H' s'.sx rf⟩
    obtain ⟨⟨p, hp⟩, _⟩ := idleW_none z
    refine ⟨_, rfl, g, _, _, _, rfl, h.ins, fg_tm, A.tm, rfl, .inl ⟨_, .inl h.tm⟩, _, rfl, _, Sum.inr n, .int p, h.tm, rfl, by rw [val_tm, hp]; rfl, ?_⟩
    rw [drop_tm]
    exact k1 z _ A (sx_upd h.tm rfl (by simp [ownB])) (fun x hx => .inl hx) (h.set_tm _)
def chI (s : GdS) (k : Int) : Ch := s.laid.getD k.toNat (newS 1 [])
def sendW (s : GdS) (n : Str) (k : Int) : Option Str := match idleW s n with
  | some wd => some wd
  | none => match chainW s k with
    | some wd => some wd
    | none => enterW (chI s k) n ((getL s.tempos n).getD 1)
def sendS (s : GdS) (n : Str) (k : Int) : GdS := { s with posts := putL s.posts n k, laid := s.laid.set k.toNat (enterS (chI s k) n ((getL s.tempos n).getD 1)) }
theorem chainW_none {s : GdS} {k : Int} (h : chainW s k = none) : ∃ i : Nat, k = (i : Int) ∧ s.laid[i]? = some (chI s k) := by
  unfold chainW at h
  split at h
  · rename_i c
    refine ⟨k.toNat, by omega, ?_⟩
    unfold chI
    rw [List.getD_eq_getElem?_getD, List.getElem?_eq_getElem (show k.toNat < s.laid.length by omega)]
    rfl
  · cases h
theorem set_own {A : GdA} {g p : Addr} {B : Ad} {i : Nat} {x : Addr} (hx : x ∈ ownG g { A with cs := A.cs.set i (p, B) }) : x ∈ ownG g A ∨ x ∈ ownC p B := by
  rcases List.mem_append.mp hx with z | z
  · exact .inl (List.mem_append_left _ z)
  · exact (own_set z).imp (fun w => List.mem_append_right _ w) id
def sp_p_send (K : PySem.W.Frag) (T : Tb) (CP CC CG : Addr) : Sp := fun vs H Q E => ∃ (g : Addr) (A : GdA) (s : GdS) (n : Str) (k : Int), vs = [.ref g, .str n, .int k] ∧ GdAt K CC CG H g A s ∧ n.length ≤ sizeLine ∧ FitG s ∧ Ok T H ∧
  ActF K T CP CC CG H g A (sendW s n k) (sendS s n k) (.int (chI s k).marks.length) Q E
theorem ok_p_send {f : Addr} {fd : FuncData} (F : Fun K "send" "send" s_p_send f fd) {CP : Addr} {CC : Addr} {CG : Addr} (TC : Kl K CC) (TG : KlG K CG) (M_enter : Mx P w K mg base CC 5 "enter" ["self", "name", "pace"] (sp_p_Chain_enter K T CP CC)) (MG_check_idle : Mx P w K mg base CG 5 "check_idle" ["self", "name"] (sp_p_Ground_check_idle K T CP CC CG)) (MG_check_chain : Mx P w K mg base CG 4 "check_chain" ["self", "number"] (sp_p_Ground_check_chain K T CP CC CG)) (MG_lead : Mt P w K mg base CG 9 "lead" ["self", "number"] (sp_p_Ground_lead K T CC CG)) : FnOk P w K mg base (L2.CX P w) 10 f fd ["ground", "name", "number"] (sp_p_send K T CP CC CG) := by
  refine F.okX sc_p_send (fun vs H Q E h => ?_) (fun cdv A outer s H vs Q E hr h => ?_)
  · obtain ⟨g, A, s, n, k, rfl, _⟩ := h
    rfl
  · obtain ⟨g, A, s, n, k, rfl, h, hn, ft, hok, k1, k2⟩ := h
    refine ⟨_, (pss_cons (ps_expr (pe_mx MG_check_idle TG.cl (hr.mono (by decide)) (takes_of rfl rfl rfl rfl) (pv 0) (pa_cons (pv 1) pa_nil)))
      (pss_cons (ps_expr (pe_mx MG_check_chain TG.cl (hr.mono (by decide)) (takes_of rfl rfl rfl rfl) (pv 0) (pa_cons (pv 2) pa_nil)))
      (pss_cons (ps_set (i := 3) sc_p_send.nd rfl (.inl rfl) (pe_mx M_enter TC.cl (hr.mono (by decide)) (takes_of rfl rfl rfl rfl) (pe_mt MG_lead TG.cl (hr.mono (by decide)) (pv 0) (pa_cons (pv 2) pa_nil)) (pa_cons (pv 1) (pa_cons (pe_dget (hu_of hr) (pe_fc TG.cl (TG.no "tempos" (by decide +kernel)) (pv 0)) (pv 1) (fun _ _ => rfl)) pa_nil))))
      (pss_cons (ps_dput (hu_of hr) (pe_fc TG.cl (TG.no "posts" (by decide +kernel)) (pv 0)) (pv 1) (pv 2) rfl)
      (pss_one (ps_ret (pv 3))))))), ?_⟩
    refine ⟨_, rfl, g, _, _, rfl, h.ins, fg_no (by decide +kernel), _, rfl, g, A, s, n, rfl, h, fun z => ?_, fun wd z cls d H' s' rf => k2 wd (by unfold sendW; rw [z]) cls d H' s'.sx rf⟩
    refine ⟨_, rfl, g, _, _, rfl, h.ins, fg_no (by decide +kernel), _, rfl, g, A, s, k, rfl, h, fun y => ?_, fun wd y cls d H' s' rf => k2 wd (by unfold sendW; rw [z]; show (match chainW s k with | some wd => some wd | none => _) = _; rw [y]) cls d H' s'.sx rf⟩
    obtain ⟨⟨p, hp⟩, hq⟩ := idleW_none z
    obtain ⟨i, rfl, hi⟩ := chainW_none y
    have fc := ft.ch _ (List.mem_of_getElem? hi)
    have eW : sendW s n i = enterW (chI s i) n p := by
      unfold sendW
      rw [z]
      show (match chainW s i with | some wd => some wd | none => enterW (chI s i) n ((getL s.tempos n).getD 1)) = _
      rw [y, hp]
      rfl
    have il := (List.getElem?_eq_some_iff.mp hi).1
    refine ⟨_, rfl, g, _, _, rfl, h.ins, fg_no (by decide +kernel), _, rfl, g, A, s, i, _, rfl, h, hi, fc, hok, fun c B H1 x1 h1 fr hc => ?_⟩
    have gt : DGet H1 A.tm (.str n) (some (.int p)) := by
      have ev : valV (tmV s.tempos) (Sum.inr n) = some (.int p) := by rw [val_tm, hp]; rfl
      rw [← ev]
      exact DGet.k (k := Sum.inr n) h1.tm
    refine ⟨c, _, _, rfl, hc.ins, fl_no (by decide +kernel), _, rfl, _, rfl, g, _, _, _, rfl, h1.ins, fg_tm, _, rfl, A.tm, .int p, rfl, gt, ?_⟩
    refine ⟨c, B, _, n, p, rfl, hc, hn, x1.ok hok, ⟨by have := fc.ml; omega, by have := fc.sd.ll; have := fc.sd.n8; omega, by have := fc.sd.ls; have := fc.sd.n8; omega, by have := fc.sd.n8; omega, fc.tl, fc.gl⟩, fun eN H2 x2 hc2 => ?_, fun wd eN cls d H' s' rf => k2 wd (by rw [eW]; exact eN) cls d H' (x1.sm' s') rf⟩
    have hil : i < A.cs.length := by rw [h.ch.len]; exact il
    have e0 : (A.cs.set i (c, B))[i]? = some (c, B) := by rw [List.getElem?_set]; simp [hil]
    have h2 := h1.chain (i := i) e0 x2 hc2 fun x hx => .inl hx
    have x12 : Sx T (ownB g A) H H2 := x1.trans x2 fun x hx => .inr (fr x hx)
    refine ⟨_, rfl, _, rfl, g, _, _, _, rfl, h2.ins, fg_po, _, rfl, A.po, _, rfl, DPut.k (k := Sum.inr n) h2.po (by show (s.posts.map _).length < _; rw [List.length_map]; have := ft.pl; exact szl (by omega)), ?_⟩
    rw [put_tm]
    have h3 := h2.set_po (putL s.posts n i)
    refine ⟨_, rfl, k1 (by rw [eW]; exact eN) _ _ (x12.step (sx_upd h2.po rfl (by simp [ownB]))) (fun x hx => ?_) (by
      unfold sendS
      rw [hp]
      exact h3)⟩
    rcases set_own hx with w | w
    · exact (set_own w).imp id fun v => fr x v
    · exact .inr (fr x w)

def leadW (s : GdS) (n : Str) : Option Str := if (getL s.tempos n).isSome = true then (if (getL s.posts n).isSome = true then none else some "idle") else some "no hand"
def postK (s : GdS) (n : Str) : Int := (getL s.posts n).getD 0
def inS (s : GdS) (n : Str) (f : Ch → Ch) : GdS := { s with laid := s.laid.set (postK s n).toNat (f (chI s (postK s n))) }
theorem leadW_none {s : GdS} {n : Str} (ft : FitG s) (h : leadW s n = none) : ∃ i : Nat, getL s.posts n = some (i : Int) ∧ postK s n = (i : Int) ∧ s.laid[i]? = some (chI s i) ∧ n ∈ (chI s i).row := by
  unfold leadW at h
  split at h
  · split at h
    · rename_i c
      obtain ⟨k, hk⟩ := Option.isSome_iff_exists.mp c
      obtain ⟨k0, k1⟩ := ft.pk n k hk
      have pr := ft.pr n k hk
      have e : k = (k.toNat : Int) := by omega
      refine ⟨k.toNat, by rw [hk, ← e], by unfold postK; rw [hk]; exact e, ?_, ?_⟩
      · unfold chI
        rw [List.getD_eq_getElem?_getD, show ((k.toNat : Nat) : Int).toNat = k.toNat from by omega, List.getElem?_eq_getElem (show k.toNat < s.laid.length by omega)]
        rfl
      · unfold chI
        rw [← e]
        exact pr
    · cases h
  · cases h
def sp_p_Ground_lead_of (K : PySem.W.Frag) (T : Tb) (CP CC CG : Addr) : Sp := fun vs H Q E => ∃ (g : Addr) (A : GdA) (s : GdS) (n : Str), vs = [.ref g, .str n] ∧ GdAt K CC CG H g A s ∧ FitG s ∧ Ok T H ∧
  (leadW s n = none → ∀ i c p B H', getL s.posts n = some ((i : Nat) : Int) → s.laid[i]? = some c → Sx T (ownB g A) H H' → GdAt K CC CG H' g { A with cs := A.cs.set i (p, B) } s → (∀ x ∈ ownC p B, H x = none) → ChAt K CC H' p B c → Q (.ref p) H') ∧
  (∀ wd, leadW s n = some wd → ∀ cls d H', Sm T H H' → Rf K CP wd cls d H' → E cls d H')
theorem ok_p_Ground_lead_of {f : Addr} {fd : FuncData} (F : Fun K "lead_of" "Ground.lead_of" s_p_Ground_lead_of f fd) {CP : Addr} (R_Idle : Err P w K mg base CP "Idle" "idle") {CC : Addr} {CG : Addr} (TG : KlG K CG) (MG_check_hand : Mx P w K mg base CG 4 "check_hand" ["self", "name"] (sp_p_Ground_check_hand K T CP CC CG)) (MG_lead : Mt P w K mg base CG 9 "lead" ["self", "number"] (sp_p_Ground_lead K T CC CG)) : FnOk P w K mg base (L2.CX P w) 10 f fd ["self", "name"] (sp_p_Ground_lead_of K T CP CC CG) := by
  refine F.okX sc_p_Ground_lead_of (fun vs H Q E h => ?_) (fun cdv A outer s H vs Q E hr h => ?_)
  · obtain ⟨g, A, s, n, rfl, _⟩ := h
    rfl
  · obtain ⟨g, A, s, n, rfl, h, ft, hok, k1, k2⟩ := h
    refine ⟨_, (pss_cons (ps_expr (pe_mx MG_check_hand TG.cl (hr.mono (by decide)) (takes_of rfl rfl rfl rfl) (pv 0) (pa_cons (pv 1) pa_nil)))
      (pss_cons (ps_if (pt_cmp (pc_dnotin (hu_of hr) (pv 1) (pe_fc TG.cl (TG.no "posts" (by decide +kernel)) (pv 0)))) (pss_one (ps_raise rfl (takes_of rfl rfl rfl rfl) (pmk_err R_Idle (hr.mono (by decide)) (by rfl)))) pss_nil)
      (pss_one (ps_ret (pe_mt MG_lead TG.cl (hr.mono (by decide)) (pv 0) (pa_cons (pe_dget (hu_of hr) (pe_fc TG.cl (TG.no "posts" (by decide +kernel)) (pv 0)) (pv 1) (fun _ _ => rfl)) pa_nil)))))), ?_⟩
    refine ⟨_, rfl, g, _, _, rfl, h.ins, fg_no (by decide +kernel), _, rfl, g, A, s, n, rfl, h, fun z => ?_, fun wd z => k2 wd ?_⟩
    · have e1 : (getL s.tempos n).isSome = true := by
        unfold handW at z
        split at z
        · assumption
        · cases z
      refine ⟨_, rfl, _, rfl, g, _, _, _, rfl, h.ins, fg_po, A.po, _, rfl, DGet.k (k := Sum.inr n) h.po, _, rfl, ?_⟩
      rw [tm_in]
      cases e : (getL s.posts n).isSome with
      | false => exact iteT fun cls dd hn rf => k2 "idle" (by unfold leadW; rw [e1, e]; rfl) cls (some dd) _ (same_upd hn) rf
      | true =>
        have hz : leadW s n = none := by unfold leadW; rw [e1, e]; rfl
        obtain ⟨i, hp, _, hi, _⟩ := leadW_none ft hz
        have gp : DGet H A.po (.str n) (some (.int i)) := by
          have ev : valV (tmV s.posts) (Sum.inr n) = some (.int i) := by rw [val_tm, hp]; rfl
          rw [← ev]
          exact DGet.k (k := Sum.inr n) h.po
        refine iteF ⟨_, rfl, g, _, _, rfl, h.ins, fg_no (by decide +kernel), _, rfl, g, _, _, _, rfl, h.ins, fg_po, _, rfl, A.po, .int i, rfl, gp, ?_⟩
        exact ⟨g, A, s, i, _, rfl, h, hi, ft.ch _ (List.mem_of_getElem? hi), hok, fun p B H' x' h' fr hc => k1 hz i _ p B H' hp hi x' h' fr hc⟩
    · unfold handW at z
      split at z
      · cases z
      · rename_i c
        unfold leadW
        rw [if_neg c]
        exact z
theorem in_done {K : PySem.W.Frag} {T : Tb} {CC CG : Addr} {H H1 H2 : Hp} {g p : Addr} {A : GdA} {B : Ad} {s : GdS} {n : Str} {i : Nat} {f : Ch → Ch} (h : GdAt K CC CG H g A s) (h1 : GdAt K CC CG H1 g { A with cs := A.cs.set i (p, B) } s) (x1 : Sx T (ownB g A) H H1) (fr : ∀ x ∈ ownC p B, H x = none)
    (hp : postK s n = (i : Int)) (hi : s.laid[i]? = some (chI s i)) (x2 : Sx T (ownC p B) H1 H2) (hc2 : ChAt K CC H2 p B (f (chI s i))) :
    Sx T (ownB g A) H H2 ∧ (∃ A', ownB g A' = ownB g A ∧ (∀ x ∈ ownG g A', x ∈ ownG g A ∨ H x = none) ∧ GdAt K CC CG H2 g A' (inS s n f)) := by
  have il := (List.getElem?_eq_some_iff.mp hi).1
  have hil : i < A.cs.length := by rw [h.ch.len]; exact il
  have e0 : (A.cs.set i (p, B))[i]? = some (p, B) := by rw [List.getElem?_set]; simp [hil]
  have h2 := h1.chain (i := i) e0 x2 hc2 fun x hx => .inl hx
  refine ⟨x1.trans x2 fun x hx => .inr (fr x hx), { A with cs := (A.cs.set i (p, B)).set i (p, B) }, rfl, fun x hx => ?_, ?_⟩
  · have hx : x ∈ ownG g { ({ A with cs := A.cs.set i (p, B) } : GdA) with cs := (A.cs.set i (p, B)).set i (p, B) } := hx
    rcases set_own hx with w | w
    · exact (set_own w).imp id fun v => fr x v
    · exact .inr (fr x w)
  · unfold inS
    rw [hp]
    exact h2
def callGW (s : GdS) (n : Str) : Option Str := match leadW s n with
  | some wd => some wd
  | none => callW (chI s (postK s n)) n
def sp_p_call (K : PySem.W.Frag) (T : Tb) (CP CC CG : Addr) : Sp := fun vs H Q E => ∃ (g : Addr) (A : GdA) (s : GdS) (n : Str), vs = [.ref g, .str n] ∧ GdAt K CC CG H g A s ∧ FitG s ∧ Ok T H ∧
  ActF K T CP CC CG H g A (callGW s n) (inS s n fun c => callS c n) .non Q E
theorem ok_p_call {f : Addr} {fd : FuncData} (F : Fun K "call" "call" s_p_call f fd) {CP : Addr} {CC : Addr} {CG : Addr} (TC : Kl K CC) (TG : KlG K CG) (M_call : Mx P w K mg base CC 5 "call" ["self", "name"] (sp_p_Chain_call K T CP CC)) (MG_lead_of : Mx P w K mg base CG 10 "lead_of" ["self", "name"] (sp_p_Ground_lead_of K T CP CC CG)) : FnOk P w K mg base (L2.CX P w) 11 f fd ["ground", "name"] (sp_p_call K T CP CC CG) := by
  refine F.okX sc_p_call (fun vs H Q E h => ?_) (fun cdv A outer s H vs Q E hr h => ?_)
  · obtain ⟨g, A, s, n, rfl, _⟩ := h
    rfl
  · obtain ⟨g, A, s, n, rfl, h, ft, hok, k1, k2⟩ := h
    refine ⟨_, (pss_one (ps_expr (pe_mx M_call TC.cl (hr.mono (by decide)) (takes_of rfl rfl rfl rfl) (pe_mx MG_lead_of TG.cl (hr.mono (by decide)) (takes_of rfl rfl rfl rfl) (pv 0) (pa_cons (pv 1) pa_nil)) (pa_cons (pv 1) pa_nil)))), ?_⟩
    refine ⟨_, rfl, g, _, _, rfl, h.ins, fg_no (by decide +kernel), _, rfl, g, A, s, n, rfl, h, ft, hok, fun z i c p B H1 hp hi x1 h1 fr hc => ?_, fun wd z cls d H' s' rf => k2 wd (by unfold callGW; rw [z]) cls d H' s'.sx rf⟩
    obtain ⟨i', hp', ek, hi', _⟩ := leadW_none ft z
    rw [hp] at hp'
    obtain rfl : i = i' := Int.ofNat.inj (Option.some.inj hp')
    rw [hi] at hi'
    obtain rfl := Option.some.inj hi'
    have eW : callGW s n = callW (chI s i) n := by unfold callGW; rw [z, ek]
    refine ⟨p, _, _, rfl, hc.ins, fl_no (by decide +kernel), _, rfl, p, B, _, n, rfl, hc, (ft.ch _ (List.mem_of_getElem? hi)).lv, fun eN H2 x2 hc2 => ?_, fun wd eN cls d H' s' rf => k2 wd (by rw [eW]; exact eN) cls d H' (x1.sm' s') rf⟩
    obtain ⟨x12, A', eb, fr', h2⟩ := in_done (f := fun c => callS c n) h h1 x1 fr ek hi x2 hc2
    exact k1 (by rw [eW]; exact eN) H2 A' x12 fr' h2
def stayGW (s : GdS) (n : Str) : Option Str := match leadW s n with
  | some wd => some wd
  | none => stayW (chI s (postK s n)) n
def sp_p_stay (K : PySem.W.Frag) (T : Tb) (CP CC CG : Addr) : Sp := fun vs H Q E => ∃ (g : Addr) (A : GdA) (s : GdS) (n : Str), vs = [.ref g, .str n] ∧ GdAt K CC CG H g A s ∧ FitG s ∧ Ok T H ∧
  ActF K T CP CC CG H g A (stayGW s n) (inS s n fun c => stayS c n) .non Q E
theorem ok_p_stay {f : Addr} {fd : FuncData} (F : Fun K "stay" "stay" s_p_stay f fd) {CP : Addr} {CC : Addr} {CG : Addr} (TC : Kl K CC) (TG : KlG K CG) (M_stay : Mx P w K mg base CC 5 "stay" ["self", "name"] (sp_p_Chain_stay K T CP CC)) (MG_lead_of : Mx P w K mg base CG 10 "lead_of" ["self", "name"] (sp_p_Ground_lead_of K T CP CC CG)) : FnOk P w K mg base (L2.CX P w) 11 f fd ["ground", "name"] (sp_p_stay K T CP CC CG) := by
  refine F.okX sc_p_stay (fun vs H Q E h => ?_) (fun cdv A outer s H vs Q E hr h => ?_)
  · obtain ⟨g, A, s, n, rfl, _⟩ := h
    rfl
  · obtain ⟨g, A, s, n, rfl, h, ft, hok, k1, k2⟩ := h
    refine ⟨_, (pss_one (ps_expr (pe_mx M_stay TC.cl (hr.mono (by decide)) (takes_of rfl rfl rfl rfl) (pe_mx MG_lead_of TG.cl (hr.mono (by decide)) (takes_of rfl rfl rfl rfl) (pv 0) (pa_cons (pv 1) pa_nil)) (pa_cons (pv 1) pa_nil)))), ?_⟩
    refine ⟨_, rfl, g, _, _, rfl, h.ins, fg_no (by decide +kernel), _, rfl, g, A, s, n, rfl, h, ft, hok, fun z i c p B H1 hp hi x1 h1 fr hc => ?_, fun wd z cls d H' s' rf => k2 wd (by unfold stayGW; rw [z]) cls d H' s'.sx rf⟩
    obtain ⟨i', hp', ek, hi', _⟩ := leadW_none ft z
    rw [hp] at hp'
    obtain rfl : i = i' := Int.ofNat.inj (Option.some.inj hp')
    rw [hi] at hi'
    obtain rfl := Option.some.inj hi'
    have eW : stayGW s n = stayW (chI s i) n := by unfold stayGW; rw [z, ek]
    refine ⟨p, _, _, rfl, hc.ins, fl_no (by decide +kernel), _, rfl, p, B, _, n, rfl, hc, fun eN H2 x2 hc2 => ?_, fun wd eN cls d H' s' rf => k2 wd (by rw [eW]; exact eN) cls d H' (x1.sm' s') rf⟩
    obtain ⟨x12, A', eb, fr', h2⟩ := in_done (f := fun c => stayS c n) h h1 x1 fr ek hi x2 hc2
    exact k1 (by rw [eW]; exact eN) H2 A' x12 fr' h2
def swapGW (s : GdS) (n : Str) : Option Str := match leadW s n with
  | some wd => some wd
  | none => swapW (chI s (postK s n)) n
def sp_p_swap (K : PySem.W.Frag) (T : Tb) (CP CC CG : Addr) : Sp := fun vs H Q E => ∃ (g : Addr) (A : GdA) (s : GdS) (n : Str), vs = [.ref g, .str n] ∧ GdAt K CC CG H g A s ∧ FitG s ∧ Ok T H ∧
  ActF K T CP CC CG H g A (swapGW s n) (inS s n fun c => swapS c n) .non Q E
theorem ok_p_swap {f : Addr} {fd : FuncData} (F : Fun K "swap" "swap" s_p_swap f fd) {CP : Addr} {CC : Addr} {CG : Addr} (TC : Kl K CC) (TG : KlG K CG) (M_swap : Mx P w K mg base CC 5 "swap" ["self", "name"] (sp_p_Chain_swap K T CP CC)) (MG_lead_of : Mx P w K mg base CG 10 "lead_of" ["self", "name"] (sp_p_Ground_lead_of K T CP CC CG)) : FnOk P w K mg base (L2.CX P w) 11 f fd ["ground", "name"] (sp_p_swap K T CP CC CG) := by
  refine F.okX sc_p_swap (fun vs H Q E h => ?_) (fun cdv A outer s H vs Q E hr h => ?_)
  · obtain ⟨g, A, s, n, rfl, _⟩ := h
    rfl
  · obtain ⟨g, A, s, n, rfl, h, ft, hok, k1, k2⟩ := h
    refine ⟨_, (pss_one (ps_expr (pe_mx M_swap TC.cl (hr.mono (by decide)) (takes_of rfl rfl rfl rfl) (pe_mx MG_lead_of TG.cl (hr.mono (by decide)) (takes_of rfl rfl rfl rfl) (pv 0) (pa_cons (pv 1) pa_nil)) (pa_cons (pv 1) pa_nil)))), ?_⟩
    refine ⟨_, rfl, g, _, _, rfl, h.ins, fg_no (by decide +kernel), _, rfl, g, A, s, n, rfl, h, ft, hok, fun z i c p B H1 hp hi x1 h1 fr hc => ?_, fun wd z cls d H' s' rf => k2 wd (by unfold swapGW; rw [z]) cls d H' s'.sx rf⟩
    obtain ⟨i', hp', ek, hi', _⟩ := leadW_none ft z
    rw [hp] at hp'
    obtain rfl : i = i' := Int.ofNat.inj (Option.some.inj hp')
    rw [hi] at hi'
    obtain rfl := Option.some.inj hi'
    have fc := ft.ch _ (List.mem_of_getElem? hi)
    have eW : swapGW s n = swapW (chI s i) n := by unfold swapGW; rw [z, ek]
    refine ⟨p, _, _, rfl, hc.ins, fl_no (by decide +kernel), _, rfl, p, B, _, n, rfl, hc, fc.sd, fc.mm, fun eN H2 x2 hc2 => ?_, fun wd eN cls d H' s' rf => k2 wd (by rw [eW]; exact eN) cls d H' (x1.sm' s') rf⟩
    obtain ⟨x12, A', eb, fr', h2⟩ := in_done (f := fun c => swapS c n) h h1 x1 fr ek hi x2 hc2
    exact k1 (by rw [eW]; exact eN) H2 A' x12 fr' h2
def paceGW (s : GdS) (n : Str) (p : Int) : Option Str := if (getL s.tempos n).isSome = true then (if paceB p = true then none else some "bad pace") else some "no hand"
def paceGS (s : GdS) (n : Str) (p : Int) : GdS := { (if (getL s.posts n).isSome = true then inS s n (fun c => paceS c n p) else s) with tempos := putL s.tempos n p }
def sp_p_set_pace (K : PySem.W.Frag) (T : Tb) (CP CC CG : Addr) : Sp := fun vs H Q E => ∃ (g : Addr) (A : GdA) (s : GdS) (n : Str) (p : Int), vs = [.ref g, .str n, .int p] ∧ GdAt K CC CG H g A s ∧ FitG s ∧ Ok T H ∧
  ActF K T CP CC CG H g A (paceGW s n p) (paceGS s n p) .non Q E
theorem ok_p_set_pace {f : Addr} {fd : FuncData} (F : Fun K "set_pace" "set_pace" s_p_set_pace f fd) {CP : Addr} {CC : Addr} {CG : Addr} (TC : Kl K CC) (TG : KlG K CG) (F_p_check_pace : Fx P w K mg base 4 "check_pace" ["pace"] (sp_p_check_pace K T CP)) (M_set_pace : Mx P w K mg base CC 5 "set_pace" ["self", "name", "pace"] (sp_p_Chain_set_pace K T CP CC)) (MG_check_hand : Mx P w K mg base CG 4 "check_hand" ["self", "name"] (sp_p_Ground_check_hand K T CP CC CG)) (MG_lead_of : Mx P w K mg base CG 10 "lead_of" ["self", "name"] (sp_p_Ground_lead_of K T CP CC CG)) : FnOk P w K mg base (L2.CX P w) 11 f fd ["ground", "name", "pace"] (sp_p_set_pace K T CP CC CG) := by
  refine F.okX sc_p_set_pace (fun vs H Q E h => ?_) (fun cdv A outer s H vs Q E hr h => ?_)
  · obtain ⟨g, A, s, n, p, rfl, _⟩ := h
    rfl
  · obtain ⟨g, A, s, n, pc, rfl, h, ft, hok, k1, k2⟩ := h
    refine ⟨_, (pss_cons (ps_expr (pe_mx MG_check_hand TG.cl (hr.mono (by decide)) (takes_of rfl rfl rfl rfl) (pv 0) (pa_cons (pv 1) pa_nil)))
      (pss_cons (ps_expr (pe_fx F_p_check_pace (hr.mono (by decide)) (takes_of rfl rfl rfl rfl) (pa_cons (pv 2) pa_nil)))
      (pss_cons (ps_if (pt_cmp (pc_din (hu_of hr) (pv 1) (pe_fc TG.cl (TG.no "posts" (by decide +kernel)) (pv 0)))) (pss_one (ps_expr (pe_mx M_set_pace TC.cl (hr.mono (by decide)) (takes_of rfl rfl rfl rfl) (pe_mx MG_lead_of TG.cl (hr.mono (by decide)) (takes_of rfl rfl rfl rfl) (pv 0) (pa_cons (pv 1) pa_nil)) (pa_cons (pv 1) (pa_cons (pv 2) pa_nil))))) pss_nil)
      (pss_one (ps_dput (hu_of hr) (pe_fc TG.cl (TG.no "tempos" (by decide +kernel)) (pv 0)) (pv 1) (pv 2) rfl))))), ?_⟩
    refine ⟨_, rfl, g, _, _, rfl, h.ins, fg_no (by decide +kernel), _, rfl, g, A, s, n, rfl, h, fun z => ?_, fun wd z => ?_⟩
    rotate_left
    · intro cls d H' s' rf
      refine k2 wd ?_ cls d H' s'.sx rf
      unfold handW at z
      split at z
      · cases z
      · rename_i c
        unfold paceGW
        rw [if_neg c]
        exact z
    have e1 : (getL s.tempos n).isSome = true := by
      unfold handW at z
      split at z
      · assumption
      · cases z
    refine ⟨_, rfl, pc, rfl, fun hp => ?_, fun hp cls d H' s' rf => k2 "bad pace" (by unfold paceGW; rw [e1, hp]; rfl) cls d H' s'.sx rf⟩
    have eW : paceGW s n pc = none := by unfold paceGW; rw [e1, hp]; rfl
    dsimp only
    refine seq_if (fun σ' H2 => ∃ A', ownB g A' = ownB g A ∧ σ' = [some (.ref g), some (.str n), some (.int pc)] ∧ Sx T (ownB g A) H H2 ∧ (∀ x ∈ ownG g A', x ∈ ownG g A ∨ H x = none) ∧ GdAt K CC CG H2 g A' (if (getL s.posts n).isSome = true then inS s n (fun c => paceS c n pc) else s)) (fun σ' H2 pp => ?_) (fun kk => ?_)
    · obtain ⟨A', eb, rfl, x2, fr2, h2⟩ := pp
      have et : (if (getL s.posts n).isSome = true then inS s n (fun c => paceS c n pc) else s).tempos = s.tempos := by split <;> rfl
      have h2t := h2.tm
      rw [et] at h2t
      refine ⟨_, rfl, _, rfl, g, _, _, _, rfl, h2.ins, fg_tm, _, rfl, A'.tm, _, rfl, DPut.k (k := Sum.inr n) h2t (by show (s.tempos.map _).length < _; rw [List.length_map]; have := ft.tl; exact szl (by omega)), ?_⟩
      rw [put_tm]
      refine k1 eW _ A' (x2.step (sx_upd h2t rfl ?_)) fr2 (h2.set_tm (putL s.tempos n pc))
      rw [← eb]
      simp [ownB]
    · refine ⟨_, rfl, _, rfl, g, _, _, _, rfl, h.ins, fg_po, A.po, _, rfl, DGet.k (k := Sum.inr n) h.po, _, rfl, ?_⟩
      rw [tm_in]
      cases e : (getL s.posts n).isSome with
      | false => exact iteF (kk _ _ ⟨A, rfl, rfl, Sx.refl, fun x hx => .inl hx, by rw [e]; exact h⟩)
      | true =>
        have hz : leadW s n = none := by unfold leadW; rw [e1, e]; rfl
        refine iteT ⟨_, rfl, g, _, _, rfl, h.ins, fg_no (by decide +kernel), _, rfl, g, A, s, n, rfl, h, ft, hok, fun z i c p B H1 hp' hi x1 h1 fr hc => ?_, fun wd z => by rw [hz] at z; cases z⟩
        obtain ⟨i', hp2, ek, hi', hm⟩ := leadW_none ft z
        rw [hp'] at hp2
        obtain rfl : i = i' := Int.ofNat.inj (Option.some.inj hp2)
        rw [hi] at hi'
        obtain rfl := Option.some.inj hi'
        have fc := ft.ch _ (List.mem_of_getElem? hi)
        have eC : paceW (chI s i) n pc = none := by unfold paceW; rw [if_pos hm, if_pos hp]
        refine ⟨p, _, _, rfl, hc.ins, fl_no (by decide +kernel), _, rfl, _, rfl, p, B, _, n, pc, rfl, hc, by have := fc.tl; omega, fun _ H2 x2 hc2 => ?_, fun wd eN => by rw [eC] at eN; cases eN⟩
        obtain ⟨x12, A', eb, fr', h2⟩ := in_done (f := fun c => paceS c n pc) h h1 x1 fr ek hi x2 hc2
        exact kk _ _ ⟨A', eb, rfl, x12, fr', by rw [e]; exact h2⟩

/-! ### yards in the heap -/
inductive Dy where
  | lay (W : List Am)
  | hire (n : Str) (p : Int)
  | dismiss (n : Str)
  | send (n : Str) (k : Int)
  | call (n : Str)
  | stay (n : Str)
  | swap (n : Str)
  | pace (n : Str) (p : Int)
  | go (a b : Int)
  | outs (k c : Int)
def Dy.word : Dy → Str
  | .lay _ => "lay"
  | .hire _ _ => "hire"
  | .dismiss _ => "dismiss"
  | .send _ _ => "send"
  | .call _ => "call"
  | .stay _ => "stay"
  | .swap _ => "swap"
  | .pace _ _ => "pace"
  | .go _ _ => "go"
  | .outs _ _ => "outs"
def Dy.rest : Dy → List PyData
  | .lay W => [.tuple (W.map amD)]
  | .hire n p => [.str n, .int p]
  | .dismiss n => [.str n]
  | .send n k => [.str n, .int k]
  | .call n => [.str n]
  | .stay n => [.str n]
  | .swap n => [.str n]
  | .pace n p => [.str n, .int p]
  | .go a b => [.int a, .int b]
  | .outs k c => [.int k, .int c]
def Dy.data (d : Dy) : PyData := .tuple (.str d.word :: d.rest)
theorem Dy.noL (d : Dy) : My.noL 3 d.data = true := by
  cases d <;> first | rfl | skip
  rename_i W
  show (My.noL 2 (.str "lay") && ((W.map amD).all (My.noL 1) && true)) = true
  rw [Bool.and_true, List.all_map]
  exact List.all_eq_true.mpr fun _ _ => rfl
/-- a deed done: the ground behind it, what the book has of it -/
structure Stp where
  dy : Dy
  gd : GdS
  rows : List PyData
def FLDY : List Str := ["done", "undone"]
structure KlY (K : PySem.W.Frag) (C : Addr) : Prop where
  cl : Cls K C
  no : ∀ f ∈ FLDY, NoAttr K C f
structure YdA where
  dx : Addr
  dn : Addr
  un : Addr
  gd : List (Addr × GdA)
  gu : List (Addr × GdA)
def fldY (B : YdA) : List (Str × V) := [("done", .ref B.dn), ("undone", .ref B.un)]
theorem fy_no {B : YdA} {m : Str} (h : m ∉ FLDY) : (fldY B).lookup m = none := lookup_no h
theorem fy_dn {B : YdA} : (fldY B).lookup ("done" : Str) = some (.ref B.dn) := rfl
theorem fy_un {B : YdA} : (fldY B).lookup ("undone" : Str) = some (.ref B.un) := rfl
def ownS (gs : List (Addr × GdA)) : List Addr := gs.flatMap fun p => ownG p.1 p.2
def ownY (y : Addr) (B : YdA) : List Addr := [y, B.dn, B.un]
def ownA (y : Addr) (B : YdA) : List Addr := ownY y B ++ ownS (B.gd ++ B.gu)
def StepAt (K : PySem.W.Frag) (CC CG : Addr) (H : Hp) (v : V) (x : Stp) (p : Addr × GdA) : Prop := ∃ t a r us, v = .ref t ∧ SqT K H t [.ref a, .ref p.1, .ref r] ∧ Dp K H (.ref a) x.dy.data ∧ GdAt K CC CG H p.1 p.2 x.gd ∧ SqT K H r us ∧ DpAll K H us x.rows ∧ x.rows.all (noL 3) = true
def StL (K : PySem.W.Frag) (CC CG : Addr) (H : Hp) : List V → List Stp → List (Addr × GdA) → Prop
  | [], [], [] => True
  | v :: vs, x :: l, p :: gs => StepAt K CC CG H v x p ∧ StL K CC CG H vs l gs
  | _, _, _ => False
theorem mem_ownS {gs : List (Addr × GdA)} {x : Addr} : x ∈ ownS gs ↔ ∃ p ∈ gs, x ∈ ownG p.1 p.2 := List.mem_flatMap
section
variable {K : PySem.W.Frag} {T : Tb} {CC CG CY : Addr} {H H' : Hp} {S : List Addr}
theorem StepAt.sx {v : V} {x : Stp} {p : Addr × GdA} (h : StepAt K CC CG H v x p) (e : Sx T S H H') (hd : ∀ z ∈ ownG p.1 p.2, z ∉ S) : StepAt K CC CG H' v x p := by
  obtain ⟨t, a, r, us, e1, h1, h2, h3, h4, h5, h6⟩ := h
  exact ⟨t, a, r, us, e1, e.tup h1, e.dp 3 _ _ x.dy.noL h2, h3.sx e hd, e.tup h4, e.dps 3 _ _ h6 h5, h6⟩
theorem StL.sx (e : Sx T S H H') : ∀ {vs : List V} {l : List Stp} {gs : List (Addr × GdA)}, StL K CC CG H vs l gs → (∀ z ∈ ownS gs, z ∉ S) → StL K CC CG H' vs l gs
  | [], [], [], _, _ => trivial
  | v :: vs, x :: l, p :: gs, h, d => ⟨h.1.sx e fun z hz => d z (List.mem_append_left _ hz), StL.sx e h.2 fun z hz => d z (List.mem_append_right _ hz)⟩
  | [], [], _ :: _, h, _ => h.elim
  | [], _ :: _, _, h, _ => h.elim
  | _ :: _, [], _, h, _ => h.elim
  | _ :: _, _ :: _, [], h, _ => h.elim
theorem StL.len : ∀ {vs : List V} {l : List Stp} {gs : List (Addr × GdA)}, StL K CC CG H vs l gs → vs.length = l.length ∧ gs.length = l.length
  | [], [], [], _ => ⟨rfl, rfl⟩
  | v :: vs, x :: l, p :: gs, h => ⟨congrArg (· + 1) (StL.len h.2).1, congrArg (· + 1) (StL.len h.2).2⟩
  | [], [], _ :: _, h => h.elim
  | [], _ :: _, _, h => h.elim
  | _ :: _, [], _, h => h.elim
  | _ :: _, _ :: _, [], h => h.elim
theorem StL.push : ∀ {vs : List V} {l : List Stp} {gs : List (Addr × GdA)}, StL K CC CG H vs l gs → ∀ {v : V} {x : Stp} {p : Addr × GdA}, StepAt K CC CG H v x p → StL K CC CG H (vs ++ [v]) (l ++ [x]) (gs ++ [p])
  | [], [], [], _, _, _, _, g => ⟨g, trivial⟩
  | v :: vs, x :: l, p :: gs, h, _, _, _, g => ⟨h.1, StL.push h.2 g⟩
  | [], [], _ :: _, h, _, _, _, _ => h.elim
  | [], _ :: _, _, h, _, _, _, _ => h.elim
  | _ :: _, [], _, h, _, _, _, _ => h.elim
  | _ :: _, _ :: _, [], h, _, _, _, _ => h.elim
theorem StL.get : ∀ {vs : List V} {l : List Stp} {gs : List (Addr × GdA)}, StL K CC CG H vs l gs → ∀ {i : Nat} {x : Stp}, l[i]? = some x → ∃ v p, vs[i]? = some v ∧ gs[i]? = some p ∧ StepAt K CC CG H v x p
  | [], [], [], _, i, x, e => by simp at e
  | v :: vs, x0 :: l, p :: gs, h, 0, x, e => by
    obtain rfl := Option.some.inj e
    exact ⟨v, p, rfl, rfl, h.1⟩
  | v :: vs, x0 :: l, p :: gs, h, i + 1, x, e => StL.get (vs := vs) (l := l) (gs := gs) h.2 (i := i) e
  | [], [], _ :: _, h, _, _, _ => h.elim
  | [], _ :: _, _, h, _, _, _ => h.elim
  | _ :: _, [], _, h, _, _, _ => h.elim
  | _ :: _, _ :: _, [], h, _, _, _ => h.elim
theorem StL.obj {vs : List V} {l : List Stp} {gs : List (Addr × GdA)} (h : StL K CC CG H vs l gs) {z : Addr} (hz : z ∈ ownS gs) : ∃ o, H z = some o ∧ mutO o = true := by
  obtain ⟨p, hp, hm⟩ := mem_ownS.mp hz
  obtain ⟨i, hi, e⟩ := List.getElem_of_mem hp
  have hl := h.len
  obtain ⟨v, q, e1, e2, t, a, r, us, _, _, _, g, _⟩ := h.get (List.getElem?_eq_getElem (show i < l.length by omega))
  rw [List.getElem?_eq_getElem hi, e] at e2
  cases e2
  exact g.obj hm
/-- a yard: its steps done, those taken back -/
structure YdAt (K : PySem.W.Frag) (CC CG CY : Addr) (H : Hp) (y : Addr) (B : YdA) (dn un : List Stp) : Prop where
  ins : H y = some (.ins CY B.dx (fldY B))
  own : H B.dx = some (.own y)
  dn : ∃ vs, H B.dn = some (.lst vs) ∧ StL K CC CG H vs dn B.gd
  un : ∃ vs, H B.un = some (.lst vs) ∧ StL K CC CG H vs un B.gu
  nd : (ownY y B).Nodup
  dj : ∀ z ∈ ownS (B.gd ++ B.gu), z ∉ ownY y B
variable {y : Addr} {B : YdA} {dn un : List Stp}
theorem ownS_app {a b : List (Addr × GdA)} : ownS (a ++ b) = ownS a ++ ownS b := List.flatMap_append
theorem YdAt.sx (h : YdAt K CC CG CY H y B dn un) (e : Sx T S H H') (hd : ∀ z ∈ ownA y B, z ∉ S) : YdAt K CC CG CY H' y B dn un := by
  have m : ∀ x, x ∈ ownY y B → ∀ o, H x = some o → nTbl o → H' x = some o := fun x hx o ho n => e.keep x o ho n (.inr (hd x (List.mem_append_left _ hx)))
  obtain ⟨vs, d1, d2⟩ := h.dn
  obtain ⟨ws, u1, u2⟩ := h.un
  have hs : ∀ z ∈ ownS (B.gd ++ B.gu), z ∉ S := fun z hz => hd z (List.mem_append_right _ hz)
  rw [ownS_app] at hs
  exact ⟨m _ (by simp [ownY]) _ h.ins trivial, e.keep _ _ h.own trivial (.inl rfl), ⟨vs, m _ (by simp [ownY]) _ d1 trivial, d2.sx e fun z hz => hs z (List.mem_append_left _ hz)⟩, ⟨ws, m _ (by simp [ownY]) _ u1 trivial, u2.sx e fun z hz => hs z (List.mem_append_right _ hz)⟩, h.nd, h.dj⟩
theorem YdAt.sm (h : YdAt K CC CG CY H y B dn un) (e : Sm T H H') : YdAt K CC CG CY H' y B dn un := h.sx (S := []) e.sx fun _ _ => by simp
theorem YdAt.obj (h : YdAt K CC CG CY H y B dn un) {x : Addr} (hx : x ∈ ownA y B) : ∃ o, H x = some o ∧ mutO o = true := by
  obtain ⟨vs, d1, d2⟩ := h.dn
  obtain ⟨ws, u1, u2⟩ := h.un
  rcases List.mem_append.mp hx with z | z
  · simp only [ownY, List.mem_cons, List.not_mem_nil, or_false] at z
    rcases z with rfl | rfl | rfl
    · exact ⟨_, h.ins, rfl⟩
    · exact ⟨_, d1, rfl⟩
    · exact ⟨_, u1, rfl⟩
  · rw [ownS_app] at z
    rcases List.mem_append.mp z with w | w
    · exact d2.obj w
    · exact u2.obj w
theorem YdAt.new (h : YdAt K CC CG CY H y B dn un) {n : Addr} (hn : H n = none) : n ∉ ownA y B := fun hx => by
  obtain ⟨o, ho, _⟩ := h.obj hx
  rw [hn] at ho
  cases ho
end
def gdOf (l : List Stp) : GdS := (l.getLast?.map (·.gd)).getD gd0
def sp_p_Yard___init__ (K : PySem.W.Frag) (T : Tb) (CC CG CY : Addr) : Sp := fun vs H Q _ => ∃ (H0 : Hp) (y dx : Addr), vs = [.ref y] ∧ H = upd (upd H0 dx (.own y)) y (.ins CY dx []) ∧ H0 y = none ∧ H0 dx = none ∧ dx ≠ y ∧
  ∀ H' B, Sm T H0 H' → YdAt K CC CG CY H' y B [] [] → (∀ x ∈ ownA y B, H0 x = none) → B.gd = [] ∧ B.gu = [] → Q .non H'
theorem ok_p_Yard___init__ {f : Addr} {fd : FuncData} (F : Fun K "__init__" "Yard.__init__" s_p_Yard___init__ f fd) {CC : Addr} {CG : Addr} {CY : Addr} (TY : KlY K CY) : FnOk P w K mg base CX0 1 f fd ["self"] (sp_p_Yard___init__ K T CC CG CY) := by
  refine F.ok sc_p_Yard___init__ (fun vs H Q E h => ?_) (fun cdv A outer s H vs Q E hr h => ?_)
  · obtain ⟨H0, y, dx, rfl, _⟩ := h
    rfl
  · obtain ⟨H0, y, dx, rfl, rfl, nc, nd, ncd, q⟩ := h
    refine ⟨_, (pss_cons (ps_fc TY.cl (TY.no "done" (by decide +kernel)) (pv 0) (pe_lst pa_nil))
      (pss_one (ps_fc TY.cl (TY.no "undone" (by decide +kernel)) (pv 0) (pe_lst pa_nil)))), ?_⟩
    have v1 := same_upd (T := T) (o := .own y) nd
    have nc1 : upd H0 dx (.own y) y = none := by rw [upd_ne (Ne.symm ncd)]; exact nc
    have v2 := same_upd (T := T) (o := .ins CY dx []) nc1
    have m0 : Mkg T CY H0 (upd (upd H0 dx (.own y)) y (.ins CY dx [])) y dx [] [] := ⟨v1.trans v2, upd_same, v2.k (b := dx) (o := .own y) upd_same, (fun _ h => nomatch h), by simp⟩
    generalize upd (upd H0 dx (.own y)) y (.ins CY dx []) = H1 at *
    refine ⟨Nat.zero_le _, fun p1 n1 => ?_⟩
    have w1 := m0.sm' (same_upd (T := T) (o := .lst []) n1) (nt1 rfl)
    refine ⟨_, rfl, y, _, _, rfl, w1.ins, by show 0 < 1000; decide, ?_⟩
    have m1 := m0.new nc ncd "done" (o := .lst []) n1 (nt1 rfl)
    generalize upd (upd H1 p1 (.lst [])) y (.ins CY dx (putF "done" (.ref p1) [])) = H2 at *
    refine ⟨Nat.zero_le _, fun p2 n2 => ?_⟩
    have w2 := m1.sm' (same_upd (T := T) (o := .lst []) n2) (nt1 rfl)
    refine ⟨_, rfl, y, _, _, rfl, w2.ins, by show 1 < 1000; decide, ?_⟩
    have m2 := m1.new nc ncd "undone" (o := .lst []) n2 (nt1 rfl)
    generalize upd (upd H2 p2 (.lst [])) y (.ins CY dx (putF "undone" (.ref p2) (putF "done" (.ref p1) []))) = H3 at *
    have at_ := m2.at_
    refine q H3 { dx := dx, dn := p1, un := p2, gd := [], gu := [] } m2.sm ⟨m2.ins, m2.own, ⟨[], (at_ (p1, .lst []) (by simp)).1, trivial⟩, ⟨[], (at_ (p2, .lst []) (by simp)).1, trivial⟩, ?_, fun z hz => (nomatch hz)⟩ (fun x hx => ?_) ⟨rfl, rfl⟩
    · have nd9 := m2.nd
      have e : ([y, p2, p1] : List Addr).Perm [y, p1, p2] := .cons y (List.reverse_perm _).symm
      exact nd_perm nd9 e
    · have hx : x ∈ [y, p1, p2] ++ [] := hx
      rw [List.append_nil] at hx
      simp only [List.mem_cons, List.not_mem_nil, or_false] at hx
      rcases hx with rfl | rfl | rfl
      · exact nc
      · exact (at_ (x, .lst []) (by simp)).2
      · exact (at_ (x, .lst []) (by simp)).2
def sp_p_Yard_ground (K : PySem.W.Frag) (T : Tb) (CC CG CY : Addr) : Sp := fun vs H Q _ => ∃ (y : Addr) (B : YdA) (dn un : List Stp), vs = [.ref y] ∧ YdAt K CC CG CY H y B dn un ∧
  ∀ g A H', Sm T H H' → GdAt K CC CG H' g A (gdOf dn) → (∀ x ∈ ownG g A, x ∈ ownS B.gd ∨ H x = none) → Q (.ref g) H'
theorem ok_p_Yard_ground {f : Addr} {fd : FuncData} (F : Fun K "ground" "Yard.ground" s_p_Yard_ground f fd) {CC : Addr} {CG : Addr} {CY : Addr} (TG : KlG K CG) (TY : KlY K CY) (MG_init : Mn P w K mg base CG 1 "Ground" ["self"] (sp_p_Ground___init__ K T CC CG)) : FnOk P w K mg base CX0 3 f fd ["self"] (sp_p_Yard_ground K T CC CG CY) := by
  refine F.ok sc_p_Yard_ground (fun vs H Q E h => ?_) (fun cdv A outer s H vs Q E hr h => ?_)
  · obtain ⟨y, B, dn, un, rfl, _⟩ := h
    rfl
  · obtain ⟨y, B, dn, un, rfl, h, q⟩ := h
    refine ⟨_, (pss_cons (ps_if (pt_truth (pe_fc TY.cl (TY.no "done" (by decide +kernel)) (pv 0)) (by intro _; rfl)) (pss_one (ps_ret (pe_ix ix_tup (pe_ix ix_list (pe_fc TY.cl (TY.no "done" (by decide +kernel)) (pv 0)) (pe_un un_neg pe_int) (fun _ _ => rfl)) pe_int (fun _ _ => rfl)))) pss_nil)
      (pss_one (ps_ret (pe_mn0 MG_init (hr.mono (by decide)))))), ?_⟩
    obtain ⟨vs, d1, d2⟩ := h.dn
    have ln := d2.len
    refine ⟨_, rfl, y, _, _, _, rfl, h.ins, fy_dn, _, .inl ⟨_, SqL.of d1, rfl⟩, ?_⟩
    cases hd : dn with
    | nil =>
      have e0 : vs = [] := List.length_eq_zero_iff.mp (by rw [ln.1, hd]; rfl)
      rw [e0]
      refine iteF ?_
      refine fun x dx nx ndx nex => ?_
      exact ⟨H, x, dx, rfl, rfl, nx, ndx, nex, fun H1 A s1 hx fr ec => ⟨rfl, q x A H1 s1 (by rw [hd]; exact hx) fun z hz => .inr (fr z hz)⟩⟩
    | cons x0 l0 =>
      have hl : 0 < dn.length := by rw [hd]; exact Nat.succ_pos _
      have hne : vs.isEmpty = false := by
        cases vs with
        | nil => have := ln.1; rw [← this] at hl; exact absurd hl (by decide)
        | cons a b => rfl
      rw [hne]
      obtain ⟨v, p, g1, g2, t, a, r, us, rfl, s1, s2, s3, s4⟩ := d2.get (List.getElem?_eq_getElem (show dn.length - 1 < dn.length by omega))
      refine iteT ?_
      refine ⟨_, rfl, y, _, _, _, rfl, h.ins, fy_dn, _, rfl, B.dn, vs, _, .ref t, rfl, rfl, SqL.of d1, at_neg1 (by omega) (by rw [ln.1]; exact g1), t, _, _, .ref p.1, rfl, rfl, s1, at_of (j := 1) rfl rfl, ?_⟩
      have e : gdOf dn = dn[dn.length - 1].gd := by
        unfold gdOf
        rw [List.getLast?_eq_getElem?, List.getElem?_eq_getElem (by omega)]
        rfl
      refine q p.1 p.2 H Sm.refl (by rw [e]; exact s3) fun z hz => .inl (mem_ownS.mpr ⟨p, List.mem_of_getElem? g2, hz⟩)

/-! ### what a yard does -/
def Dy.small : Dy → Prop
  | .go _ _ => False
  | .outs _ _ => False
  | _ => True
def Dy.W (s : GdS) : Dy → Option Str
  | .lay W => layW s W
  | .hire n p => hireW s n p
  | .dismiss n => idleW s n
  | .send n k => sendW s n k
  | .call n => callGW s n
  | .stay n => stayGW s n
  | .swap n => swapGW s n
  | .pace n p => paceGW s n p
  | .go _ _ => none
  | .outs _ _ => none
def Dy.S (s : GdS) : Dy → GdS
  | .lay W => layS s W
  | .hire n p => hireS s n p
  | .dismiss n => dismissS s n
  | .send n k => sendS s n k
  | .call n => inS s n fun c => callS c n
  | .stay n => inS s n fun c => stayS c n
  | .swap n => inS s n fun c => swapS c n
  | .pace n p => paceGS s n p
  | .go _ _ => s
  | .outs _ _ => s
def Dy.A (s : GdS) : Dy → V
  | .lay _ => .int s.laid.length
  | .send _ k => .int (chI s k).marks.length
  | _ => .non
/-- room for a deed -/
def Dy.fit (s : GdS) : Dy → Prop
  | .lay W => W.length ≤ 1000 ∧ Bd 4000 (am s.now)
  | .hire n _ => n.length ≤ sizeLine
  | .send n _ => n.length ≤ sizeLine
  | _ => True
def Dy.fn : Dy → Str
  | .pace _ _ => "set_pace"
  | d => d.word
def Fam8 (K : PySem.W.Frag) (T : Tb) (CP CC CG : Addr) (mg : Str → Option Value) (f : Addr) (sp : Sp) : Prop :=
  (mg "lay" = some (.ref f) ∧ sp = sp_p_lay K T CP CC CG) ∨ (mg "hire" = some (.ref f) ∧ sp = sp_p_hire K T CP CC CG) ∨ (mg "dismiss" = some (.ref f) ∧ sp = sp_p_dismiss K T CP CC CG) ∨ (mg "send" = some (.ref f) ∧ sp = sp_p_send K T CP CC CG) ∨
  (mg "call" = some (.ref f) ∧ sp = sp_p_call K T CP CC CG) ∨ (mg "stay" = some (.ref f) ∧ sp = sp_p_stay K T CP CC CG) ∨ (mg "swap" = some (.ref f) ∧ sp = sp_p_swap K T CP CC CG) ∨ (mg "set_pace" = some (.ref f) ∧ sp = sp_p_set_pace K T CP CC CG)
theorem held_of {P : Program} {w : World} {K : PySem.W.Frag} {mg : Str → Option Value} {base : Heap} {j k : Nat} {x : Str} {ps : List Str} {sp : Sp} {f : Addr} (F : Fx P w K mg base j x ps sp) (g : mg x = some (.ref f)) (h : j ≤ k) : HeldX P w K mg base k f sp := by
  obtain ⟨f', fd, h1, h2, h3, h4⟩ := F.ex
  rw [g] at h2
  obtain rfl : f = f' := Value.ref.inj (Option.some.inj h2)
  exact ⟨⟨fd, ps, j, h, h1, h3, h4⟩⟩
theorem fam8 {CP CC CG : Addr} {k l1 l2 l3 l4 l5 l6 l7 l8 : Nat} {p1 p2 p3 p4 p5 p6 p7 p8 : List Str} (F1 : Fx P w K mg base l1 "lay" p1 (sp_p_lay K T CP CC CG)) (F2 : Fx P w K mg base l2 "hire" p2 (sp_p_hire K T CP CC CG)) (F3 : Fx P w K mg base l3 "dismiss" p3 (sp_p_dismiss K T CP CC CG)) (F4 : Fx P w K mg base l4 "send" p4 (sp_p_send K T CP CC CG))
    (F5 : Fx P w K mg base l5 "call" p5 (sp_p_call K T CP CC CG)) (F6 : Fx P w K mg base l6 "stay" p6 (sp_p_stay K T CP CC CG)) (F7 : Fx P w K mg base l7 "swap" p7 (sp_p_swap K T CP CC CG)) (F8 : Fx P w K mg base l8 "set_pace" p8 (sp_p_set_pace K T CP CC CG))
    (h1 : l1 ≤ k) (h2 : l2 ≤ k) (h3 : l3 ≤ k) (h4 : l4 ≤ k) (h5 : l5 ≤ k) (h6 : l6 ≤ k) (h7 : l7 ≤ k) (h8 : l8 ≤ k) : ∀ f sp, Fam8 K T CP CC CG mg f sp → HeldX P w K mg base k f sp := by
  rintro f sp (⟨g, rfl⟩ | ⟨g, rfl⟩ | ⟨g, rfl⟩ | ⟨g, rfl⟩ | ⟨g, rfl⟩ | ⟨g, rfl⟩ | ⟨g, rfl⟩ | ⟨g, rfl⟩)
  · exact held_of F1 g h1
  · exact held_of F2 g h2
  · exact held_of F3 g h3
  · exact held_of F4 g h4
  · exact held_of F5 g h5
  · exact held_of F6 g h6
  · exact held_of F7 g h7
  · exact held_of F8 g h8
theorem dy_tab {d : Dy} : (d.word, d.fn) ∈ tab_DEEDS := by
  cases d with
  | lay _ => exact (by decide : (("lay" : Str), ("lay" : Str)) ∈ tab_DEEDS)
  | hire _ _ => exact (by decide : (("hire" : Str), ("hire" : Str)) ∈ tab_DEEDS)
  | dismiss _ => exact (by decide : (("dismiss" : Str), ("dismiss" : Str)) ∈ tab_DEEDS)
  | send _ _ => exact (by decide : (("send" : Str), ("send" : Str)) ∈ tab_DEEDS)
  | call _ => exact (by decide : (("call" : Str), ("call" : Str)) ∈ tab_DEEDS)
  | stay _ => exact (by decide : (("stay" : Str), ("stay" : Str)) ∈ tab_DEEDS)
  | swap _ => exact (by decide : (("swap" : Str), ("swap" : Str)) ∈ tab_DEEDS)
  | pace _ _ => exact (by decide : (("pace" : Str), ("set_pace" : Str)) ∈ tab_DEEDS)
  | go _ _ => exact (by decide : (("go" : Str), ("go" : Str)) ∈ tab_DEEDS)
  | outs _ _ => exact (by decide : (("outs" : Str), ("outs" : Str)) ∈ tab_DEEDS)
theorem dy_go {d : Dy} (h : d.small) : d.word ∉ ([("go" : Str), "outs"] : List Str) := by
  cases d with
  | lay _ => exact (by decide : ("lay" : Str) ∉ ([("go" : Str), "outs"] : List Str))
  | hire _ _ => exact (by decide : ("hire" : Str) ∉ ([("go" : Str), "outs"] : List Str))
  | dismiss _ => exact (by decide : ("dismiss" : Str) ∉ ([("go" : Str), "outs"] : List Str))
  | send _ _ => exact (by decide : ("send" : Str) ∉ ([("go" : Str), "outs"] : List Str))
  | call _ => exact (by decide : ("call" : Str) ∉ ([("go" : Str), "outs"] : List Str))
  | stay _ => exact (by decide : ("stay" : Str) ∉ ([("go" : Str), "outs"] : List Str))
  | swap _ => exact (by decide : ("swap" : Str) ∉ ([("go" : Str), "outs"] : List Str))
  | pace _ _ => exact (by decide : ("pace" : Str) ∉ ([("go" : Str), "outs"] : List Str))
  | go _ _ => exact h.elim
  | outs _ _ => exact h.elim
/-- the deed as it stands: its word and its things -/
theorem dy_at {H : Hp} {a : Addr} {d : Dy} (h : Dp K H (.ref a) d.data) : ∃ rest, SqT K H a (.str d.word :: rest) ∧ DpAll K H rest d.rest ∧ 1 ≤ rest.length ∧ rest.length ≤ 2 := by
  have h : Dp K H (.ref a) (.tuple (.str d.word :: d.rest)) := h
  cases h with
  | tup hs ha =>
    cases ha with
    | cons h1 h2 =>
      cases h1
      refine ⟨_, hs, h2, ?_, ?_⟩
      · rw [dpa_len h2]; cases d <;> first | exact Nat.le_refl 1 | exact Nat.le_succ 1
      · rw [dpa_len h2]; cases d <;> first | exact Nat.le_refl 2 | exact Nat.le_succ 1
theorem dp_str {H : Hp} {v : V} {n : Str} (h : Dp K H v (.str n)) : v = .str n := by cases h; rfl
theorem dp_int {H : Hp} {v : V} {i : Int} (h : Dp K H v (.int i)) : v = .int i := by cases h; rfl
theorem dpa_1 {H : Hp} {vs : List V} {d : PyData} (h : DpAll K H vs [d]) : ∃ v, vs = [v] ∧ Dp K H v d := by
  cases h with
  | cons h1 h2 => cases h2; exact ⟨_, rfl, h1⟩
theorem dpa_2 {H : Hp} {vs : List V} {d e : PyData} (h : DpAll K H vs [d, e]) : ∃ v u, vs = [v, u] ∧ Dp K H v d ∧ Dp K H u e := by
  cases h with
  | cons h1 h2 =>
    obtain ⟨u, rfl, h3⟩ := dpa_1 h2
    exact ⟨_, u, rfl, h1, h3⟩
/-- each deed's def is ready for its things -/
theorem dy_call {CP CC CG : Addr} {H : Hp} {g f : Addr} {A : GdA} {s : GdS} {d : Dy} {rest : List V} {Q : VK} {E : XK} (hs : d.small) (hm : mg d.fn = some (.ref f)) (h : GdAt K CC CG H g A s) (ft : FitG s) (fd : d.fit s) (hok : Ok T H) (hr : DpAll K H rest d.rest)
    (q : ActF K T CP CC CG H g A (d.W s) (d.S s) (d.A s) Q E) : ∃ sp, Fam8 K T CP CC CG mg f sp ∧ sp (.ref g :: rest) H Q E := by
  cases d with
  | lay W =>
    obtain ⟨v, rfl, hv⟩ := dpa_1 hr
    cases hv with
    | tup hs2 ha => exact ⟨_, .inl ⟨hm, rfl⟩, g, A, s, _, _, W, rfl, h, hs2, ha, fd.1, ft.ll, fd.2, hok, q⟩
  | hire n p =>
    obtain ⟨v, u, rfl, hv, hu⟩ := dpa_2 hr
    cases dp_str hv
    cases dp_int hu
    exact ⟨_, .inr (.inl ⟨hm, rfl⟩), g, A, s, n, p, rfl, h, fd, ft.tl, hok, q⟩
  | dismiss n =>
    obtain ⟨v, rfl, hv⟩ := dpa_1 hr
    cases dp_str hv
    exact ⟨_, .inr (.inr (.inl ⟨hm, rfl⟩)), g, A, s, n, rfl, h, q⟩
  | send n k =>
    obtain ⟨v, u, rfl, hv, hu⟩ := dpa_2 hr
    cases dp_str hv
    cases dp_int hu
    exact ⟨_, .inr (.inr (.inr (.inl ⟨hm, rfl⟩))), g, A, s, n, k, rfl, h, fd, ft, hok, q⟩
  | call n =>
    obtain ⟨v, rfl, hv⟩ := dpa_1 hr
    cases dp_str hv
    exact ⟨_, .inr (.inr (.inr (.inr (.inl ⟨hm, rfl⟩)))), g, A, s, n, rfl, h, ft, hok, q⟩
  | stay n =>
    obtain ⟨v, rfl, hv⟩ := dpa_1 hr
    cases dp_str hv
    exact ⟨_, .inr (.inr (.inr (.inr (.inr (.inl ⟨hm, rfl⟩))))), g, A, s, n, rfl, h, ft, hok, q⟩
  | swap n =>
    obtain ⟨v, rfl, hv⟩ := dpa_1 hr
    cases dp_str hv
    exact ⟨_, .inr (.inr (.inr (.inr (.inr (.inr (.inl ⟨hm, rfl⟩)))))), g, A, s, n, rfl, h, ft, hok, q⟩
  | pace n p =>
    obtain ⟨v, u, rfl, hv, hu⟩ := dpa_2 hr
    cases dp_str hv
    cases dp_int hu
    exact ⟨_, .inr (.inr (.inr (.inr (.inr (.inr (.inr ⟨hm, rfl⟩)))))), g, A, s, n, p, rfl, h, ft, hok, q⟩
  | go a b => exact hs.elim
  | outs k c => exact hs.elim
/-- a deed is done: from the ground that was made of the last one -/
theorem yard_push {CC CG CY : Addr} {H H' : Hp} {y : Addr} {B : YdA} {dn un : List Stp} {t a g r u' : Addr} {A' : GdA} {us : List V} {x : Stp} (h : YdAt K CC CG CY H y B dn un) (sm : Sm T H H') (ht : SqT K H' t [.ref a, .ref g, .ref r]) (hd : Dp K H' (.ref a) x.dy.data) (hg : GdAt K CC CG H' g A' x.gd) (hr : SqT K H' r us) (hrs : DpAll K H' us x.rows) (hn : x.rows.all (noL 3) = true)
    (fr : ∀ z ∈ ownG g A', z ∈ ownS B.gd ∨ H z = none) {vs : List V} (ev : H' B.dn = some (.lst vs)) (nu' : upd H' B.dn (.lst (vs ++ [.ref t])) u' = none) :
    ∀ H2, H2 = upd (upd (upd H' B.dn (.lst (vs ++ [.ref t]))) u' (.lst [])) y (.ins CY B.dx (fldY { B with un := u', gd := B.gd ++ [(g, A')], gu := [] })) → Sx T [y, B.dn] H H2 ∧ YdAt K CC CG CY H2 y { B with un := u', gd := B.gd ++ [(g, A')], gu := [] } (dn ++ [x]) [] ∧
      (∀ z ∈ ownA y { B with un := u', gd := B.gd ++ [(g, A')], gu := [] }, z ∈ ownA y B ∨ H z = none) := by
  rintro H2 rfl
  obtain ⟨vs', d1, d2⟩ := h.dn
  have h' := h.sm sm
  have d1' := sm.k d1
  rw [ev] at d1'
  cases d1'
  have nud : u' ≠ B.dn := fun z => by rw [z, upd_same] at nu'; cases nu'
  have nuH' : H' u' = none := by rw [upd_ne nud] at nu'; exact nu'
  have nu : H u' = none := sm.free _ nuH'
  have nug : u' ∉ ownG g A' := hg.new nuH'
  have x1 : Sx T [y, B.dn] H' (upd H' B.dn (.lst (vs ++ [.ref t]))) := sx_upd ev rfl (by simp)
  have nyd : y ≠ B.dn := by
    have := h.nd
    simp only [ownY, List.nodup_cons, List.mem_cons, List.not_mem_nil, or_false, not_or] at this
    exact this.1.1
  have nyu : y ≠ u' := fun z => by rw [← z, h.ins] at nu; cases nu
  have ey : upd (upd H' B.dn (.lst (vs ++ [.ref t]))) u' (.lst []) y = some (.ins CY B.dx (fldY B)) := by rw [upd_ne nyu, upd_ne nyd]; exact h'.ins
  have x2 : Sx T [y, B.dn] (upd (upd H' B.dn (.lst (vs ++ [.ref t]))) u' (.lst [])) (upd (upd (upd H' B.dn (.lst (vs ++ [.ref t]))) u' (.lst [])) y (.ins CY B.dx (fldY { B with un := u', gd := B.gd ++ [(g, A')], gu := [] }))) := sx_upd ey rfl (by simp)
  have x12 := (x1.sm' (same_upd (o := .lst []) nu')).step x2
  have dY : ∀ z ∈ ownS B.gd, z ∉ ownY y B := fun z hz => h.dj z (by rw [ownS_app]; exact List.mem_append_left _ hz)
  have old : ∀ z ∈ ownY y B, ∃ o, H z = some o := fun z hz => by obtain ⟨o, ho, _⟩ := h.obj (List.mem_append_left _ hz); exact ⟨o, ho⟩
  have gY : ∀ z ∈ ownG g A', z ∉ ownY y B := fun z hz w => by
    rcases fr z hz with k | k
    · exact dY z k w
    · obtain ⟨o, ho⟩ := old z w
      rw [k] at ho
      cases ho
  have sub : ∀ z ∈ ([y, B.dn] : List Addr), z ∈ ownY y B := fun z hz => by
    simp only [ownY, List.mem_cons, List.not_mem_nil, or_false] at hz ⊢
    exact hz.elim .inl fun w => .inr (.inl w)
  have gN : ∀ z ∈ ownG g A', z ∉ [y, B.dn] := fun z hz w => gY z hz (sub z w)
  have nuY : u' ∉ ownY y B := fun w => by obtain ⟨o, ho⟩ := old _ w; rw [nu] at ho; cases ho
  have nuS : u' ∉ ownS B.gd := fun w => h.new nu (List.mem_append_right _ (by rw [ownS_app]; exact List.mem_append_left _ w))
  have eo : ownS (B.gd ++ [(g, A')] ++ []) = ownS B.gd ++ ownG g A' := by
    rw [List.append_nil, ownS_app]
    congr 1
    exact List.append_nil _
  refine ⟨(sm.sx.step x12), ⟨upd_same, x12.keep _ _ h'.own trivial (.inl rfl), ⟨vs ++ [.ref t], ?_, ?_⟩, ⟨[], ?_, trivial⟩, ?_, ?_⟩, ?_⟩
  · show upd (upd (upd H' B.dn _) u' _) y _ B.dn = _
    rw [upd_ne (Ne.symm nyd), upd_ne (Ne.symm nud), upd_same]
  · have d2' := (d2.sx (sm.sx (S := [])) fun _ _ => by simp).sx x12 fun z hz w => dY z hz (sub z w)
    exact d2'.push ⟨t, a, r, us, rfl, x12.tup ht, x12.dp 3 _ _ x.dy.noL hd, hg.sx x12 gN, x12.tup hr, x12.dps 3 _ _ hn hrs, hn⟩
  · show upd (upd (upd H' B.dn _) u' _) y _ u' = _
    rw [upd_ne (Ne.symm nyu), upd_same]
  · have nd := h.nd
    simp only [ownY, List.nodup_cons, List.mem_cons, List.not_mem_nil, or_false, not_or, List.nodup_nil, and_true, not_false_eq_true] at nd nuY ⊢
    exact ⟨⟨nd.1.1, fun z => nuY.1 z.symm⟩, fun z => nuY.2.1 z.symm⟩
  · show ∀ z ∈ ownS (B.gd ++ [(g, A')] ++ []), z ∉ [y, B.dn, u']
    rw [eo]
    intro z hz w
    have w2 : z ∈ [y, B.dn] ∨ z = u' := by
      simp only [List.mem_cons, List.not_mem_nil, or_false] at w ⊢
      rcases w with w | w | w
      · exact .inl (.inl w)
      · exact .inl (.inr w)
      · exact .inr w
    rcases List.mem_append.mp hz with k | k
    · exact w2.elim (fun m => dY z k (sub z m)) fun m => nuS (by rw [← m]; exact k)
    · exact w2.elim (fun m => gY z k (sub z m)) fun m => nug (by rw [← m]; exact k)
  · intro z hz
    have hz : z ∈ [y, B.dn, u'] ++ ownS (B.gd ++ [(g, A')] ++ []) := hz
    rw [eo] at hz
    rcases List.mem_append.mp hz with w | w
    · simp only [List.mem_cons, List.not_mem_nil, or_false] at w
      rcases w with rfl | rfl | rfl
      · exact .inl (List.mem_append_left _ (by simp [ownY]))
      · exact .inl (List.mem_append_left _ (by simp [ownY]))
      · exact .inr nu
    · have up : ∀ z ∈ ownS B.gd, z ∈ ownA y B := fun z k => List.mem_append_right _ (by rw [ownS_app]; exact List.mem_append_left _ k)
      rcases List.mem_append.mp w with k | k
      · exact .inl (up z k)
      · exact (fr z k).imp (up z) id
theorem dy_callX {CP CC CG : Addr} {H : Hp} {g f p : Addr} {A : GdA} {s : GdS} {d : Dy} {rest : List V} {Q : VK} {E : XK} {σ : L2.St} (hs : d.small) (hm : mg d.fn = some (.ref f)) (h : GdAt K CC CG H g A s) (ft : FitG s) (fd : d.fit s) (hok : Ok T H) (hr : DpAll K H rest d.rest)
    (h2 : σ[2]? = some (some (.ref g))) (h3 : σ[3]? = some (some (.ref f))) (h4 : σ[4]? = some (some (.ref p))) (hp : SqT K H p rest) (q : ActF K T CP CC CG H g A (d.W s) (d.S s) (d.A s) Q E) :
    tCallX 3 (Fam8 K T CP CC CG mg) E (tCons (tVar 2) (StX.tStar K (tVar 4) tNil)) σ H Q := by
  obtain ⟨sp, hf, hsp⟩ := dy_call hs hm h ft fd hok hr q
  refine ⟨f, sp, h3, hf, .ref g, h2, .ref p, h4, p, rest, rfl, .inl hp, ?_⟩
  show sp (.ref g :: (rest ++ [])) H Q E
  rw [List.append_nil]
  exact hsp
def sp_p_Yard_do (K : PySem.W.Frag) (T : Tb) (CP CC CG CY : Addr) : Sp := fun vs H Q E => ∃ (y : Addr) (B : YdA) (dn un : List Stp) (a : Addr) (d : Dy), vs = [.ref y, .ref a] ∧ YdAt K CC CG CY H y B dn un ∧ Dp K H (.ref a) d.data ∧ d.small ∧ FitG (gdOf dn) ∧ d.fit (gdOf dn) ∧ dn.length ≤ 5000 ∧ Ok T H ∧
  (d.W (gdOf dn) = none → ∀ H' B', Sx T [y, B.dn] H H' → YdAt K CC CG CY H' y B' (dn ++ [⟨d, d.S (gdOf dn), []⟩]) [] → (∀ z ∈ ownA y B', z ∈ ownA y B ∨ H z = none) → B'.dn = B.dn → Q (d.A (gdOf dn)) H') ∧
  (∀ wd, d.W (gdOf dn) = some wd → ∀ cls dd H', Sm T H H' → Rf K CP wd cls dd H' → E cls dd H')
theorem ok_p_Yard_do {f : Addr} {fd : FuncData} {d_DEEDS : Addr} {e_DEEDS : Array DictEntry} {n_DEEDS : Nat} (F : Fun K "do" "Yard.do" s_p_Yard_do f fd) (B : Bn mg) (g_DEEDS : mg "DEEDS" = some (.ref d_DEEDS)) (k_DEEDS : KDict K w d_DEEDS e_DEEDS n_DEEDS) (v_DEEDS : ∀ q ∈ tab_DEEDS, ∃ t, PySem.W.nsIn K d_DEEDS q.1 = some (some (.ref t)) ∧ mg q.2 = some (.ref t)) {CP : Addr} {CC : Addr} {CG : Addr} {CY : Addr} (TG : KlG K CG) (TY : KlY K CY) (MG_twin : Mt P w K mg base CG 3 "twin" ["self"] (sp_p_Ground_twin K T CC CG)) (F_p_lay : Fx P w K mg base 8 "lay" ["ground", "way"] (sp_p_lay K T CP CC CG)) (F_p_hire : Fx P w K mg base 5 "hire" ["ground", "name", "pace"] (sp_p_hire K T CP CC CG)) (F_p_dismiss : Fx P w K mg base 6 "dismiss" ["ground", "name"] (sp_p_dismiss K T CP CC CG)) (F_p_send : Fx P w K mg base 10 "send" ["ground", "name", "number"] (sp_p_send K T CP CC CG)) (F_p_call : Fx P w K mg base 11 "call" ["ground", "name"] (sp_p_call K T CP CC CG)) (F_p_stay : Fx P w K mg base 11 "stay" ["ground", "name"] (sp_p_stay K T CP CC CG)) (F_p_swap : Fx P w K mg base 11 "swap" ["ground", "name"] (sp_p_swap K T CP CC CG)) (F_p_set_pace : Fx P w K mg base 11 "set_pace" ["ground", "name", "pace"] (sp_p_set_pace K T CP CC CG)) (MY_ground : Mt P w K mg base CY 3 "ground" ["self"] (sp_p_Yard_ground K T CC CG CY)) : FnOk P w K mg base (L2.CX P w) 22 f fd ["self", "deed"] (sp_p_Yard_do K T CP CC CG CY) := by
  refine F.okX sc_p_Yard_do (fun vs H Q E h => ?_) (fun cdv A outer s H vs Q E hr h => ?_)
  · obtain ⟨y, Z, dn, un, a, d, rfl, _⟩ := h
    rfl
  · obtain ⟨y, Z, dn, un, a, d, rfl, h, hd, hsm, ft, fd, hl, hok, k1, k2⟩ := h
    refine ⟨_, (pss_cons (ps_set (i := 2) sc_p_Yard_do.nd rfl (.inl rfl) (pe_mt0 MG_twin TG.cl (hr.mono (by decide)) (pe_mt0 MY_ground TY.cl (hr.mono (by decide)) (pv 0) ) ))
      (pss_cons (ps_set (i := 3) sc_p_Yard_do.nd rfl (.inl rfl) (pe_ix ix_kdict (pe_glob (v := .ref d_DEEDS) (by rfl) g_DEEDS rfl) (pe_ix ix_tup (pv 1) pe_int (fun _ _ => rfl)) (fun _ _ => rfl)))
      (pss_cons (ps_set (i := 4) sc_p_Yard_do.nd rfl (.inl rfl) (pe_slice sl_tup (pv 1) (po_some pe_int) po_none))
      (pss_cons (ps_set (i := 5) sc_p_Yard_do.nd rfl (.inl rfl) (pe_callX (k := 20) (fam8 F_p_lay F_p_hire F_p_dismiss F_p_send F_p_call F_p_stay F_p_swap F_p_set_pace (by decide) (by decide) (by decide) (by decide) (by decide) (by decide) (by decide) (by decide)) (hr.mono (by decide)) (takes_of rfl rfl rfl rfl) (i := 3) (by rfl) (.inl rfl) (pa_cons (pv 2) (StX.pa_star (pv 4) pa_nil))))
      (pss_cons (ps_set (i := 6) sc_p_Yard_do.nd rfl (.inl rfl) (pe_ifExp (pt_cmpR op_in_seq (pe_ix ix_tup (pv 1) pe_int (fun _ _ => rfl)) (pe_tup (pa_cons pe_str (pa_cons pe_str pa_nil))) (by rfl)) (pe_callTy call_tuple_of (by rfl) B.tuple_ (by decide +kernel) (pa_cons (pv 5) pa_nil)) (pe_tup pa_nil)))
      (pss_cons (ps_expr (pe_bm PySem.F.plainAttrs_list PySem.F.slot_list_append PySem.F.type_list_append mt_append (pe_fc TY.cl (TY.no "done" (by decide +kernel)) (pv 0)) (pa_cons (pe_tup (pa_cons (pv 1) (pa_cons (pv 2) (pa_cons (pv 6) pa_nil)))) pa_nil)))
      (pss_cons (ps_fc TY.cl (TY.no "undone" (by decide +kernel)) (pv 0) (pe_lst pa_nil))
      (pss_one (ps_ret (pv 5)))))))))), ?_⟩
    refine ⟨_, rfl, y, _, _, rfl, h.ins, fy_no (by decide +kernel), y, Z, dn, un, rfl, h, fun g0 A0 H1 s1 h1 fr1 => ?_⟩
    refine ⟨g0, _, _, rfl, h1.ins, fg_no (by decide +kernel), g0, A0, _, rfl, h1, fun g A H2 s2 h2 fb2 ec2 => ?_⟩
    have s02 := s1.trans s2
    have fb2 : ∀ x ∈ ownB g A, H x = none := fun x hx => s1.free _ (fb2 x hx)
    obtain ⟨rest, e2, dr, r1, r2⟩ := dy_at (d := d) (dp_same s02 _ _ hd)
    obtain ⟨f, hn, hm⟩ := v_DEEDS _ (dy_tab (d := d))
    have sl : ∀ (xs : List V), 1 ≤ xs.length → ¬ (HT.sIx xs.length 0 (some 1) = 0 ∧ HT.sIx xs.length xs.length none = xs.length) := fun xs h z => by
      have e := HT.sIx_nat xs.length 0 1
      rw [show ((1 : Nat) : Int) = 1 from rfl, z.1] at e
      omega
    dsimp only [gName, List.set]
    refine ⟨_, rfl, a, _, _, .str d.word, rfl, rfl, e2, at_of (j := 0) rfl rfl, d_DEEDS, d.word, .ref f, rfl, rfl, ⟨_, _, _, k_DEEDS.at_, k_DEEDS.lit, hn, rfl⟩, ?_⟩
    dsimp only [gName, List.set]
    refine ⟨_, rfl, 1, rfl, a, _, rfl, e2, sl _ (Nat.succ_pos _), fun p np => ?_⟩
    have ec : cutV (V.str d.word :: rest) (some 1) none = rest := cut_drop _ 1 rfl
    rw [ec]
    have u3 := same_upd (T := T) (o := HO.tup rest) np
    have h3 := h2.sm u3
    have s03 := s02.trans u3
    have dr3 := dpa_same u3 _ _ dr
    have ep : SqT K (upd H2 p (.tup rest)) p rest := SqT.of upd_same
    have e3 := same_tup u3 e2
    clear u3 np h2
    generalize upd H2 p (.tup rest) = H3 at *
    dsimp only [gName, List.set]
    refine dy_callX hsm hm h3 ft fd (s03.ok hok) dr3 rfl rfl rfl ep ⟨fun z H4 A' x4 fr4 h4 => ?_, fun wd z cls dd H' x' rf => k2 wd z cls dd H' (Sx.sm (Sx.trans (S := []) s03.sx x' fun q hq => .inr (fb2 q hq))) rf⟩
    have s04 : Sm T H H4 := Sx.sm (Sx.trans (S := []) s03.sx x4 fun q hq => .inr (fb2 q hq))
    have fr4' : ∀ q ∈ ownG g A', q ∈ ownS Z.gd ∨ H q = none := fun q hq => by
      rcases fr4 q hq with w | w
      · rcases List.mem_append.mp w with v | v
        · exact .inr (fb2 q v)
        · rw [ec2] at v
          exact (fr1 q (List.mem_append_right _ v)).imp id fun u => u
      · exact .inr (s03.free _ w)
    have e4 := same_tup s04 (dy_at (d := d) hd).choose_spec.1
    have k1 := k1 z
    clear x4 fr4 k2 h3 e3 ep dr3 s03 fr1 fb2 ec2 s02 s1 s2 h1
    dsimp only [gName, List.set]
    refine ⟨_, rfl, a, _, _, .str d.word, rfl, rfl, e4, at_of (j := 0) rfl rfl, by show 2 ≤ sizeLine; decide, fun tg ng => ?_⟩
    have u5 := same_upd (T := T) (o := HO.tup [V.str "go", V.str "outs"]) ng
    have s05 := s04.trans u5
    have h5 := h4.sm u5
    refine ⟨tg, [("go" : Str), "outs"].map V.str, rfl, .inr (SqT.of upd_same), rfl, rfl, _, rfl, ?_⟩
    rw [inV_strs, decide_eq_false (dy_go hsm)]
    clear u5 s04 h4 e4
    generalize upd H4 tg (HO.tup [V.str "go", V.str "outs"]) = H5 at *
    refine iteF ⟨Nat.zero_le _, fun r nr => ?_⟩
    have u6 := same_upd (T := T) (o := HO.tup []) nr
    have s06 := s05.trans u6
    have h6 := h5.sm u6
    have er : SqT K (upd H5 r (.tup [])) r [] := SqT.of upd_same
    clear u6 s05 h5 nr
    generalize upd H5 r (.tup []) = H6 at *
    dsimp only [gName, List.set]
    obtain ⟨vs, dv, dl⟩ := h.dn
    have lv := dl.len
    have hy := h.sm s06
    have dv6 := s06.k dv
    refine ⟨_, rfl, y, _, _, _, rfl, hy.ins, fy_dn, .inl ⟨rfl, _, SqL.of dv6⟩, _, rfl, _, rfl, _, rfl, by show 3 ≤ sizeLine; decide, fun t nt => ?_⟩
    have u7 := same_upd (T := T) (o := HO.tup [V.ref a, V.ref g, V.ref r]) nt
    have s07 := s06.trans u7
    have dv7 := u7.k dv6
    refine ⟨Z.dn, vs, _, rfl, rfl, dv7, szl (by omega), ?_⟩
    have hy7 := hy.sm u7
    have et : SqT K (upd H6 t (.tup [V.ref a, V.ref g, V.ref r])) t [V.ref a, V.ref g, V.ref r] := SqT.of upd_same
    have h7 := h6.sm u7
    have er7 := same_tup u7 er
    have hd7 := dp_same s07 _ _ hd
    clear u7 s06 h6 er dv6 hy nt
    generalize upd H6 t (.tup [V.ref a, V.ref g, V.ref r]) = H7 at *
    refine ⟨Nat.zero_le _, fun u' nu' => ?_⟩
    have push := yard_push (x := ⟨d, d.S (gdOf dn), []⟩) h s07 et hd7 h7 er7 .nil rfl fr4' dv7 nu' _ rfl
    have nyd : y ≠ Z.dn := by
      have := h.nd
      simp only [ownY, List.nodup_cons, List.mem_cons, List.not_mem_nil, or_false, not_or] at this
      exact this.1.1
    have nyu : y ≠ u' := fun w => by rw [← w, upd_ne nyd, hy7.ins] at nu'; cases nu'
    have ey : upd (upd H7 Z.dn (.lst (vs ++ [.ref t]))) u' (.lst []) y = some (.ins CY Z.dx (fldY Z)) := by rw [upd_ne nyu, upd_ne nyd]; exact hy7.ins
    refine ⟨_, rfl, y, _, _, rfl, ey, by show 2 < 1000; decide, ?_⟩
    exact ⟨_, rfl, k1 _ _ push.1 push.2.1 push.2.2 rfl⟩

theorem okP_frz {H : Hp} {p : Addr × Option Str} {a : Addr} {od : Obj} {o u : HO} (h : OkP H p) (ha : H a = some (.frz od u)) : OkP (upd H a o) p := by
  have k : ∀ b v, H b = some v → (∀ od u, v ≠ .frz od u) → upd H a o b = some v := fun b v e n => by
    rw [upd_ne (fun z => by rw [z, ha] at e; cases e; exact n _ _ rfl)]
    exact e
  obtain ⟨Q, q⟩ := p
  cases q with
  | none =>
    obtain ⟨ps, h1, h2⟩ := (show GxR.TabG H Q from h)
    exact ⟨ps, k _ _ h1 (fun _ _ z => by cases z), h2⟩
  | some q =>
    obtain ⟨ps, h1, h2, h3⟩ := (show LamX.TabS H Q q from h)
    refine ⟨ps, k _ _ h1 (fun _ _ z => by cases z), h2, fun pos cv hc => ?_⟩
    obtain ⟨c, e1, e2⟩ := h3 pos cv hc
    exact ⟨c, e1, k _ _ e2 (fun _ _ z => by unfold LamX.CodeO at z; cases z)⟩
theorem lock_back {T : Tb} {H H' : Hp} {d : Addr} {od : Obj} {u : HO} (hd : H d = some u) (x : Sx T [d] H H') (hd' : H' d = some (.frz od u)) : Sm T H (upd H' d u) := by
  refine ⟨fun b o e n => ?_, fun hk q hq => okP_frz (x.ok hk q hq) hd', fun l hl => ?_⟩
  · by_cases z : b = d
    · rw [z] at e ⊢
      rw [upd_same, ← hd, e]
    · rw [upd_ne z]
      exact x.keep b o e n (.inr (by simp [z]))
  · by_cases z : l = d
    · rw [z, upd_same] at hl; cases hl
    · rw [upd_ne z] at hl
      exact x.free l hl

/-! ### what a yard is asked -/
def poolL (s : GdS) : List Str := (s.tempos.map (·.1)).filter fun n => !(getL s.posts n).isSome
def sp_p_Yard_chains (K : PySem.W.Frag) (T : Tb) (CC CG CY : Addr) : Sp := fun vs H Q _ => ∃ (y : Addr) (Z : YdA) (dn un : List Stp), vs = [.ref y] ∧ YdAt K CC CG CY H y Z dn un ∧ ∀ H', Sm T H H' → Q (.int (gdOf dn).laid.length) H'
theorem ok_p_Yard_chains {f : Addr} {fd : FuncData} (F : Fun K "chains" "Yard.chains" s_p_Yard_chains f fd) (B : Bn mg) {CC : Addr} {CG : Addr} {CY : Addr} (TG : KlG K CG) (TY : KlY K CY) (MY_ground : Mt P w K mg base CY 3 "ground" ["self"] (sp_p_Yard_ground K T CC CG CY)) : FnOk P w K mg base CX0 4 f fd ["self"] (sp_p_Yard_chains K T CC CG CY) := by
  refine F.ok sc_p_Yard_chains (fun vs H Q E h => ?_) (fun cdv A outer s H vs Q E hr h => ?_)
  · obtain ⟨y, Z, dn, un, rfl, _⟩ := h
    rfl
  · obtain ⟨y, Z, dn, un, rfl, h, q⟩ := h
    refine ⟨_, (pss_one (ps_ret (pe_callB call_len_seq (by rfl) B.len_ (by decide +kernel) (pa_cons (pe_fc TG.cl (TG.no "laid" (by decide +kernel)) (pe_mt0 MY_ground TY.cl (hr.mono (by decide)) (pv 0) )) pa_nil)))), ?_⟩
    refine ⟨_, rfl, y, _, _, rfl, h.ins, fy_no (by decide +kernel), y, Z, dn, un, rfl, h, fun g A H1 s1 h1 fr1 => ?_⟩
    refine ⟨g, _, _, _, rfl, h1.ins, fg_la, A.la, _, rfl, .inl (SqL.of h1.la), ?_⟩
    rw [List.length_map, h1.ch.len]
    exact q H1 s1
def sp_p_Yard_pace (K : PySem.W.Frag) (T : Tb) (CP CC CG CY : Addr) : Sp := fun vs H Q E => ∃ (y : Addr) (Z : YdA) (dn un : List Stp) (n : Str), vs = [.ref y, .str n] ∧ YdAt K CC CG CY H y Z dn un ∧
  (∀ p, getL (gdOf dn).tempos n = some p → ∀ H', Sm T H H' → Q (.int p) H') ∧ (getL (gdOf dn).tempos n = none → ∀ cls d H', Sm T H H' → Rf K CP "no hand" cls d H' → E cls d H')
theorem handW_of {s : GdS} {n : Str} (h : handW s n = none) : ∃ p, getL s.tempos n = some p := by
  unfold handW at h
  split at h
  · rename_i c
    exact Option.isSome_iff_exists.mp c
  · cases h
theorem handW_no {s : GdS} {n wd : Str} (h : handW s n = some wd) : wd = "no hand" ∧ getL s.tempos n = none := by
  unfold handW at h
  split at h
  · cases h
  · rename_i c
    refine ⟨(Option.some.inj h).symm, ?_⟩
    cases e : getL s.tempos n with
    | none => rfl
    | some p => rw [e] at c; exact absurd rfl c
theorem ok_p_Yard_pace {f : Addr} {fd : FuncData} (F : Fun K "pace" "Yard.pace" s_p_Yard_pace f fd) {CP : Addr} {CC : Addr} {CG : Addr} {CY : Addr} (TG : KlG K CG) (TY : KlY K CY) (MG_check_hand : Mx P w K mg base CG 4 "check_hand" ["self", "name"] (sp_p_Ground_check_hand K T CP CC CG)) (MY_ground : Mt P w K mg base CY 3 "ground" ["self"] (sp_p_Yard_ground K T CC CG CY)) : FnOk P w K mg base (L2.CX P w) 5 f fd ["self", "name"] (sp_p_Yard_pace K T CP CC CG CY) := by
  refine F.okX sc_p_Yard_pace (fun vs H Q E h => ?_) (fun cdv A outer s H vs Q E hr h => ?_)
  · obtain ⟨y, Z, dn, un, n, rfl, _⟩ := h
    rfl
  · obtain ⟨y, Z, dn, un, n, rfl, h, k1, k2⟩ := h
    refine ⟨_, (pss_cons (ps_set (i := 2) sc_p_Yard_pace.nd rfl (.inl rfl) (pe_mt0 MY_ground TY.cl (hr.mono (by decide)) (pv 0) ))
      (pss_cons (ps_expr (pe_mx MG_check_hand TG.cl (hr.mono (by decide)) (takes_of rfl rfl rfl rfl) (pv 2) (pa_cons (pv 1) pa_nil)))
      (pss_one (ps_ret (pe_dget (hu_of hr) (pe_fc TG.cl (TG.no "tempos" (by decide +kernel)) (pv 2)) (pv 1) (fun _ _ => rfl)))))), ?_⟩
    refine ⟨_, rfl, y, _, _, rfl, h.ins, fy_no (by decide +kernel), y, Z, dn, un, rfl, h, fun g A H1 s1 h1 fr1 => ?_⟩
    refine ⟨_, rfl, g, _, _, rfl, h1.ins, fg_no (by decide +kernel), _, rfl, g, A, _, n, rfl, h1, fun z => ?_, fun wd z cls d H' s' rf => ?_⟩
    · obtain ⟨p, hp⟩ := handW_of z
      have gt : DGet H1 A.tm (.str n) (some (.int p)) := by
        have ev : valV (tmV (gdOf dn).tempos) (Sum.inr n) = some (.int p) := by rw [val_tm, hp]; rfl
        rw [← ev]
        exact DGet.k (k := Sum.inr n) h1.tm
      exact ⟨_, rfl, g, _, _, _, rfl, h1.ins, fg_tm, _, rfl, A.tm, .int p, rfl, gt, k1 p hp H1 s1⟩
    · obtain ⟨rfl, e⟩ := handW_no z
      exact k2 e cls d H' (s1.trans s') rf
def optV : Option Int → V
  | some k => .int k
  | none => .non
def sp_p_Yard_where (K : PySem.W.Frag) (T : Tb) (CP CC CG CY : Addr) : Sp := fun vs H Q E => ∃ (y : Addr) (Z : YdA) (dn un : List Stp) (n : Str), vs = [.ref y, .str n] ∧ YdAt K CC CG CY H y Z dn un ∧
  (∀ p, getL (gdOf dn).tempos n = some p → ∀ H', Sm T H H' → Q (optV (getL (gdOf dn).posts n)) H') ∧ (getL (gdOf dn).tempos n = none → ∀ cls d H', Sm T H H' → Rf K CP "no hand" cls d H' → E cls d H')
theorem ok_p_Yard_where {f : Addr} {fd : FuncData} (F : Fun K "where" "Yard.where" s_p_Yard_where f fd) {CP : Addr} {CC : Addr} {CG : Addr} {CY : Addr} (TG : KlG K CG) (TY : KlY K CY) (MG_check_hand : Mx P w K mg base CG 4 "check_hand" ["self", "name"] (sp_p_Ground_check_hand K T CP CC CG)) (MY_ground : Mt P w K mg base CY 3 "ground" ["self"] (sp_p_Yard_ground K T CC CG CY)) : FnOk P w K mg base (L2.CX P w) 5 f fd ["self", "name"] (sp_p_Yard_where K T CP CC CG CY) := by
  refine F.okX sc_p_Yard_where (fun vs H Q E h => ?_) (fun cdv A outer s H vs Q E hr h => ?_)
  · obtain ⟨y, Z, dn, un, n, rfl, _⟩ := h
    rfl
  · obtain ⟨y, Z, dn, un, n, rfl, h, k1, k2⟩ := h
    refine ⟨_, (pss_cons (ps_set (i := 2) sc_p_Yard_where.nd rfl (.inl rfl) (pe_mt0 MY_ground TY.cl (hr.mono (by decide)) (pv 0) ))
      (pss_cons (ps_expr (pe_mx MG_check_hand TG.cl (hr.mono (by decide)) (takes_of rfl rfl rfl rfl) (pv 2) (pa_cons (pv 1) pa_nil)))
      (pss_one (ps_ret (pe_dget1 (hu_of hr) (pe_fc TG.cl (TG.no "posts" (by decide +kernel)) (pv 2)) (pv 1) ⟨rfl, rfl, rfl, rfl⟩))))), ?_⟩
    refine ⟨_, rfl, y, _, _, rfl, h.ins, fy_no (by decide +kernel), y, Z, dn, un, rfl, h, fun g A H1 s1 h1 fr1 => ?_⟩
    refine ⟨_, rfl, g, _, _, rfl, h1.ins, fg_no (by decide +kernel), _, rfl, g, A, _, n, rfl, h1, fun z => ?_, fun wd z cls d H' s' rf => ?_⟩
    · obtain ⟨p, hp⟩ := handW_of z
      refine ⟨_, rfl, g, _, _, _, rfl, h1.ins, fg_po, A.po, rfl, .inl ⟨_, .inl h1.po⟩, _, rfl, _, DGet.k (k := Sum.inr n) h1.po, ?_⟩
      have e : (valV (tmV (gdOf dn).posts) (Sum.inr n)).getD .non = optV (getL (gdOf dn).posts n) := by
        rw [val_tm]
        cases getL (gdOf dn).posts n <;> rfl
      rw [e]
      exact k1 p hp H1 s1
    · obtain ⟨rfl, e⟩ := handW_no z
      exact k2 e cls d H' (s1.trans s') rf
def sp_p_Yard_pool (K : PySem.W.Frag) (T : Tb) (CC CG CY : Addr) : Sp := fun vs H Q _ => ∃ (y : Addr) (Z : YdA) (dn un : List Stp), vs = [.ref y] ∧ YdAt K CC CG CY H y Z dn un ∧ (gdOf dn).tempos.length ≤ 1000 ∧ ∀ p H', Sm T H H' → H p = none → H' p = some (.lst ((poolL (gdOf dn)).map V.str)) → Q (.ref p) H'
theorem ok_p_Yard_pool {f : Addr} {fd : FuncData} (F : Fun K "pool" "Yard.pool" s_p_Yard_pool f fd) {CC : Addr} {CG : Addr} {CY : Addr} (TG : KlG K CG) (TY : KlY K CY) (MY_ground : Mt P w K mg base CY 3 "ground" ["self"] (sp_p_Yard_ground K T CC CG CY)) : FnOk P w K mg base CX0 4 f fd ["self"] (sp_p_Yard_pool K T CC CG CY) := by
  refine F.ok sc_p_Yard_pool (fun vs H Q E h => ?_) (fun cdv A outer s H vs Q E hr h => ?_)
  · obtain ⟨y, Z, dn, un, rfl, _⟩ := h
    rfl
  · obtain ⟨y, Z, dn, un, rfl, h, hl, q⟩ := h
    refine ⟨_, (pss_cons (ps_set (i := 1) sc_p_Yard_pool.nd rfl (.inr rfl) (pe_mt0 MY_ground TY.cl (hr.mono (by decide)) (pv 0) ))
      (pss_one (ps_ret (pe_lock (pe_lc (own := [("name", 2)]) (g := (gName 2)) (by rfl) sc_p_Yard_pool.nd (pi_keys (pe_fc TG.cl (TG.no "tempos" (by decide +kernel)) (pv 1))) (blkOk_by (own := [("name", 2)]) (N := ["self", "ground", "name"]) (sc := (defScope s_p_Yard_pool)) (by decide +kernel)) (fun _ _ _ _ _ => (pg_name (i := 2) sc_p_Yard_pool.nd rfl (.inl rfl))) (fun _ _ _ _ _ => (pts_one (pt_cmp (pc_dnotin (hu_of hr) (pv 2) (pe_fc TG.cl (TG.no "posts" (by decide +kernel)) (pv 1)))))) (fun _ _ _ _ _ => (pv 2))))))), ?_⟩
    refine ⟨_, rfl, y, _, _, rfl, h.ins, fy_no (by decide +kernel), y, Z, dn, un, rfl, h, fun g A H1 s1 h1 fr1 => ?_⟩
    generalize gdOf dn = s at *
    dsimp only [gName, List.set]
    refine ⟨A.tm, _, h1.tm, trivial, fun od => ?_⟩
    have xL : Sx T [A.tm] H1 (upd H1 A.tm (.frz od (.dK (tmV s.tempos)))) := sx_upd h1.tm rfl (by simp)
    have eL : upd H1 A.tm (.frz od (.dK (tmV s.tempos))) A.tm = some (.frz od (.dK (tmV s.tempos))) := upd_same
    have ng : g ∉ [A.tm] := h1.nb (i := 0) (j := 1) rfl rfl (by decide)
    have np : A.po ∉ [A.tm] := h1.nb (i := 2) (j := 1) rfl rfl (by decide)
    have e1 := h1.tm
    have e2 := h1.po
    have e3 := h1.ins
    refine ⟨_, rfl, g, _, _, _, rfl, xL.keep _ _ e3 trivial (.inr ng), fg_tm, A.tm, od, rfl, .inl ⟨_, eL, fun D hD => lc_it walk_keys (Qd := _) (fun i H' => Sx T [A.tm] H1 H' ∧ H' A.tm = some (.frz od (.dK (tmV s.tempos))) ∧ H' D = some (.lst ((((s.tempos.map (·.1)).take i).filter fun n => !(getL s.posts n).isSome).map V.str))) ⟨?_, ?_, upd_same⟩ (fun i H' _ z => z.2.1) ?_ ?_⟩⟩
    · exact xL.sm' (same_upd hD)
    · rw [upd_ne (ne_of_none eL hD)]; exact eL
    · rintro i x H2 H3 hi ⟨x2, eT, eD⟩ ⟨rfl, k, v, hk, rfl⟩
      have el : (tmV s.tempos).length = s.tempos.length := List.length_map ..
      have hil : i < s.tempos.length := by rw [← el]; exact hi
      unfold tmV at hk
      rw [List.getElem?_map, List.getElem?_eq_getElem hil] at hk
      cases hk
      refine ⟨rfl, ?_⟩
      have gp : H3 A.po = some (.dK (tmV s.posts)) := x2.keep _ _ e2 trivial (.inr np)
      refine ⟨_, rfl, _, rfl, g, _, _, _, rfl, x2.keep _ _ e3 trivial (.inr ng), fg_po, A.po, _, rfl, DGet.k (k := Sum.inr s.tempos[i].1) gp, _, rfl, ?_⟩
      have ef : ((s.tempos.map (·.1)).take (i + 1)) = (s.tempos.map (·.1)).take i ++ [s.tempos[i].1] := by
        rw [List.take_add_one, List.getElem?_map, List.getElem?_eq_getElem hil]
        rfl
      rw [tm_in]
      cases hb : (getL s.posts s.tempos[i].1).isSome with
      | true =>
        refine iteF ⟨x2, eT, ?_⟩
        rw [ef, List.filter_append, List.filter_cons, hb]
        simpa using eD
      | false =>
        have lt : (((s.tempos.map (·.1)).take i).filter fun n => !(getL s.posts n).isSome).length ≤ s.tempos.length := Nat.le_trans (List.length_filter_le _ _) (by rw [List.length_take, List.length_map]; omega)
        refine iteT ⟨_, rfl, _, eD, szl (by rw [List.length_map]; omega), ?_, ?_, ?_⟩
        · refine ⟨fun b o e n w => ?_, fun hk => ?_, fun l hl => ?_⟩
          · by_cases hb2 : b = D
            · exfalso
              have hD1 : H1 D = none := by
                have := xL.free _ hD
                exact this
              rw [hb2, hD1] at e
              cases e
            · rw [upd_ne hb2]
              exact x2.keep b o e n w
          · exact fun q hq => okP_mut (x2.ok hk q hq) eD
          · by_cases hb2 : l = D
            · rw [hb2]; exact xL.free _ hD
            · rw [upd_ne hb2] at hl
              exact x2.free l hl
        · rw [upd_ne (fun z => by rw [z, eD] at eT; cases eT)]
          exact eT
        · rw [upd_same, ef, List.filter_append, List.filter_cons, hb, List.map_append]
          rfl
    · rintro H2 ⟨x2, eT, eD⟩
      have el : (tmV s.tempos).length = (s.tempos.map (·.1)).length := by rw [List.length_map]; exact List.length_map ..
      rw [el, List.take_length] at eD
      refine ⟨eT, ?_⟩
      have sB := lock_back e1 x2 eT
      refine q D _ (s1.trans sB) ?_ ?_
      · exact s1.free _ (xL.free _ hD)
      · rw [upd_ne (fun z => by rw [z, eT] at eD; cases eD)]
        exact eD

def sp_l_same_n (n : Nat) (K : PySem.W.Frag) (T : Tb) : Sp := fun vs H Q _ => ∃ x y d, vs = [x, y] ∧ Dp K H x d ∧ Dp K H y d ∧ depOk n d = true ∧ ∀ H', Sm T H H' → Q (.bl true) H'
abbrev sp_l_same (K : PySem.W.Frag) (T : Tb) : Sp := sp_l_same_n 5 K T
theorem ok_l_same_n {f : Addr} {fd : FuncData} (F : Fun K "_law_same" "_law_same" s_l_same f fd) (B : Bn mg) (g : mg "_law_same" = some (.ref f)) (b : Binds K fd ["_law_found", "_law_due"] []) :
    ∀ n, FnOk P w K mg base CX0 (n + 1) f fd ["_law_found", "_law_due"] (sp_l_same_n n K T)
  | 0 => by
    refine F.ok sc_l_same (fun vs H Q E h => ?_) (fun cdv A outer s H vs Q E hr h => ?_)
    · obtain ⟨x, y, d, rfl, _⟩ := h
      rfl
    · obtain ⟨x, y, d, rfl, hx, hy, hd, q⟩ := h
      have tx := tyx_of hx
      have ty := tyx_of hy
      have q0 := q H Sm.refl
      refine ⟨_, (pss_cons (ps_if (pt_cmpR op_isN (pv 1) pe_non (nomark _)) (pss_one (ps_ret (pe_cmpR op_isN (pv 0) pe_non (nomark _)))) pss_nil)
      (pss_cons (ps_if (PW.pt (pw_or (pt_val (pe_callB call_isi (by rfl) B.isinstance_ (by decide +kernel) (pa_cons (pv 1) (pa_cons (pe_bltn (v := .ty "bool") (by rfl) B.bool_ (by decide +kernel) rfl) pa_nil)))) (pw_or1 (pt_val (pe_callB call_isi (by rfl) B.isinstance_ (by decide +kernel) (pa_cons (pv 0) (pa_cons (pe_bltn (v := .ty "bool") (by rfl) B.bool_ (by decide +kernel) rfl) pa_nil))))))) (pss_one (ps_ret (pe_and (pe_callB call_isi (by rfl) B.isinstance_ (by decide +kernel) (pa_cons (pv 1) (pa_cons (pe_bltn (v := .ty "bool") (by rfl) B.bool_ (by decide +kernel) rfl) pa_nil))) (pe_and (pe_callB call_isi (by rfl) B.isinstance_ (by decide +kernel) (pa_cons (pv 0) (pa_cons (pe_bltn (v := .ty "bool") (by rfl) B.bool_ (by decide +kernel) rfl) pa_nil))) (pe_one (pe_cmpR op_eq (pv 0) (pv 1) (nomark _))))))) pss_nil)
      (pss_cons (ps_if (pt_val (pe_callB call_isi (by rfl) B.isinstance_ (by decide +kernel) (pa_cons (pv 1) (pa_cons (pe_bltn (v := .ty "int") (by rfl) B.int_ (by decide +kernel) rfl) pa_nil)))) (pss_one (ps_ret (pe_and (pe_callB call_isi (by rfl) B.isinstance_ (by decide +kernel) (pa_cons (pv 0) (pa_cons (pe_bltn (v := .ty "int") (by rfl) B.int_ (by decide +kernel) rfl) pa_nil))) (pe_one (pe_cmpR op_eq (pv 0) (pv 1) (nomark _)))))) pss_nil)
      (pss_cons (ps_if (pt_val (pe_callB call_isi (by rfl) B.isinstance_ (by decide +kernel) (pa_cons (pv 1) (pa_cons (pe_bltn (v := .ty "str") (by rfl) B.str_ (by decide +kernel) rfl) pa_nil)))) (pss_one (ps_ret (pe_and (pe_callB call_isi (by rfl) B.isinstance_ (by decide +kernel) (pa_cons (pv 0) (pa_cons (pe_bltn (v := .ty "str") (by rfl) B.str_ (by decide +kernel) rfl) pa_nil))) (pe_one (pe_cmpR op_eq (pv 0) (pv 1) (nomark _)))))) pss_nil)
      (pss_cons (ps_if (PW.pt (pw_or (pt_cmpR op_ne (pe_callB call_isi (by rfl) B.isinstance_ (by decide +kernel) (pa_cons (pv 1) (pa_cons (pe_bltn (v := .ty "tuple") (by rfl) B.tuple_ (by decide +kernel) rfl) pa_nil))) (pe_callB call_isi (by rfl) B.isinstance_ (by decide +kernel) (pa_cons (pv 0) (pa_cons (pe_bltn (v := .ty "tuple") (by rfl) B.tuple_ (by decide +kernel) rfl) pa_nil))) (nomark _)) (pw_or1 (pt_cmpR op_ne (pe_callB call_isi (by rfl) B.isinstance_ (by decide +kernel) (pa_cons (pv 1) (pa_cons (pe_bltn (v := .ty "list") (by rfl) B.list_ (by decide +kernel) rfl) pa_nil))) (pe_callB call_isi (by rfl) B.isinstance_ (by decide +kernel) (pa_cons (pv 0) (pa_cons (pe_bltn (v := .ty "list") (by rfl) B.list_ (by decide +kernel) rfl) pa_nil))) (nomark _))))) (pss_one (ps_ret pe_bl)) pss_nil)
      (pss_one ps_never)))))), ?_⟩
      cases d with
      | none =>
        cases hx; cases hy
        exact ⟨_, rfl, rfl, _, rfl, iteT ⟨_, rfl, rfl, q0⟩⟩
      | bool b =>
        cases hx; cases hy
        refine ⟨_, rfl, rfl, _, rfl, iteF ?_⟩
        refine ⟨_, rfl, _, _, _, _, true, rfl, .ty "bool", ty, kit_ty kb_bool_bool, _, rfl, iteT (iteT ?_)⟩
        refine ⟨_, rfl, _, _, _, _, true, rfl, .ty "bool", ty, kit_ty kb_bool_bool, _, rfl, iteT ?_⟩
        refine ⟨_, rfl, _, _, _, _, true, rfl, .ty "bool", tx, kit_ty kb_bool_bool, _, rfl, iteT ?_⟩
        refine ⟨_, rfl, _, rfl, rfl, ?_⟩
        rw [decide_eq_true rfl]
        exact q0
      | int i =>
        cases hx; cases hy
        refine ⟨_, rfl, rfl, _, rfl, iteF ?_⟩
        refine ⟨_, rfl, _, _, _, _, false, rfl, .ty "bool", ty, kit_ty kb_int_bool, _, rfl, iteF ?_⟩
        refine ⟨_, rfl, _, _, _, _, false, rfl, .ty "bool", tx, kit_ty kb_int_bool, _, rfl, iteF ?_⟩
        refine ⟨_, rfl, _, _, _, _, true, rfl, .ty "int", ty, kit_ty kb_int_int, _, rfl, iteT ?_⟩
        refine ⟨_, rfl, _, _, _, _, true, rfl, .ty "int", tx, kit_ty kb_int_int, _, rfl, iteT ?_⟩
        refine ⟨_, rfl, _, rfl, rfl, ?_⟩
        rw [decide_eq_true rfl]
        exact q0
      | str z =>
        cases hx; cases hy
        refine ⟨_, rfl, rfl, _, rfl, iteF ?_⟩
        refine ⟨_, rfl, _, _, _, _, false, rfl, .ty "bool", ty, kit_ty kb_str_bool, _, rfl, iteF ?_⟩
        refine ⟨_, rfl, _, _, _, _, false, rfl, .ty "bool", tx, kit_ty kb_str_bool, _, rfl, iteF ?_⟩
        refine ⟨_, rfl, _, _, _, _, false, rfl, .ty "int", ty, kit_ty kb_str_int, _, rfl, iteF ?_⟩
        refine ⟨_, rfl, _, _, _, _, true, rfl, .ty "str", ty, kit_ty kb_str_str, _, rfl, iteT ?_⟩
        refine ⟨_, rfl, _, _, _, _, true, rfl, .ty "str", tx, kit_ty kb_str_str, _, rfl, iteT ?_⟩
        refine ⟨_, rfl, _, rfl, rfl, ?_⟩
        rw [decide_eq_true rfl]
        exact q0
      | list ds => cases hd
      | tuple ds => cases hd
      | dict _ => cases hd
  | n + 1 => by
    have F_l_same : Fn P w K mg base (n + 1) "_law_same" ["_law_found", "_law_due"] (sp_l_same_n n K T) := Fn.mk' (ok_l_same_n F B g b n) g F.kp b
    refine F.ok sc_l_same (fun vs H Q E h => ?_) (fun cdv A outer s H vs Q E hr h => ?_)
    · obtain ⟨x, y, d, rfl, _⟩ := h
      rfl
    · obtain ⟨x, y, d, rfl, hx, hy, hd, q⟩ := h
      have tx := tyx_of hx
      have ty := tyx_of hy
      have q0 := q H Sm.refl
      refine ⟨_, (pss_cons (ps_if (pt_cmpR op_isN (pv 1) pe_non (nomark _)) (pss_one (ps_ret (pe_cmpR op_isN (pv 0) pe_non (nomark _)))) pss_nil)
      (pss_cons (ps_if (PW.pt (pw_or (pt_val (pe_callB call_isi (by rfl) B.isinstance_ (by decide +kernel) (pa_cons (pv 1) (pa_cons (pe_bltn (v := .ty "bool") (by rfl) B.bool_ (by decide +kernel) rfl) pa_nil)))) (pw_or1 (pt_val (pe_callB call_isi (by rfl) B.isinstance_ (by decide +kernel) (pa_cons (pv 0) (pa_cons (pe_bltn (v := .ty "bool") (by rfl) B.bool_ (by decide +kernel) rfl) pa_nil))))))) (pss_one (ps_ret (pe_and (pe_callB call_isi (by rfl) B.isinstance_ (by decide +kernel) (pa_cons (pv 1) (pa_cons (pe_bltn (v := .ty "bool") (by rfl) B.bool_ (by decide +kernel) rfl) pa_nil))) (pe_and (pe_callB call_isi (by rfl) B.isinstance_ (by decide +kernel) (pa_cons (pv 0) (pa_cons (pe_bltn (v := .ty "bool") (by rfl) B.bool_ (by decide +kernel) rfl) pa_nil))) (pe_one (pe_cmpR op_eq (pv 0) (pv 1) (nomark _))))))) pss_nil)
      (pss_cons (ps_if (pt_val (pe_callB call_isi (by rfl) B.isinstance_ (by decide +kernel) (pa_cons (pv 1) (pa_cons (pe_bltn (v := .ty "int") (by rfl) B.int_ (by decide +kernel) rfl) pa_nil)))) (pss_one (ps_ret (pe_and (pe_callB call_isi (by rfl) B.isinstance_ (by decide +kernel) (pa_cons (pv 0) (pa_cons (pe_bltn (v := .ty "int") (by rfl) B.int_ (by decide +kernel) rfl) pa_nil))) (pe_one (pe_cmpR op_eq (pv 0) (pv 1) (nomark _)))))) pss_nil)
      (pss_cons (ps_if (pt_val (pe_callB call_isi (by rfl) B.isinstance_ (by decide +kernel) (pa_cons (pv 1) (pa_cons (pe_bltn (v := .ty "str") (by rfl) B.str_ (by decide +kernel) rfl) pa_nil)))) (pss_one (ps_ret (pe_and (pe_callB call_isi (by rfl) B.isinstance_ (by decide +kernel) (pa_cons (pv 0) (pa_cons (pe_bltn (v := .ty "str") (by rfl) B.str_ (by decide +kernel) rfl) pa_nil))) (pe_one (pe_cmpR op_eq (pv 0) (pv 1) (nomark _)))))) pss_nil)
      (pss_cons (ps_if (PW.pt (pw_or (pt_cmpR op_ne (pe_callB call_isi (by rfl) B.isinstance_ (by decide +kernel) (pa_cons (pv 1) (pa_cons (pe_bltn (v := .ty "tuple") (by rfl) B.tuple_ (by decide +kernel) rfl) pa_nil))) (pe_callB call_isi (by rfl) B.isinstance_ (by decide +kernel) (pa_cons (pv 0) (pa_cons (pe_bltn (v := .ty "tuple") (by rfl) B.tuple_ (by decide +kernel) rfl) pa_nil))) (nomark _)) (pw_or1 (pt_cmpR op_ne (pe_callB call_isi (by rfl) B.isinstance_ (by decide +kernel) (pa_cons (pv 1) (pa_cons (pe_bltn (v := .ty "list") (by rfl) B.list_ (by decide +kernel) rfl) pa_nil))) (pe_callB call_isi (by rfl) B.isinstance_ (by decide +kernel) (pa_cons (pv 0) (pa_cons (pe_bltn (v := .ty "list") (by rfl) B.list_ (by decide +kernel) rfl) pa_nil))) (nomark _))))) (pss_one (ps_ret pe_bl)) pss_nil)
      (pss_one (ps_ret (pe_and (pe_cmpR op_eq (pe_callB call_len_seq (by rfl) B.len_ (by decide +kernel) (pa_cons (pv 0) pa_nil)) (pe_callB call_len_seq (by rfl) B.len_ (by decide +kernel) (pa_cons (pv 1) pa_nil)) (nomark _)) (pe_one (pe_callB (cr_all rfl) (by rfl) B.all_ (by decide +kernel) (pa_cons (pe_lc (own := [("_law_k", 2)]) (g := (gName 2)) (tt := tYes) (by rfl) sc_l_same.nd (pi_range1 (by rfl) B.range_ (pa_cons (pe_callB call_len_seq (by rfl) B.len_ (by decide +kernel) (pa_cons (pv 1) pa_nil)) pa_nil)) (blkOk_by (own := [("_law_k", 2)]) (N := ["_law_found", "_law_due", "_law_k"]) (sc := (defScope s_l_same)) (by decide +kernel)) (fun _ _ _ _ _ => (pg_name (i := 2) sc_l_same.nd rfl (.inl rfl))) (fun _ _ _ _ _ => pts_nil) (fun _ _ _ _ _ => (pe_fn F_l_same hr (pa_cons (pe_ix (r := rIx K) ix_seq (pv 0) (pv 2) (fun _ _ => rfl)) (pa_cons (pe_ix (r := rIx K) ix_seq (pv 1) (pv 2) (fun _ _ => rfl)) pa_nil))))) pa_nil))))))))))), ?_⟩
      cases d with
      | none =>
        cases hx; cases hy
        exact ⟨_, rfl, rfl, _, rfl, iteT ⟨_, rfl, rfl, q0⟩⟩
      | bool b =>
        cases hx; cases hy
        refine ⟨_, rfl, rfl, _, rfl, iteF ?_⟩
        refine ⟨_, rfl, _, _, _, _, true, rfl, .ty "bool", ty, kit_ty kb_bool_bool, _, rfl, iteT (iteT ?_)⟩
        refine ⟨_, rfl, _, _, _, _, true, rfl, .ty "bool", ty, kit_ty kb_bool_bool, _, rfl, iteT ?_⟩
        refine ⟨_, rfl, _, _, _, _, true, rfl, .ty "bool", tx, kit_ty kb_bool_bool, _, rfl, iteT ?_⟩
        refine ⟨_, rfl, _, rfl, rfl, ?_⟩
        rw [decide_eq_true rfl]
        exact q0
      | int i =>
        cases hx; cases hy
        refine ⟨_, rfl, rfl, _, rfl, iteF ?_⟩
        refine ⟨_, rfl, _, _, _, _, false, rfl, .ty "bool", ty, kit_ty kb_int_bool, _, rfl, iteF ?_⟩
        refine ⟨_, rfl, _, _, _, _, false, rfl, .ty "bool", tx, kit_ty kb_int_bool, _, rfl, iteF ?_⟩
        refine ⟨_, rfl, _, _, _, _, true, rfl, .ty "int", ty, kit_ty kb_int_int, _, rfl, iteT ?_⟩
        refine ⟨_, rfl, _, _, _, _, true, rfl, .ty "int", tx, kit_ty kb_int_int, _, rfl, iteT ?_⟩
        refine ⟨_, rfl, _, rfl, rfl, ?_⟩
        rw [decide_eq_true rfl]
        exact q0
      | str z =>
        cases hx; cases hy
        refine ⟨_, rfl, rfl, _, rfl, iteF ?_⟩
        refine ⟨_, rfl, _, _, _, _, false, rfl, .ty "bool", ty, kit_ty kb_str_bool, _, rfl, iteF ?_⟩
        refine ⟨_, rfl, _, _, _, _, false, rfl, .ty "bool", tx, kit_ty kb_str_bool, _, rfl, iteF ?_⟩
        refine ⟨_, rfl, _, _, _, _, false, rfl, .ty "int", ty, kit_ty kb_str_int, _, rfl, iteF ?_⟩
        refine ⟨_, rfl, _, _, _, _, true, rfl, .ty "str", ty, kit_ty kb_str_str, _, rfl, iteT ?_⟩
        refine ⟨_, rfl, _, _, _, _, true, rfl, .ty "str", tx, kit_ty kb_str_str, _, rfl, iteT ?_⟩
        refine ⟨_, rfl, _, rfl, rfl, ?_⟩
        rw [decide_eq_true rfl]
        exact q0
      | list ds =>
        cases hx with
        | @lst ax xs _ sx ax_ =>
        cases hy with
        | @lst ay ys _ sy ay_ =>
        refine ⟨_, rfl, rfl, _, rfl, iteF ?_⟩
        refine ⟨_, rfl, _, _, _, _, false, rfl, .ty "bool", ty, kit_ty kb_list_bool, _, rfl, iteF ?_⟩
        refine ⟨_, rfl, _, _, _, _, false, rfl, .ty "bool", tx, kit_ty kb_list_bool, _, rfl, iteF ?_⟩
        refine ⟨_, rfl, _, _, _, _, false, rfl, .ty "int", ty, kit_ty kb_list_int, _, rfl, iteF ?_⟩
        refine ⟨_, rfl, _, _, _, _, false, rfl, .ty "str", ty, kit_ty kb_list_str, _, rfl, iteF ?_⟩
        refine ⟨_, rfl, _, _, _, _, false, rfl, .ty "tuple", ty, kit_ty kb_list_tuple, _, rfl, _, _, _, _, false, rfl, .ty "tuple", tx, kit_ty kb_list_tuple, rfl, _, rfl, iteF ?_⟩
        refine ⟨_, rfl, _, _, _, _, true, rfl, .ty "list", ty, kit_ty kb_list_list, _, rfl, _, _, _, _, true, rfl, .ty "list", tx, kit_ty kb_list_list, rfl, _, rfl, iteF ?_⟩
        have hd' : (decide (ds.length ≤ 9000) && ds.all (depOk n)) = true := hd
        rw [Bool.and_eq_true] at hd'
        have hle : ds.length ≤ 9000 := of_decide_eq_true hd'.1
        have lx := dpa_len ax_
        have ly := dpa_len ay_
        refine ⟨_, rfl, ax, xs, rfl, .inl sx, _, rfl, ay, ys, rfl, .inl sy, rfl, _, rfl, ?_⟩
        rw [lx, ly, decide_eq_true rfl]
        refine iteT ?_
        refine ⟨_, rfl, ay, ys, rfl, .inl sy, _, rfl, by rw [ly]; omega, by rw [ly]; omega, fun D hD => lc_range (lo := 0) (n := ys.length)
          (Qd := _) (fun i H' => Sm T H H' ∧ H' D = some (.lst (List.replicate i (V.bl true)))) ⟨same_upd hD, upd_same⟩ ?_ ?_⟩
        · rintro i H' hi ⟨sm, eD⟩
          rw [ly] at hi
          obtain ⟨vx, ex, dx⟩ := dpa_get ax_ (List.getElem?_eq_getElem hi)
          obtain ⟨vy, ey, dy⟩ := dpa_get ay_ (List.getElem?_eq_getElem hi)
          refine ⟨rfl, tyes_i ?_⟩
          refine ⟨_, rfl, _, rfl, .inl ⟨ax, xs, _, vx, rfl, rfl, sm.seq sx, at_of (j := i) (by omega) ex, ?_⟩⟩
          refine ⟨_, rfl, _, rfl, .inl ⟨ay, ys, _, vy, rfl, rfl, sm.seq sy, at_of (j := i) (by omega) ey, ?_⟩⟩
          refine ⟨vx, vy, ds[i], rfl, dp_same sm _ _ dx, dp_same sm _ _ dy, List.all_eq_true.mp hd'.2 _ (List.getElem_mem hi), fun H2 s2 => ⟨_, s2.k eD, ?_, same_mut (sm.trans s2) hD (s2.lst eD), ?_⟩⟩
          · rw [List.length_replicate]
            exact szl (by omega)
          · rw [upd_same, ← List.replicate_succ']
        · rintro H' ⟨sm, eD⟩
          rw [ly] at eD
          refine ⟨D, List.replicate ds.length true, rfl, SqL.of (by rw [eD, List.map_replicate]), ?_⟩
          rw [rep_all]
          exact q H' sm
      | tuple ds =>
        cases hx with
        | @tup ax xs _ sx ax_ =>
        cases hy with
        | @tup ay ys _ sy ay_ =>
        refine ⟨_, rfl, rfl, _, rfl, iteF ?_⟩
        refine ⟨_, rfl, _, _, _, _, false, rfl, .ty "bool", ty, kit_ty kb_tuple_bool, _, rfl, iteF ?_⟩
        refine ⟨_, rfl, _, _, _, _, false, rfl, .ty "bool", tx, kit_ty kb_tuple_bool, _, rfl, iteF ?_⟩
        refine ⟨_, rfl, _, _, _, _, false, rfl, .ty "int", ty, kit_ty kb_tuple_int, _, rfl, iteF ?_⟩
        refine ⟨_, rfl, _, _, _, _, false, rfl, .ty "str", ty, kit_ty kb_tuple_str, _, rfl, iteF ?_⟩
        refine ⟨_, rfl, _, _, _, _, true, rfl, .ty "tuple", ty, kit_ty kb_tuple_tuple, _, rfl, _, _, _, _, true, rfl, .ty "tuple", tx, kit_ty kb_tuple_tuple, rfl, _, rfl, iteF ?_⟩
        refine ⟨_, rfl, _, _, _, _, false, rfl, .ty "list", ty, kit_ty kb_tuple_list, _, rfl, _, _, _, _, false, rfl, .ty "list", tx, kit_ty kb_tuple_list, rfl, _, rfl, iteF ?_⟩
        have hd' : (decide (ds.length ≤ 9000) && ds.all (depOk n)) = true := hd
        rw [Bool.and_eq_true] at hd'
        have hle : ds.length ≤ 9000 := of_decide_eq_true hd'.1
        have lx := dpa_len ax_
        have ly := dpa_len ay_
        refine ⟨_, rfl, ax, xs, rfl, .inr sx, _, rfl, ay, ys, rfl, .inr sy, rfl, _, rfl, ?_⟩
        rw [lx, ly, decide_eq_true rfl]
        refine iteT ?_
        refine ⟨_, rfl, ay, ys, rfl, .inr sy, _, rfl, by rw [ly]; omega, by rw [ly]; omega, fun D hD => lc_range (lo := 0) (n := ys.length)
          (Qd := _) (fun i H' => Sm T H H' ∧ H' D = some (.lst (List.replicate i (V.bl true)))) ⟨same_upd hD, upd_same⟩ ?_ ?_⟩
        · rintro i H' hi ⟨sm, eD⟩
          rw [ly] at hi
          obtain ⟨vx, ex, dx⟩ := dpa_get ax_ (List.getElem?_eq_getElem hi)
          obtain ⟨vy, ey, dy⟩ := dpa_get ay_ (List.getElem?_eq_getElem hi)
          refine ⟨rfl, tyes_i ?_⟩
          refine ⟨_, rfl, _, rfl, .inr (.inl ⟨ax, xs, _, vx, rfl, rfl, same_tup sm sx, at_of (j := i) (by omega) ex, ?_⟩)⟩
          refine ⟨_, rfl, _, rfl, .inr (.inl ⟨ay, ys, _, vy, rfl, rfl, same_tup sm sy, at_of (j := i) (by omega) ey, ?_⟩)⟩
          refine ⟨vx, vy, ds[i], rfl, dp_same sm _ _ dx, dp_same sm _ _ dy, List.all_eq_true.mp hd'.2 _ (List.getElem_mem hi), fun H2 s2 => ⟨_, s2.k eD, ?_, same_mut (sm.trans s2) hD (s2.lst eD), ?_⟩⟩
          · rw [List.length_replicate]
            exact szl (by omega)
          · rw [upd_same, ← List.replicate_succ']
        · rintro H' ⟨sm, eD⟩
          rw [ly] at eD
          refine ⟨D, List.replicate ds.length true, rfl, SqL.of (by rw [eD, List.map_replicate]), ?_⟩
          rw [rep_all]
          exact q H' sm
      | dict _ => cases hd
theorem ok_l_same {f : Addr} {fd : FuncData} (F : Fun K "_law_same" "_law_same" s_l_same f fd) (B : Bn mg) (g : mg "_law_same" = some (.ref f)) (b : Binds K fd ["_law_found", "_law_due"] []) :
    FnOk P w K mg base CX0 6 f fd ["_law_found", "_law_due"] (sp_l_same K T) := ok_l_same_n F B g b 5

def mixF (c : Int) : Int := if c < 10 ^ 18 then
    (let one := (c * 48271 + 11) % 2147483647
     let two := (one * one + 40692 * one + c) % 2147483399
     let six := (two * 69621 + one) % 1000000007
     two + 2147483399 * (six + 1000000007 * one)) else c - 10 ^ 18
def drF : Int → List Int → List Int
  | _, [] => []
  | c, q :: qs => c % q :: drF (c / q) qs
def cuF : Int → List Int → Int
  | c, [] => c
  | c, q :: qs => cuF (c / q) qs
theorem drF_snoc : ∀ (c : Int) (qs : List Int) (q : Int), drF c (qs ++ [q]) = drF c qs ++ [cuF c qs % q]
  | _, [], _ => rfl
  | c, a :: qs, q => by
    show c % a :: drF (c / a) (qs ++ [q]) = c % a :: drF (c / a) qs ++ [_]
    rw [drF_snoc]
    rfl
theorem cuF_snoc : ∀ (c : Int) (qs : List Int) (q : Int), cuF c (qs ++ [q]) = cuF c qs / q
  | _, [], _ => rfl
  | c, a :: qs, q => cuF_snoc (c / a) qs q
theorem drF_len : ∀ (c : Int) (qs : List Int), (drF c qs).length = qs.length
  | _, [] => rfl
  | c, _ :: qs => congrArg (· + 1) (drF_len _ qs)
theorem drF_drawn : ∀ (c : Int) (qs : List Int), (∀ q ∈ qs, 0 < q) → Drawn (drF c qs) qs
  | _, [], _ => trivial
  | c, a :: qs, h => ⟨⟨Int.emod_nonneg _ (by have := h a List.mem_cons_self; omega), Int.emod_lt_of_pos _ (h a List.mem_cons_self)⟩, drF_drawn _ qs fun q hq => h q (List.mem_cons_of_mem _ hq)⟩
def sp_l_draws_f (K : PySem.W.Frag) (T : Tb) : Sp := fun vs H Q _ => ∃ (c : Int) (a : Addr) (qs : List Int), vs = [.int c, .ref a] ∧ SqL K H a (qs.map V.int) ∧ qs.length ≤ 1000 ∧ (∀ q ∈ qs, 0 < q ∧ q.natAbs < 2 ^ 100) ∧
  ∀ p H', Sm T H H' → H p = none → H' p = some (.lst ((drF (mixF c) qs).map V.int)) → Q (.ref p) H'
theorem ok_l_draws_f {f : Addr} {fd : FuncData} (F : Fun K "_law_draws" "_law_draws" s_l_draws_f f fd) : FnOk P w K mg base CX0 1 f fd ["_law_cell_here", "_law_parts"] (sp_l_draws_f K T) := by
  refine F.ok sc_l_draws_f (fun vs H Q E h => ?_) (fun cdv A outer s H vs Q E hr h => ?_)
  · obtain ⟨c, a, qs, rfl, _⟩ := h
    rfl
  · obtain ⟨c, a, qs, rfl, hS, hlen, hpos, q⟩ := h
    refine ⟨_, (pss_cons (ps_if (pt_cmpR op_lt (pv 0) (pe_op op_pow pe_int pe_int) (nomark _)) (pss_cons (ps_set (i := 2) sc_l_draws_f.nd rfl (.inl rfl) (pe_op op_mod (pe_op op_add (pe_op op_mul (pv 0) pe_int) pe_int) pe_int))
      (pss_cons (ps_set (i := 3) sc_l_draws_f.nd rfl (.inl rfl) (pe_op op_mod (pe_op op_add (pe_op op_add (pe_op op_mul (pv 2) (pv 2)) (pe_op op_mul pe_int (pv 2))) (pv 0)) pe_int))
      (pss_cons (ps_set (i := 4) sc_l_draws_f.nd rfl (.inl rfl) (pe_op op_mod (pe_op op_add (pe_op op_mul (pv 3) pe_int) (pv 2)) pe_int))
      (pss_one (ps_set (i := 0) sc_l_draws_f.nd rfl (.inl rfl) (pe_op op_add (pv 3) (pe_op op_mul pe_int (pe_op op_add (pv 4) (pe_op op_mul pe_int (pv 2)))))))))) (pss_one (ps_set (i := 0) sc_l_draws_f.nd rfl (.inl rfl) (pe_op op_sub (pv 0) (pe_op op_pow pe_int pe_int)))))
      (pss_cons (ps_set (i := 5) sc_l_draws_f.nd rfl (.inl rfl) (pe_lst pa_nil))
      (pss_cons (ps_for PassesOwn.never rfl (pi_list (pv 1)) (pg_name (i := 6) sc_l_draws_f.nd rfl (.inl rfl))
      (pss_cons (ps_expr (pe_bm PySem.F.plainAttrs_list PySem.F.slot_list_append PySem.F.type_list_append mt_append (pv 5) (pa_cons (pe_op op_mod (pv 0) (pv 6)) pa_nil)))
      (pss_one (ps_set (i := 0) sc_l_draws_f.nd rfl (.inl rfl) (pe_op op_fdivW (pv 0) (pv 6))))))
      (pss_one (ps_ret (pv 5)))))), ?_⟩
    refine seq_if (fun σ' H' => H' = H ∧ ∃ (c1 : Int) (x2 x3 x4 : Option V), σ' = [some (.int c1), some (.ref a), x2, x3, x4, none, none] ∧ mixF c = c1) (fun σ' H' p => ?_) (fun k => ?_)
    · obtain ⟨rfl, c1, x2, x3, x4, rfl, ec⟩ := p
      rw [ec] at q
      refine ⟨Nat.zero_le _, fun o no => ?_⟩
      refine ⟨_, rfl, a, rfl, ⟨_, (same_upd (T := T) no).seq hS⟩, for_list (K := K) (a := a) (xs := qs.map V.int)
        (fun i σ H3 => ∃ (x6 : Option V), σ = [some (.int (cuF c1 (qs.take i))), some (.ref a), x2, x3, x4, some (.ref o), x6] ∧ Sm T H' H3 ∧ H3 o = some (.lst ((drF c1 (qs.take i)).map V.int)))
        ⟨none, rfl, same_upd no, upd_same⟩ (fun i σ H3 _ ⟨_, _, sm, _⟩ => sm.seq hS) ?_ ?_⟩
      · rintro i y σ H3 hi ⟨x6, rfl, sm, eo⟩
        rw [List.getElem?_map] at hi
        obtain ⟨qi, hq, rfl⟩ : ∃ qi, qs[i]? = some qi ∧ V.int qi = y := Option.map_eq_some_iff.mp hi
        have hqm := hpos qi (List.mem_of_getElem? hq)
        have hil : i < qs.length := (List.getElem?_eq_some_iff.mp hq).1
        refine ⟨_, rfl, .inl ⟨rfl, _, SqL.of eo⟩, _, rfl, _, rfl, _, _, rfl, rfl, hqm.1, o, _, _, rfl, rfl, eo, ?_, ?_⟩
        · rw [List.length_map, drF_len, List.length_take]
          exact szl (by omega)
        · refine ⟨_, rfl, _, rfl, _, _, rfl, rfl, wide_div hqm.1 hqm.2 (by decide) (by decide), ?_⟩
          refine ⟨some (.int qi), ?_, same_mut sm no eo, ?_⟩
          · rw [List.take_add_one, hq]
            show _ = [some (V.int (cuF c1 (qs.take i ++ [qi]))), _, _, _, _, _, _]
            rw [cuF_snoc]
            rfl
          · rw [upd_same, List.take_add_one, hq]
            show _ = some (HO.lst ((drF c1 (qs.take i ++ [qi])).map V.int))
            rw [drF_snoc, List.map_append]
            rfl
      · rintro σ H3 ⟨x6, rfl, sm, eo⟩
        rw [List.length_map, List.take_length] at eo
        exact ⟨_, rfl, q o H3 sm no eo⟩
    · have b1 := Int.emod_nonneg (c * 48271 + 11) (show (2147483647 : Int) ≠ 0 by decide)
      have b2 := Int.emod_lt_of_pos (c * 48271 + 11) (show (0 : Int) < 2147483647 by decide)
      refine ⟨_, rfl, _, _, rfl, rfl, ⟨by decide, by decide, by decide⟩, _, _, rfl, rfl, _, rfl, ite2 (fun e => ?_) (fun e => ?_)⟩
      · have ec : c < 10 ^ 18 := of_decide_eq_true e
        refine ⟨_, rfl, _, _, rfl, rfl, .inr ⟨by decide, by decide⟩, _, _, rfl, rfl, _, _, rfl, rfl, (by show (0 : Int) < 2147483647; decide), ?_⟩
        refine ⟨_, rfl, _, rfl, _, _, rfl, rfl, .inl ⟨by omega, by omega⟩, ?_⟩
        refine ⟨_, rfl, _, _, rfl, rfl, .inl ⟨by decide, by decide⟩, _, _, rfl, rfl, _, rfl, _, _, rfl, rfl, _, _, rfl, rfl, (by show (0 : Int) < 2147483399; decide), ?_⟩
        refine ⟨_, rfl, _, _, rfl, rfl, .inr ⟨by decide, by decide⟩, _, rfl, _, _, rfl, rfl, _, _, rfl, rfl, (by show (0 : Int) < 1000000007; decide), ?_⟩
        refine ⟨_, rfl, _, rfl, _, rfl, _, _, rfl, rfl, .inl ⟨by decide, by decide⟩, _, _, rfl, rfl, _, _, rfl, rfl, .inl ⟨by decide, by decide⟩, _, _, rfl, rfl, ?_⟩
        refine k _ _ ⟨rfl, _, _, _, _, rfl, ?_⟩
        unfold mixF
        rw [if_pos ec]
      · have ec : ¬ c < 10 ^ 18 := fun z => e (decide_eq_true z)
        refine ⟨_, rfl, _, _, rfl, rfl, ⟨by decide, by decide, by decide⟩, _, _, rfl, rfl, ?_⟩
        refine k _ _ ⟨rfl, _, _, _, _, rfl, ?_⟩
        unfold mixF
        rw [if_neg ec]
        rfl

/-- a text times a number -/
theorem op_repS {X : Cx} : OpR X (binaryOp .Mult) (fun x y H Q => ∃ i n, x = .str i ∧ y = .int n ∧ MulOk i n ∧ Q (.str (Txt.mul i n)) H) := by
  intro pins s σ H x y v u Q I rx ry h
  obtain ⟨i, n, rfl, rfl, hk, q⟩ := h
  obtain ⟨t, rfl⟩ := rx
  obtain ⟨t', rfl⟩ := ry
  exact SB.mul hk (fun t' k => ⟨.str _, H, I.tok _, ⟨_, rfl⟩, q⟩)

def ABC : Str := "abcdefghijklmnopqrstuvwxyz"
def chF (i : Int) : Str := ⟨#[97 + i.toNat]⟩
theorem abc_at {i : Int} (h0 : 0 ≤ i) (h1 : i < 26) : atI ABC.cps.toList i = some (97 + i.toNat) := by
  have h : ∀ n : Fin 26, atI ABC.cps.toList ((n.val : Nat) : Int) = some (97 + n.val) := by decide +kernel
  have := h ⟨i.toNat, by omega⟩
  rw [show (((⟨i.toNat, by omega⟩ : Fin 26).val : Nat) : Int) = i from by show ((i.toNat : Nat) : Int) = i; omega] at this
  exact this
theorem abc_len : ABC.length ≤ sizeLine := by decide +kernel
theorem ch_len (i : Int) : (chF i).length = 1 := rfl
theorem mul_ok {i n : Int} (h0 : 0 ≤ n) (h1 : n < 4) : MulOk (chF i) n := by
  refine ⟨by rw [decide_eq_false (by omega), decide_eq_false (by omega)]; rfl, fun h _ z => ?_, fun h _ => ?_⟩
  · rw [ch_len] at z
    rcases (by omega : n = 1 ∨ n = 2 ∨ n = 3) with rfl | rfl | rfl <;> exact absurd z (by decide)
  · rw [ch_len]
    rcases (by omega : n = 1 ∨ n = 2 ∨ n = 3) with rfl | rfl | rfl <;> decide
theorem mul_cps {i n : Int} (h0 : 0 ≤ n) (h1 : n < 4) : (Txt.mul (chF i) n).cps.toList = List.replicate n.toNat (97 + i.toNat) := by
  rcases (by omega : n = 0 ∨ n = 1 ∨ n = 2 ∨ n = 3) with rfl | rfl | rfl | rfl <;> rfl
def nmF (a b c d : Int) (k : Nat) : Str := Txt.mul (chF c) a ++ (chF ((7 * (k : Int) + d) % 26) ++ chF ((d + (k : Int) / 26) % 26)) ++ Txt.mul (chF c) b
def nameF (k : Nat) (salt : Int) : Str := match drF (mixF salt) [4, 4, 26, 26] with
  | [a, b, c, d] => nmF a b c d k
  | _ => ""
theorem name_dr (salt : Int) : ∃ a b c d, drF (mixF salt) [4, 4, 26, 26] = [a, b, c, d] ∧ (0 ≤ a ∧ a < 4) ∧ (0 ≤ b ∧ b < 4) ∧ (0 ≤ c ∧ c < 26) ∧ (0 ≤ d ∧ d < 26) := by
  have hd := drF_drawn (mixF salt) [4, 4, 26, 26] (by decide)
  generalize drF (mixF salt) [4, 4, 26, 26] = ds at hd
  obtain ⟨d1, r1, rfl, h10, h11, hd⟩ := hd.cons
  obtain ⟨d2, r2, rfl, h20, h21, hd⟩ := hd.cons
  obtain ⟨d3, r3, rfl, h30, h31, hd⟩ := hd.cons
  obtain ⟨d4, r4, rfl, h40, h41, hd⟩ := hd.cons
  obtain rfl := hd.nil
  exact ⟨d1, d2, d3, d4, rfl, ⟨h10, h11⟩, ⟨h20, h21⟩, ⟨h30, h31⟩, ⟨h40, h41⟩⟩
theorem str_app (x y : Str) : (x ++ y).cps.toList = x.cps.toList ++ y.cps.toList := by
  show (x.cps ++ y.cps).toList = _
  exact Array.toList_append
theorem nm_cps {a b c d : Int} {k : Nat} (ha : 0 ≤ a ∧ a < 4) (hb : 0 ≤ b ∧ b < 4) : (nmF a b c d k).cps.toList = List.replicate a.toNat (97 + c.toNat) ++ ([97 + ((7 * (k : Int) + d) % 26).toNat, 97 + ((d + (k : Int) / 26) % 26).toNat] ++ List.replicate b.toNat (97 + c.toNat)) := by
  unfold nmF
  rw [str_app, str_app, str_app, mul_cps ha.1 ha.2, mul_cps hb.1 hb.2, List.append_assoc]
  rfl
theorem str_len (x : Str) : x.length = x.cps.toList.length := rfl
theorem name_ok (k : Nat) (salt : Int) : nameB (nameF k salt) = true ∧ (nameF k salt).length ≤ 8 := by
  obtain ⟨a, b, c, d, e, ha, hb, hc, hd⟩ := name_dr salt
  unfold nameF
  rw [e]
  show nameB (nmF a b c d k) = true ∧ (nmF a b c d k).length ≤ 8
  have hl : (nmF a b c d k).length = a.toNat + (2 + b.toNat) := by
    rw [str_len, nm_cps ha hb, List.length_append, List.length_append, List.length_replicate, List.length_replicate]
    rfl
  have let_ : ∀ n : Fin 26, letB (97 + n.val) = true := by decide +kernel
  have l1 : ∀ z : Int, 0 ≤ z → z < 26 → letB (97 + z.toNat) = true := fun z h0 h1 => let_ ⟨z.toNat, by omega⟩
  refine ⟨?_, by omega⟩
  unfold nameB
  rw [decide_eq_true (by omega), decide_eq_true (by omega), nm_cps ha hb, List.all_append, List.all_append, List.all_replicate, List.all_replicate, l1 c hc.1 hc.2]
  have m1 := l1 _ (Int.emod_nonneg (7 * (k : Int) + d) (show (26 : Int) ≠ 0 by decide)) (Int.emod_lt_of_pos _ (by decide))
  have m2 := l1 _ (Int.emod_nonneg (d + (k : Int) / 26) (show (26 : Int) ≠ 0 by decide)) (Int.emod_lt_of_pos _ (by decide))
  simp [m1, m2]
theorem name_inj {k l : Nat} {salt : Int} (hk : k < 26) (hl : l < 26) (h : nameF k salt = nameF l salt) : k = l := by
  obtain ⟨a, b, c, d, e, ha, hb, hc, hd⟩ := name_dr salt
  unfold nameF at h
  rw [e] at h
  have h : nmF a b c d k = nmF a b c d l := h
  have h2 : (nmF a b c d k).cps.toList = (nmF a b c d l).cps.toList := by rw [h]
  rw [nm_cps ha hb, nm_cps ha hb] at h2
  have h3 := List.append_cancel_left h2
  have h4 : 97 + ((7 * (k : Int) + d) % 26).toNat = 97 + ((7 * (l : Int) + d) % 26).toNat := (List.cons.inj h3).1
  omega
def sp_l_name (K : PySem.W.Frag) (T : Tb) : Sp := fun vs H Q _ => ∃ (k : Nat) (salt : Int), vs = [.int k, .int salt] ∧ k ≤ 1000 ∧ ∀ H', Sm T H H' → Q (.str (nameF k salt)) H'
theorem ok_l_name {f : Addr} {fd : FuncData} (F : Fun K "_law_name" "_law_name" s_l_name f fd) (F_l_draws_f : Fn P w K mg base 1 "_law_draws" ["_law_cell_here", "_law_parts"] (sp_l_draws_f K T)) : FnOk P w K mg base CX0 2 f fd ["_law_k", "_law_salt"] (sp_l_name K T) := by
  refine F.ok sc_l_name (fun vs H Q E h => ?_) (fun cdv A outer s H vs Q E hr h => ?_)
  · obtain ⟨k, salt, rfl, _⟩ := h
    rfl
  · obtain ⟨k, salt, rfl, hk, q⟩ := h
    refine ⟨_, (pss_cons (ps_set (i := 2) sc_l_name.nd rfl (.inl rfl) pe_str)
      (pss_cons (ps_asg (pe_fn F_l_draws_f (hr.mono (by decide)) (pa_cons (pv 1) (pa_cons (pe_lst (pa_cons pe_int (pa_cons pe_int (pa_cons pe_int (pa_cons pe_int pa_nil))))) pa_nil))) (pg_unl rfl (pgs_cons (pg_name (i := 3) sc_l_name.nd rfl (.inl rfl)) (pgs_cons (pg_name (i := 4) sc_l_name.nd rfl (.inl rfl)) (pgs_cons (pg_name (i := 5) sc_l_name.nd rfl (.inl rfl)) (pgs_cons (pg_name (i := 6) sc_l_name.nd rfl (.inl rfl)) pgs_nil))))))
      (pss_cons (ps_set (i := 7) sc_l_name.nd rfl (.inl rfl) (pe_op op_add_str (pe_ix ix_str (pv 2) (pe_op op_mod (pe_op op_add (pe_op op_mul pe_int (pv 0)) (pv 6)) pe_int) (fun _ _ => rfl)) (pe_ix ix_str (pv 2) (pe_op op_mod (pe_op op_add (pv 6) (pe_op op_fdivW (pv 0) pe_int)) pe_int) (fun _ _ => rfl))))
      (pss_one (ps_ret (pe_op op_add_str (pe_op op_add_str (pe_op op_repS (pe_ix ix_str (pv 2) (pv 5) (fun _ _ => rfl)) (pv 3)) (pv 7)) (pe_op op_repS (pe_ix ix_str (pv 2) (pv 5) (fun _ _ => rfl)) (pv 4)))))))), ?_⟩
    obtain ⟨a, b, c, d, ed, ha, hb, hc, hd⟩ := name_dr salt
    refine ⟨_, rfl, by show 4 ≤ sizeLine; decide, fun l1 n1 => ?_⟩
    have u1 := same_upd (T := T) (o := .lst [.int 4, .int 4, .int 26, .int 26]) n1
    refine ⟨salt, l1, [4, 4, 26, 26], rfl, SqL.of upd_same, by decide, by decide, fun p2 H2 s2 np2 e2 => ?_⟩
    rw [ed] at e2
    refine ⟨p2, _, rfl, SqL.of e2, rfl, _, _, rfl, _, _, rfl, _, _, rfl, _, _, rfl, rfl, ?_⟩
    have m1 := Int.emod_nonneg (7 * (k : Int) + d) (show (26 : Int) ≠ 0 by decide)
    have m2 := Int.emod_lt_of_pos (7 * (k : Int) + d) (show (0 : Int) < 26 by decide)
    have m3 := Int.emod_nonneg (d + (k : Int) / 26) (show (26 : Int) ≠ 0 by decide)
    have m4 := Int.emod_lt_of_pos (d + (k : Int) / 26) (show (0 : Int) < 26 by decide)
    have q' : Q (.str (nmF a b c d k)) H2 := by
      have := q H2 (u1.trans s2)
      unfold nameF at this
      rw [ed] at this
      exact this
    have z1 : (Txt.mul (chF c) a).length ≤ 3 := by rw [str_len, mul_cps ha.1 ha.2, List.length_replicate]; omega
    have z2 : (Txt.mul (chF c) b).length ≤ 3 := by rw [str_len, mul_cps hb.1 hb.2, List.length_replicate]; omega
    have z3 : ∀ x y : Str, (x ++ y).length = x.length + y.length := fun x y => by rw [str_len, str_app, List.length_append]; rfl
    refine ⟨_, rfl, _, rfl, _, _, rfl, rfl, .inl ⟨by decide, by decide⟩, _, rfl, _, _, rfl, rfl, _, _, rfl, rfl, (by show (0 : Int) < 26; decide), ABC, _, _, rfl, rfl, abc_len, abc_at m1 m2, ?_⟩
    refine ⟨_, rfl, _, rfl, _, rfl, _, _, rfl, rfl, wide_div (b := 100) (by decide) (by decide) (by decide) (by decide), _, _, rfl, rfl, _, _, rfl, rfl, (by show (0 : Int) < 26; decide), ABC, _, _, rfl, rfl, abc_len, abc_at m3 m4, _, _, rfl, rfl, by show 2 ≤ sizeLine; decide, ?_⟩
    refine ⟨_, rfl, _, rfl, ABC, _, _, rfl, rfl, abc_len, abc_at hc.1 hc.2, _, rfl, chF c, a, rfl, rfl, mul_ok ha.1 ha.2, _, rfl, _, _, rfl, rfl, sz (by rw [z3]; show (Txt.mul (chF c) a).length + 2 ≤ _; omega), ?_⟩
    refine ⟨_, rfl, _, rfl, ABC, _, _, rfl, rfl, abc_len, abc_at hc.1 hc.2, _, rfl, chF c, b, rfl, rfl, mul_ok hb.1 hb.2, _, _, rfl, rfl, sz (by rw [z3, z3]; show (Txt.mul (chF c) a).length + 2 + (Txt.mul (chF c) b).length ≤ _; omega), q'⟩

def sp_l_split (K : PySem.W.Frag) (T : Tb) : Sp := fun vs H Q _ => ∃ (c : Int) (n : Nat), vs = [.int c, .int n] ∧ n ≤ 100 ∧
  ∀ p H' (zs : List Int), Sm T H H' → H p = none → H' p = some (.lst (zs.map V.int)) → zs.length = n → Q (.ref p) H'
theorem ok_l_split {f : Addr} {fd : FuncData} (F : Fun K "_law_split" "_law_split" s_l_split f fd) (B : Bn mg) : FnOk P w K mg base CX0 1 f fd ["_law_cell_here", "_law_many"] (sp_l_split K T) := by
  refine F.ok sc_l_split (fun vs H Q E h => ?_) (fun cdv A outer s H vs Q E hr h => ?_)
  · obtain ⟨c, n, rfl, _⟩ := h
    rfl
  · obtain ⟨c, n, rfl, hn, q⟩ := h
    refine ⟨_, (pss_cons (ps_set (i := 2) sc_l_split.nd rfl (.inl rfl) (pe_lst pa_nil))
      (pss_cons (ps_set (i := 3) sc_l_split.nd rfl (.inl rfl) (pe_cmpR op_ge (pv 0) (pe_op op_pow pe_int pe_int) (nomark _)))
      (pss_cons (ps_for PassesOwn.never rfl (pi_range1 (by rfl) B.range_ (pa_cons (pv 1) pa_nil)) (pg_name (i := 4) sc_l_split.nd rfl (.inl rfl))
      (pss_one (ps_if (pt_val (pv 3)) (pss_cons (ps_expr (pe_bm PySem.F.plainAttrs_list PySem.F.slot_list_append PySem.F.type_list_append mt_append (pv 2) (pa_cons (pe_op op_add (pe_op op_pow pe_int pe_int) (pe_op op_mod (pv 0) (pe_op op_pow pe_int pe_int))) pa_nil)))
      (pss_one (ps_set (i := 0) sc_l_split.nd rfl (.inl rfl) (pe_op op_fdivW (pv 0) (pe_op op_pow pe_int pe_int))))) (pss_one (ps_expr (pe_bm PySem.F.plainAttrs_list PySem.F.slot_list_append PySem.F.type_list_append mt_append (pv 2) (pa_cons (pe_op op_add (pe_op op_mul (pv 0) (pe_op op_add (pe_op op_mul pe_int (pv 4)) pe_int)) (pe_op op_mul pe_int (pv 4))) pa_nil)))))))
      (pss_one (ps_ret (pv 2)))))), ?_⟩
    refine ⟨Nat.zero_le _, fun o no => ?_⟩
    refine ⟨_, rfl, _, _, rfl, rfl, ⟨by decide, by decide, by decide⟩, _, _, rfl, rfl, ?_⟩
    refine ⟨_, rfl, n, rfl, by omega, by omega, for_range (lo := 0) (n := n)
      (fun i σ H3 => ∃ (c : Int) (b : Bool) (x4 : Option V) (zs : List Int), σ = [some (.int c), some (.int n), some (.ref o), some (.bl b), x4] ∧ Sm T H H3 ∧ H3 o = some (.lst (zs.map V.int)) ∧ zs.length = i)
      ⟨c, _, none, [], rfl, same_upd no, upd_same, rfl⟩ ?_ ?_⟩
    · rintro i σ H3 hi ⟨c, b, x4, zs, rfl, sm, eo, hl⟩
      have hs : (zs.map V.int).length < sizeLine := by
        rw [List.length_map]
        exact szl (by omega)
      refine ⟨_, rfl, _, rfl, ?_⟩
      cases b with
      | true =>
        refine iteT ?_
        refine ⟨_, rfl, .inl ⟨rfl, _, SqL.of eo⟩, _, _, rfl, rfl, ⟨by decide, by decide, by decide⟩, _, rfl, _, _, rfl, rfl, ⟨by decide, by decide, by decide⟩, _, _, rfl, rfl, (by show (0 : Int) < 10 ^ 30; decide), _, _, rfl, rfl, o, _, _, rfl, rfl, eo, hs, ?_⟩
        refine ⟨_, rfl, _, _, rfl, rfl, ⟨by decide, by decide, by decide⟩, _, _, rfl, rfl, wide_div (b := 200) (by show (0 : Int) < 10 ^ 30; decide) (by decide) (by decide) (by decide), ?_⟩
        refine ⟨_, true, _, zs ++ [10 ^ (18 : Int).toNat + c % 10 ^ (30 : Int).toNat], rfl, same_mut sm no eo, ?_, ?_⟩
        · rw [upd_same, List.map_append]
          rfl
        · rw [List.length_append, hl]
          rfl
      | false =>
        refine iteF ?_
        refine ⟨_, rfl, .inl ⟨rfl, _, SqL.of eo⟩, _, rfl, _, rfl, _, _, rfl, rfl, .inl ⟨by decide, by decide⟩, _, _, rfl, rfl, _, _, rfl, rfl, .inr ⟨by omega, by omega⟩, _, rfl, _, _, rfl, rfl, .inl ⟨by decide, by decide⟩, _, _, rfl, rfl, o, _, _, rfl, rfl, eo, hs, ?_⟩
        refine ⟨_, false, _, zs ++ [c * (2 * (0 + (i : Int)) + 3) + 7919 * (0 + (i : Int))], rfl, same_mut sm no eo, ?_, ?_⟩
        · rw [upd_same, List.map_append]
          rfl
        · rw [List.length_append, hl]
          rfl
    · rintro σ H3 ⟨c, b, x4, zs, rfl, sm, eo, hl⟩
      exact ⟨_, rfl, q o H3 zs sm no eo hl⟩

/-! ### the end of a law whose program raises, with tables of code objects -/
theorem walk_tabs {l : PySem.W.OpenLaw} {n k : Nat} {q : Program} {loose : List Str} {XP : (Str → Option Value) → Heap → Prop} {YP : World → Heap → Prop} {d : DefRec} {K : Params → PySem.W.Frag} {CX : World → CXT} {x : Str}
    (hn : l.most = some n) (hn2 : n ≤ sizeLine) (hdf : d.params.defaults = []) (hr : Room k callerA) (hY : ∀ (w : World) (h : Heap), YP w h → (K w.params).In h)
    (F : ∀ (w : World) (mg : Str → Option Value) (fa : Addr) (h : Heap), YP w h → (K w.params).In h → h.Ns mainGlobals mg → mg d.name = some (.ref fa) →
      (∀ (y : Str) (c P : Addr), ((recsOf q).any fun e => e.name == y) = true → PySem.W.tabIn (K w.params) y = some (c, P) → PySem.W.CodeHd h c P ∧ h.get? P = some { cls := .none, data := .fields #[] }) → LamX.LawAtS l w (K w.params) (CX w) k n x mg fa h)
    (hCX : ∀ (w : World) (H : Hp) (s : Shared) (e : Value) (s' : Shared), CX w [] H s (fun _ _ _ => False) e s' → False) :
    PySem.W.WalkO q loose XP YP l.row.toRowW d [] (fun f vs => PySem.call f vs) := by
  refine Att.attach_callB hn hdf fun w s₀ s₁ mg mb fa o pm cd doc a vs ns G Y ho hd hcd hmg hobj hints hlen hbits hg => ?_
  have KX := hY w _ Y
  have tabs : ∀ (y : Str) (c P : Addr), ((recsOf q).any fun e => e.name == y) = true → PySem.W.tabIn (K w.params) y = some (c, P) → PySem.W.CodeHd s₁.heap c P ∧ s₁.heap.get? P = some { cls := .none, data := .fields #[] } := fun y c P ha ht => by
    cases hf : (recsOf q).find? (fun e => e.name == y) with
    | none =>
      obtain ⟨e, he, hy⟩ := List.any_eq_true.mp ha
      exact absurd hy (List.find?_eq_none.mp hf e he)
    | some e => exact PySem.W.tab_of G.T KX hf ht
  obtain ⟨fd, cs, sp, hT, nT, C, hb, hsp, hF⟩ := F w mg fa _ Y KX G.T.g hmg tabs
  exact LamX.law_callTs KX G.T.g G.T.b G.T.builtins G.T.nolimit hg hT nT C G.T.bmain hobj hints (Nat.le_trans hlen hn2) hr hF hb (fun H hH hS => hsp H a ns hlen hbits hH hS) fun H e s' => hCX w H s₁ e s'
theorem tab_in {K : PySem.W.Frag} {y : Str} {f c P : Addr} {o : Obj} {fd : FuncData} {e : Value} {dd : Option Addr} {vs : Array Value} {sl : Array (Option Value)} (h1 : PySem.W.nsIn K mainGlobals y = some (some (.ref f))) (h2 : K.lookup f = some o) (h3 : o.data = .func fd) (h4 : fd.code = .ref c)
    (h5 : K.lookup c = some ⟨e, dd, .fields vs, sl⟩) (h6 : vs[11]? = some (.ref P)) : PySem.W.tabIn K y = some (c, P) := by
  obtain ⟨o1, o2, o3, o4⟩ := o
  obtain rfl : o3 = .func fd := h3
  unfold PySem.W.tabIn
  simp only [h1, h2, h4, h5, h6]
theorem okG0 {H : Hp} {P : Addr} (h : H P = some (.tbl #[])) : OkP H (P, none) := ⟨#[], h, by first | trivial | constructor⟩
theorem okS0 {H : Hp} {P : Addr} {q : Str} (h : H P = some (.tbl #[])) : OkP H (P, some q) := ⟨#[], h, by first | trivial | constructor, fun pos cv e => by cases e⟩
theorem tup_const {K : PySem.W.Frag} {a : Addr} {od : Option Addr} {xs : List V} {its : Array Value} {n : Nat} {sl : Array (Option Value)} (h : K.lookup a = some ⟨.type "tuple", od, .seq its n, sl⟩) (hs : its.size ≤ sizeLine) (hv : Vals xs its.toList) : ∀ H, SqT K H a xs := fun _ => .inr ⟨_, its, n, h, rfl, rfl, hs, hv⟩
theorem gx_lam {base : Heap} {mg : Str → Option Value} {c P : Addr} (h : LamX.TabB base mg c P) : GxR.TabB base mg c P := ⟨h.code, h.bm, h.gP⟩

theorem num_of {K : PySem.W.Frag} {f : Addr} {fd : FuncData} (F : Fun K "is_number" "is_number" s_p_is_number f fd) : NumAt K f := by
  obtain ⟨oc, od, kV, doc, pm, an, cdv, ct, osl, rfl, lk, hcg⟩ := F.ex
  exact ⟨oc, od, kV, doc, pm, an, cdv, ct, osl, _, _, _, _, _, _, _, _, _, _, _, _, lk, hcg⟩
theorem with_of {K : PySem.W.Frag} {f : Addr} {fd : FuncData} (F : Fun K "is_within" "is_within" s_p_is_within f fd) : WithAt K f := by
  obtain ⟨oc, od, kV, doc, pm, an, cdv, ct, osl, rfl, lk, hcg⟩ := F.ex
  exact ⟨oc, od, kV, doc, pm, an, cdv, ct, osl, _, _, _, _, _, _, _, _, _, _, _, _, lk, hcg⟩

theorem getL_mem {α : Type} {l : List (Str × α)} {n : Str} {a : α} (h : getL l n = some a) : (n, a) ∈ l := by
  unfold getL at h
  obtain ⟨y, hy, rfl⟩ := Option.map_eq_some_iff.mp h
  have hm := List.mem_of_find?_eq_some hy
  have hk : y.1 = n := by have := List.find?_some hy; simpa using this
  rw [← hk]
  exact hm
theorem getL_of {α : Type} {l : List (Str × α)} (nd : (l.map (·.1)).Nodup) {y : Str × α} (h : y ∈ l) : getL l y.1 = some y.2 := by
  induction l with
  | nil => cases h
  | cons x l ih =>
    rw [List.map_cons, List.nodup_cons] at nd
    unfold getL
    rw [List.find?_cons]
    rcases List.mem_cons.mp h with e | e
    · subst e
      rw [decide_eq_true rfl]
      rfl
    · have hx : ¬ x.1 = y.1 := fun z => nd.1 (by rw [z]; exact List.mem_map_of_mem e)
      rw [decide_eq_false hx]
      exact ih nd.2 e
theorem getL_key {α : Type} {l : List (Str × α)} {n : Str} (h : n ∈ l.map (·.1)) : ∃ a, getL l n = some a := by
  cases e : getL l n with
  | some a => exact ⟨a, rfl⟩
  | none =>
    obtain ⟨y, hy, rfl⟩ := List.mem_map.mp h
    unfold getL at e
    rw [Option.map_eq_none_iff, List.find?_eq_none] at e
    exact absurd (decide_eq_true rfl) (e y hy)

/-! ### the law asks a yard -/
/-- a yard that stands as g, its own two things y and q -/
def YS (K : PySem.W.Frag) (CC CG CY : Addr) (H : Hp) (y q : Addr) (g : GdS) (n : Nat) : Prop := ∃ Z dn un, Z.dn = q ∧ YdAt K CC CG CY H y Z dn un ∧ gdOf dn = g ∧ dn.length ≤ n
theorem YS.sm {CC CG CY : Addr} {H H' : Hp} {y q : Addr} {g : GdS} {n : Nat} (h : YS K CC CG CY H y q g n) (s : Sm T H H') : YS K CC CG CY H' y q g n := by
  obtain ⟨Z, dn, un, e, h, e2, l⟩ := h
  exact ⟨Z, dn, un, e, h.sm s, e2, l⟩
theorem YS.not {CC CG CY : Addr} {H : Hp} {y q : Addr} {g : GdS} {n : Nat} (h : YS K CC CG CY H y q g n) {a : Addr} (ha : H a = none) : a ∉ [y, q] := by
  obtain ⟨Z, dn, un, rfl, h, _⟩ := h
  intro z
  refine h.new ha (List.mem_append_left _ ?_)
  simp only [List.mem_cons, List.not_mem_nil, or_false] at z
  rcases z with rfl | rfl <;> simp [ownY]
def Sm2 (T : Tb) (y q : Addr) (H H' : Hp) : Prop := Sx T [y, q] H H'
def sp_l_yard_ask (K : PySem.W.Frag) (T : Tb) (CC CG CY : Addr) : Sp := fun vs H Q _ => ∃ (y q : Addr) (g : GdS) (n : Nat) (a : Addr) (d : Dy), vs = [.ref y, .ref a] ∧ YS K CC CG CY H y q g n ∧ Dp K H (.ref a) d.data ∧ d.small ∧ FitG g ∧ d.fit g ∧ n ≤ 4000 ∧ Ok T H ∧
  (d.W g = none → ∀ p H', Sx T [y, q] H H' → YS K CC CG CY H' y q (d.S g) (n + 1) → H' p = some (.tup [.str "told", d.A g]) → Q (.ref p) H') ∧
  (∀ wd, d.W g = some wd → ∀ p H', Sm T H H' → H' p = some (.tup [.str wd]) → Q (.ref p) H')
theorem ok_l_yard_ask {f : Addr} {fd : FuncData} {c PT : Addr} (F : FunC K "_law_yard_ask" "_law_yard_ask" s_l_yard_ask f fd c) (hnT : (T.map (·.1)).Nodup) (hPT : (PT, some (("_law_yard_ask" : Str) ++ ".<locals>." ++ "<lambda>")) ∈ T) (TB : LamX.TabB base mg c PT) {CP : Addr} (W : Word K mg CP) {CC : Addr} {CG : Addr} {CY : Addr} (TY : KlY K CY) (MY_do : Mx P w K mg base CY 22 "do" ["self", "deed"] (sp_p_Yard_do K T CP CC CG CY)) : FnOk P w K mg base CX0 30 f fd ["_law_yard", "_law_deed"] (sp_l_yard_ask K T CC CG CY) := by
  refine F.ok sc_l_yard_ask (fun vs H Q E h => ?_) (fun A outer s H vs Q E hr h => ?_)
  · obtain ⟨y, q, g, n, a, d, rfl, _⟩ := h
    rfl
  · obtain ⟨y, q, g, n, a, d, rfl, ⟨Z, dn, un, rfl, h, rfl, hl⟩, hd, hs, ft, fd, hn, hok, k1, k2⟩ := h
    refine ⟨_, (pss_one (ps_ret (pe_word (k := 26) W hnT (by rfl) TB rfl hPT (hr.mono (by decide)) (LamX.lamS_by (sc := defScope s_l_yard_ask) (by decide +kernel)) rfl (fun _ _ _ _ _ => rfl) (fun A outer s H E f c' hr => (pe_mx (E := E) MY_do TY.cl (hr.mono (by decide)) (takes_of rfl rfl rfl rfl) (pv 0) (pa_cons (pv 1) pa_nil)))))), ?_⟩
    refine ⟨hok _ hPT, fun H1 s1 => ?_⟩
    have h1 := h.sm s1
    refine ⟨_, rfl, y, _, _, rfl, h1.ins, fy_no (by decide +kernel), _, rfl, y, Z, dn, un, a, d, rfl, h1, dp_same s1 _ _ hd, hs, ft, fd, by omega, s1.ok hok, fun z H2 B2 x2 h2 fr2 e2 => ⟨by show 2 ≤ sizeLine; decide, fun p np => ?_⟩, fun wd z cls dd H' s' rf => ⟨wd, rf, fun p np => k2 wd z p _ (s1.trans (s'.trans (same_upd np))) upd_same⟩⟩
    have u3 := same_upd (T := T) (o := HO.tup [V.str "told", d.A (gdOf dn)]) np
    refine k1 z p _ ((s1.sx.step x2).sm' u3) ⟨B2, _, [], e2, h2.sm u3, ?_, by rw [List.length_append]; show _ + 1 ≤ _; omega⟩ upd_same
    unfold gdOf
    rw [List.getLast?_concat]
    rfl

/-! ### the yard of thirty hands -/
theorem name_inj2 {k l : Nat} {salt : Int} (hk : k < 600) (hl : l < 600) (h : nameF k salt = nameF l salt) : k = l := by
  obtain ⟨a, b, c, d, e, ha, hb, hc, hd⟩ := name_dr salt
  unfold nameF at h
  rw [e] at h
  have h : nmF a b c d k = nmF a b c d l := h
  have h2 : (nmF a b c d k).cps.toList = (nmF a b c d l).cps.toList := by rw [h]
  rw [nm_cps ha hb, nm_cps ha hb] at h2
  have h3 := List.append_cancel_left h2
  have h4 : 97 + ((7 * (k : Int) + d) % 26).toNat = 97 + ((7 * (l : Int) + d) % 26).toNat := (List.cons.inj h3).1
  have h5 : 97 + ((d + (k : Int) / 26) % 26).toNat = 97 + ((d + (l : Int) / 26) % 26).toNat := (List.cons.inj (List.cons.inj h3).2).1
  have e4 : (7 * (k : Int) + d) % 26 = (7 * (l : Int) + d) % 26 := by omega
  have e5 : (d + (k : Int) / 26) % 26 = (d + (l : Int) / 26) % 26 := by omega
  have f4 : (k : Int) % 26 = (l : Int) % 26 := by omega
  have f4' := f4
  have g1 : (k : Int) / 26 < 24 := by omega
  have g2 : (l : Int) / 26 < 24 := by omega
  have g3 : 0 ≤ (k : Int) / 26 := by omega
  have g4 : 0 ≤ (l : Int) / 26 := by omega
  clear f4 e4 h5 h4 h3 h2 h
  have f5 : (k : Int) / 26 = (l : Int) / 26 := by
    generalize (k : Int) / 26 = x at *
    generalize (l : Int) / 26 = z at *
    omega
  omega
theorem name_ne (k : Nat) (salt : Int) : nameF k salt ≠ "" := fun z => by
  have := (name_ok k salt).1
  rw [z] at this
  exact absurd this (by decide +kernel)
theorem getL_no {α : Type} {l : List (Str × α)} {n : Str} (h : n ∉ l.map (·.1)) : getL l n = none := by
  cases e : getL l n with
  | none => rfl
  | some a => exact absurd (List.mem_map_of_mem (f := (·.1)) (getL_mem e)) h
theorem putL_new {α : Type} {l : List (Str × α)} {n : Str} {a : α} (h : n ∉ l.map (·.1)) : putL l n a = l ++ [(n, a)] := by
  unfold putL
  rw [if_neg]
  intro z
  obtain ⟨x, hx, e⟩ := List.any_eq_true.mp z
  exact h (List.mem_map.mpr ⟨x, hx, of_decide_eq_true e⟩)
section
variable (salt : Int) (d0 d2 d3 : Nat)
def hn (i : Nat) : Str := nameF ((i * 7 + d0) % 30) salt
def pcN (i : Nat) : Int := 1 + ((i : Int) + (d2 : Int)) % 12
def tmK (k : Nat) : List (Str × Int) := (List.range k).map fun i => (hn salt d0 i, pcN d2 i)
def wyK (i : Nat) : List Am := [(1 + (i : Int), 2)]
def lyK (k : Nat) : List Ch := (List.range k).map fun i => newS (labourM (wyK i)) (wyK i)
def psK (k : Nat) : List (Str × Int) := (List.range k).map fun i => (hn salt d0 i, (d3 : Int))
def enC : Nat → Ch
  | 0 => newS (labourM (wyK d3)) (wyK d3)
  | k + 1 => enterS (enC k) (hn salt d0 k) (pcN d2 k)
def gA (k : Nat) : GdS := { gd0 with tempos := tmK salt d0 d2 k }
def gB (k : Nat) : GdS := { gA salt d0 d2 30 with laid := lyK k }
def gC (k : Nat) : GdS := { gB salt d0 d2 4 with posts := psK salt d0 d3 k, laid := (lyK 4).set d3 (enC salt d0 d2 d3 k) }
end
section
variable {salt : Int} {d0 d2 d3 : Nat}
theorem hn_inj {i j : Nat} (hi : i < 30) (hj : j < 30) (h : hn salt d0 i = hn salt d0 j) : i = j := by
  have := name_inj2 (by omega) (by omega) h
  omega
theorem hn_no {i : Nat} : hn salt d0 i ≠ nameF 30 salt := fun z => by
  have := name_inj2 (k := (i * 7 + d0) % 30) (l := 30) (by omega) (by omega) z
  omega
theorem pcN_ok (i : Nat) : 1 ≤ pcN d2 i ∧ pcN d2 i ≤ 12 ∧ paceB (pcN d2 i) = true := by
  unfold pcN
  have h1 : 1 ≤ 1 + ((i : Int) + (d2 : Int)) % 12 := by omega
  have h2 : 1 + ((i : Int) + (d2 : Int)) % 12 ≤ 12 := by omega
  exact ⟨h1, h2, by unfold paceB; rw [decide_eq_true h1, decide_eq_true h2]; rfl⟩
theorem tmK_keys (k : Nat) : (tmK salt d0 d2 k).map (·.1) = (List.range k).map (hn salt d0) := by unfold tmK; rw [List.map_map]; rfl
theorem psK_keys (k : Nat) : (psK salt d0 d3 k).map (·.1) = (List.range k).map (hn salt d0) := by unfold psK; rw [List.map_map]; rfl
theorem hns_nd {k : Nat} (hk : k ≤ 30) : ((List.range k).map (hn salt d0)).Nodup := by
  unfold List.Nodup
  rw [List.pairwise_iff_getElem]
  intro i j hi hj hij z
  rw [List.length_map, List.length_range] at hi hj
  rw [List.getElem_map, List.getElem_map, List.getElem_range, List.getElem_range] at z
  have := hn_inj (by omega) (by omega) z
  omega
theorem hn_mem {k j : Nat} (hk : k ≤ 30) (hj : j < 30) : hn salt d0 j ∈ (List.range k).map (hn salt d0) ↔ j < k := by
  constructor
  · intro h
    obtain ⟨i, hi, e⟩ := List.mem_map.mp h
    have hi := List.mem_range.mp hi
    have := hn_inj (by omega) hj e
    omega
  · exact fun h => List.mem_map.mpr ⟨j, List.mem_range.mpr h, rfl⟩
theorem str_mem {k : Nat} : nameF 30 salt ∉ (List.range k).map (hn salt d0) := fun h => by
  obtain ⟨i, _, e⟩ := List.mem_map.mp h
  exact hn_no e
theorem tm_get {k j : Nat} (hk : k ≤ 30) (hj : j < k) : getL (tmK salt d0 d2 k) (hn salt d0 j) = some (pcN d2 j) :=
  getL_of (y := (hn salt d0 j, pcN d2 j)) (by rw [tmK_keys]; exact hns_nd hk) (List.mem_map.mpr ⟨j, List.mem_range.mpr hj, rfl⟩)
theorem tm_no {k j : Nat} (hk : k ≤ 30) (hj : j < 30) (h : ¬ j < k) : getL (tmK salt d0 d2 k) (hn salt d0 j) = none := getL_no (by rw [tmK_keys]; exact fun z => h ((hn_mem hk hj).mp z))
theorem tm_str {k : Nat} : getL (tmK salt d0 d2 k) (nameF 30 salt) = none := getL_no (by rw [tmK_keys]; exact str_mem)
theorem ps_get {k j : Nat} (hk : k ≤ 30) (hj : j < k) : getL (psK salt d0 d3 k) (hn salt d0 j) = some (d3 : Int) :=
  getL_of (y := (hn salt d0 j, (d3 : Int))) (by rw [psK_keys]; exact hns_nd hk) (List.mem_map.mpr ⟨j, List.mem_range.mpr hj, rfl⟩)
theorem ps_no {k j : Nat} (hk : k ≤ 30) (hj : j < 30) (h : ¬ j < k) : getL (psK salt d0 d3 k) (hn salt d0 j) = none := getL_no (by rw [psK_keys]; exact fun z => h ((hn_mem hk hj).mp z))
theorem tm_len (k : Nat) : (tmK salt d0 d2 k).length = k := by unfold tmK; rw [List.length_map, List.length_range]
theorem ps_len (k : Nat) : (psK salt d0 d3 k).length = k := by unfold psK; rw [List.length_map, List.length_range]
theorem hn_ok (j : Nat) : nameB (hn salt d0 j) = true ∧ (hn salt d0 j).length ≤ 8 := name_ok _ _
/-- hiring -/
theorem gA_hire {k : Nat} (hk : k < 30) : hireW (gA salt d0 d2 k) (hn salt d0 k) (pcN d2 k) = none ∧ hireS (gA salt d0 d2 k) (hn salt d0 k) (pcN d2 k) = gA salt d0 d2 (k + 1) := by
  have e : getL (gA salt d0 d2 k).tempos (hn salt d0 k) = none := tm_no (by omega) hk (by omega)
  have l : (gA salt d0 d2 k).tempos.length = k := tm_len k
  refine ⟨?_, ?_⟩
  · unfold hireW
    rw [if_pos (hn_ok k).1, e, if_neg (by decide), if_pos (pcN_ok k).2.2, if_pos (by omega)]
  · unfold hireS gA
    congr 1
    show putL (tmK salt d0 d2 k) _ _ = tmK salt d0 d2 (k + 1)
    rw [putL_new (by rw [tmK_keys]; exact fun z => absurd ((hn_mem (by omega) hk).mp z) (by omega))]
    unfold tmK
    rw [List.range_succ, List.map_append]
    rfl
theorem fit_A (k : Nat) (hk : k ≤ 30) : FitG (gA salt d0 d2 k) :=
  ⟨by show (tmK salt d0 d2 k).length ≤ 1000; rw [tm_len]; omega, Nat.zero_le _, Nat.zero_le _, fun n k h => (nomatch h), fun c h => (nomatch h), fun n k h => (nomatch h)⟩
/-- refused hirings -/
def lawW (st : Str) (n : Str) (p : Int) : Str := if n ≠ st then (if n ≠ "" then "taken" else "bad name") else if p = 0 then "bad pace" else "full"
theorem hire4 {g : GdS} {st n : Str} {p : Int} (hs : nameB st = true) (h30 : g.tempos.length = 30) (e : getL g.tempos st = none) (h : (n = st ∧ (p = 0 ∨ paceB p = true)) ∨ (n ≠ st ∧ n ≠ "" ∧ nameB n = true ∧ (getL g.tempos n).isSome = true) ∨ n = "") (hne : st ≠ "") : hireW g n p = some (lawW st n p) := by
  have nb : nameB "" = false := by decide +kernel
  rcases h with ⟨rfl, h⟩ | ⟨h1, h2, h3, h4⟩ | rfl
  · have el : lawW n n p = (if p = 0 then ("bad pace" : Str) else "full") := by unfold lawW; rw [if_neg (fun z => z rfl)]
    rw [el]
    unfold hireW
    rw [if_pos hs, e, if_neg (by decide)]
    rcases h with rfl | h
    · rw [if_pos rfl, if_neg (by decide)]
    · have p0 : p ≠ 0 := fun z => by rw [z] at h; exact absurd h (by decide)
      rw [if_pos h, if_neg (by omega), if_neg p0]
  · have el : lawW st n p = "taken" := by unfold lawW; rw [if_pos h1, if_pos h2]
    rw [el]
    unfold hireW
    rw [if_pos h3, if_pos h4]
  · have el : lawW st "" p = "bad name" := by unfold lawW; rw [if_pos (Ne.symm hne), if_neg (fun z => z rfl)]
    rw [el]
    unfold hireW
    rw [nb, if_neg (by decide)]
/-- chains laid -/
theorem wy_ok {i : Nat} (hi : i < 4) : wayB (wyK i) = true := by
  have : ∀ n : Fin 4, wayB [(1 + ((n.val : Nat) : Int), 2)] = true := by decide +kernel
  exact this ⟨i, hi⟩
theorem ly_len (k : Nat) : (lyK k).length = k := by unfold lyK; rw [List.length_map, List.length_range]
theorem gB_lay {k : Nat} (hk : k < 4) : layW (gB salt d0 d2 k) (wyK k) = none ∧ layS (gB salt d0 d2 k) (wyK k) = gB salt d0 d2 (k + 1) := by
  have l : (gB salt d0 d2 k).laid.length = k := ly_len k
  refine ⟨?_, ?_⟩
  · unfold layW
    rw [if_pos (wy_ok hk), if_pos (by omega)]
  · unfold layS gB
    congr 1
    show lyK k ++ [_] = lyK (k + 1)
    unfold lyK
    rw [List.range_succ, List.map_append]
    rfl
theorem lay_full : layW (gB salt d0 d2 4) [(1, 1)] = some ("full" : Str) := by
  have l : (gB salt d0 d2 4).laid.length = 4 := ly_len 4
  unfold layW
  rw [if_pos (by decide +kernel), if_neg (by omega)]
theorem lay_bad : layW (gB salt d0 d2 4) [(0, 1)] = some ("bad way" : Str) := by
  unfold layW
  rw [if_neg (by decide +kernel)]
theorem fit_new {i : Nat} (hi : i < 4) : FitC (newS (labourM (wyK i)) (wyK i)) :=
  ⟨wy_ok hi, rfl, ⟨rfl, rfl, Nat.zero_le _, fun l h => (nomatch h)⟩, by show 0 < 4900; decide, fun m h => (nomatch h), by show 0 < 1000; decide, by show 0 < 1000; decide, Nat.zero_le _⟩
theorem fit_B (k : Nat) (hk : k ≤ 4) : FitG (gB salt d0 d2 k) :=
  ⟨by show (tmK salt d0 d2 30).length ≤ 1000; rw [tm_len]; omega, Nat.zero_le _, by show (lyK k).length ≤ 100; rw [ly_len]; omega, fun n k h => (nomatch h), fun c h => (by
    obtain ⟨i, hi, rfl⟩ := List.mem_map.mp (show c ∈ lyK k from h)
    exact fit_new (by have := List.mem_range.mp hi; omega)), fun n k h => (nomatch h)⟩
/-- hands sent -/
structure En43 (salt : Int) (d0 d3 : Nat) (k : Nat) (c : Ch) : Prop where
  wy : c.way = wyK d3
  fi : c.fire = labourM (wyK d3)
  ll : c.loads.length = k
  ls : c.spots.length = k
  row : c.row = ((List.range k).map (hn salt d0)).reverse
  ld : ∀ l ∈ c.loads, 0 ≤ l ∧ l < (k : Int)
  mks : c.marks.length = k
  mm : ∀ m ∈ c.marks, m = []
  tl : c.tempos.length ≤ k
  gl : c.ledgers.length ≤ k
  lv : c.leaving = []
theorem en43 : ∀ k, En43 salt d0 d3 k (enC salt d0 d2 d3 k)
  | 0 => ⟨rfl, rfl, rfl, rfl, rfl, fun l h => (nomatch h), rfl, fun m h => (nomatch h), Nat.le_refl _, Nat.le_refl _, rfl⟩
  | k + 1 => by
    have h := en43 k
    refine ⟨h.wy, h.fi, congrArg (· + 1) h.ll, congrArg (· + 1) h.ls, ?_, fun l hl => ?_, ?_, fun m hm => ?_, ?_, ?_, h.lv⟩
    · show hn salt d0 k :: (enC salt d0 d2 d3 k).row = _
      rw [h.row, List.range_succ, List.map_append, List.reverse_append]
      rfl
    · have hl : l ∈ (((enC salt d0 d2 d3 k).marks.length : Nat) : Int) :: (enC salt d0 d2 d3 k).loads := hl
      rw [h.mks] at hl
      rcases List.mem_cons.mp hl with z | z
      · omega
      · have := h.ld l z
        omega
    · show ((enC salt d0 d2 d3 k).marks ++ [[]]).length = _
      rw [List.length_append, h.mks]
      rfl
    · have hm : m ∈ (enC salt d0 d2 d3 k).marks ++ [[]] := hm
      rcases List.mem_append.mp hm with z | z
      · exact h.mm m z
      · exact List.mem_singleton.mp z
    · exact Nat.le_trans (putL_len _ _ _) (Nat.succ_le_succ h.tl)
    · show (if _ then _ else _ : List (Str × (Rat × Rat × Rat))).length ≤ _
      split
      · exact Nat.le_succ_of_le h.gl
      · exact Nat.le_trans (putL_len _ _ _) (Nat.succ_le_succ h.gl)
theorem En43.fit {k : Nat} {c : Ch} (h : En43 salt d0 d3 k c) (hk : k ≤ 8) (h3 : d3 < 4) : FitC c := by
  have rl : c.row.length = k := by rw [h.row, List.length_reverse, List.length_map, List.length_range]
  refine ⟨by rw [h.wy]; exact wy_ok h3, by rw [h.fi, h.wy], ⟨by rw [h.ll, rl], by rw [h.ls, rl], by omega, fun l hl => by rw [h.mks]; exact h.ld l hl⟩, by rw [h.mks]; omega, fun m hm => by rw [h.mm m hm]; exact Nat.zero_le _, by have := h.tl; omega, by have := h.gl; omega, by rw [h.lv]; exact Nat.zero_le _⟩
theorem gC_ch {k : Nat} (h3 : d3 < 4) : chI (gC salt d0 d2 d3 k) (d3 : Int) = enC salt d0 d2 d3 k ∧ (gC salt d0 d2 d3 k).laid.length = 4 := by
  refine ⟨?_, by show ((lyK 4).set d3 _).length = 4; rw [List.length_set, ly_len]⟩
  show ((lyK 4).set d3 (enC salt d0 d2 d3 k)).getD ((d3 : Int)).toNat (newS 1 []) = _
  rw [show ((d3 : Int)).toNat = d3 from by omega, List.getD_eq_getElem?_getD, List.getElem?_set_self (by rw [ly_len]; exact h3)]
  rfl
theorem gC_0 (h3 : d3 < 4) : gC salt d0 d2 d3 0 = gB salt d0 d2 4 := by
  unfold gC gB
  have e : (lyK 4).set d3 (enC salt d0 d2 d3 0) = lyK 4 := by
    refine List.ext_getElem? fun j => ?_
    rw [List.getElem?_set]
    split
    · rename_i z
      subst z
      rw [if_pos (by rw [ly_len]; exact h3)]
      unfold lyK
      rw [List.getElem?_map, List.getElem?_range h3]
      rfl
    · rfl
  rw [e]
  rfl
theorem idle_C {k j : Nat} (hk : k ≤ 30) (hj : j < 30) : idleW (gC salt d0 d2 d3 k) (hn salt d0 j) = if j < k then some ("busy" : Str) else none := by
  have e : getL (gC salt d0 d2 d3 k).tempos (hn salt d0 j) = some (pcN d2 j) := tm_get (Nat.le_refl _) hj
  unfold idleW
  rw [e, if_pos (show (some (pcN d2 j)).isSome = true from rfl)]
  by_cases c : j < k
  · have e2 : getL (gC salt d0 d2 d3 k).posts (hn salt d0 j) = some (d3 : Int) := ps_get hk c
    rw [e2, if_pos (show (some (d3 : Int)).isSome = true from rfl), if_pos c]
  · have e2 : getL (gC salt d0 d2 d3 k).posts (hn salt d0 j) = none := ps_no hk hj c
    rw [e2, if_neg (by decide), if_neg c]
theorem send_C {k : Nat} (hk : k ≤ 8) (h3 : d3 < 4) : sendW (gC salt d0 d2 d3 k) (hn salt d0 k) (d3 : Int) = if k < 8 then none else some ("full" : Str) := by
  have e := en43 (salt := salt) (d0 := d0) (d2 := d2) (d3 := d3) k
  obtain ⟨c1, c2⟩ := gC_ch (salt := salt) (d0 := d0) (d2 := d2) (k := k) h3
  have et : getL (gC salt d0 d2 d3 k).tempos (hn salt d0 k) = some (pcN d2 k) := tm_get (Nat.le_refl _) (by omega)
  unfold sendW
  rw [idle_C (by omega) (by omega), if_neg (by omega)]
  show (match chainW _ _ with | some wd => some wd | none => _) = _
  have ec : chainW (gC salt d0 d2 d3 k) (d3 : Int) = none := by unfold chainW; rw [c2, if_pos ⟨by omega, by omega⟩]
  rw [ec]
  show enterW _ _ _ = _
  rw [c1, et]
  have rl : (enC salt d0 d2 d3 k).row.length = k := by rw [e.row, List.length_reverse, List.length_map, List.length_range]
  have nm : hn salt d0 k ∉ (enC salt d0 d2 d3 k).row := by
    rw [e.row, List.mem_reverse]
    exact fun z => absurd ((hn_mem (by omega) (by omega)).mp z) (by omega)
  show enterW _ _ (pcN d2 k) = _
  unfold enterW
  rw [if_pos (hn_ok k).1, if_neg nm, if_pos (pcN_ok k).2.2, rl]
theorem send_S {k : Nat} (hk : k < 8) (h3 : d3 < 4) : sendS (gC salt d0 d2 d3 k) (hn salt d0 k) (d3 : Int) = gC salt d0 d2 d3 (k + 1) ∧ (chI (gC salt d0 d2 d3 k) (d3 : Int)).marks.length = k := by
  have e := en43 (salt := salt) (d0 := d0) (d2 := d2) (d3 := d3) k
  obtain ⟨c1, c2⟩ := gC_ch (salt := salt) (d0 := d0) (d2 := d2) (k := k) h3
  have et : getL (gC salt d0 d2 d3 k).tempos (hn salt d0 k) = some (pcN d2 k) := tm_get (Nat.le_refl _) (by omega)
  refine ⟨?_, by rw [c1]; exact e.mks⟩
  unfold sendS
  rw [c1, et]
  unfold gC
  congr 1
  · show putL (psK salt d0 d3 k) _ _ = psK salt d0 d3 (k + 1)
    rw [putL_new (by rw [psK_keys]; exact fun z => absurd ((hn_mem (by omega) (by omega)).mp z) (by omega))]
    unfold psK
    rw [List.range_succ, List.map_append]
    rfl
  · show ((lyK 4).set d3 _).set ((d3 : Int)).toNat _ = (lyK 4).set d3 _
    rw [show ((d3 : Int)).toNat = d3 from by omega, List.set_set]
    rfl
theorem fit_C (k : Nat) (hk : k ≤ 8) (h3 : d3 < 4) : FitG (gC salt d0 d2 d3 k) := by
  obtain ⟨c1, c2⟩ := gC_ch (salt := salt) (d0 := d0) (d2 := d2) (k := k) h3
  have e := en43 (salt := salt) (d0 := d0) (d2 := d2) (d3 := d3) k
  have pk : ∀ n q, getL (gC salt d0 d2 d3 k).posts n = some q → q = (d3 : Int) ∧ n ∈ (List.range k).map (hn salt d0) := fun n q h => by
    have hm := getL_mem h
    obtain ⟨i, hi, z⟩ := List.mem_map.mp (show (n, q) ∈ psK salt d0 d3 k from hm)
    cases z
    exact ⟨rfl, List.mem_map.mpr ⟨i, hi, rfl⟩⟩
  refine ⟨by show (tmK salt d0 d2 30).length ≤ 1000; rw [tm_len]; omega, by show (psK salt d0 d3 k).length ≤ 1000; rw [ps_len]; omega, by omega, fun n q h => ?_, fun c h => ?_, fun n q h => ?_⟩
  · obtain ⟨rfl, _⟩ := pk n q h
    rw [c2]
    omega
  · have h : c ∈ (lyK 4).set d3 (enC salt d0 d2 d3 k) := h
    rcases List.mem_or_eq_of_mem_set h with z | z
    · obtain ⟨i, hi, rfl⟩ := List.mem_map.mp z
      exact fit_new (List.mem_range.mp hi)
    · rw [z]
      exact e.fit hk h3
  · obtain ⟨rfl, hm⟩ := pk n q h
    show n ∈ (chI (gC salt d0 d2 d3 k) (d3 : Int)).row
    rw [c1, e.row, List.mem_reverse]
    exact hm
end
theorem dropL_keys (l : List (Str × Int)) (n : Str) : (dropL l n).map (·.1) = (l.map (·.1)).filter fun x => !decide (x = n) := by
  unfold dropL
  induction l with
  | nil => rfl
  | cons a l ih =>
    rw [List.filter_cons, List.map_cons, List.filter_cons]
    cases h : !decide (a.1 = n) with
    | true => rw [if_pos rfl, if_pos rfl, List.map_cons, ih]
    | false => rw [if_neg (by decide), if_neg (by decide), ih]
theorem getL_drop2 {l : List (Str × Int)} {n m : Str} (h : m ≠ n) : getL (dropL l n) m = getL l m := by
  unfold getL dropL
  congr 1
  induction l with
  | nil => rfl
  | cons a l ih =>
    rw [List.filter_cons, List.find?_cons]
    by_cases c : a.1 = n
    · rw [decide_eq_true c]
      have c2 : ¬ a.1 = m := fun z => h (by rw [← z, c])
      rw [decide_eq_false c2]
      exact ih
    · rw [decide_eq_false c]
      show List.find? _ (a :: _) = _
      rw [List.find?_cons]
      cases decide (a.1 = m) with
      | true => rfl
      | false => exact ih
theorem getL_app {l r : List (Str × Int)} {n : Str} : getL (l ++ r) n = (getL l n).or (getL r n) := by
  unfold getL
  rw [List.find?_append]
  cases List.find? (fun x => decide (x.1 = n)) l <;> rfl
section
variable (salt : Int) (d0 d2 d3 d4 : Nat)
def gD : GdS := dismissS (gC salt d0 d2 d3 8) (hn salt d0 (9 + d4))
def gE : GdS := hireS (gD salt d0 d2 d3 d4) (nameF 30 salt) 12
end
section
variable {salt : Int} {d0 d2 d3 d4 : Nat}
theorem keysD : ((gD salt d0 d2 d3 d4).tempos.map (·.1)) = ((List.range 30).filter fun i => !decide (hn salt d0 i = hn salt d0 (9 + d4))).map (hn salt d0) := by
  show (dropL (tmK salt d0 d2 30) (hn salt d0 (9 + d4))).map (·.1) = _
  rw [dropL_keys, tmK_keys, List.filter_map]
  rfl
theorem rng30 : List.range 30 = List.range 8 ++ (List.range 22).map fun j => 8 + j := by decide
theorem hn_dec {i j : Nat} (hi : i < 30) (hj : j < 30) : decide (hn salt d0 i = hn salt d0 j) = decide (i = j) := by
  by_cases c : i = j
  · rw [c, decide_eq_true rfl, decide_eq_true rfl]
  · rw [decide_eq_false c, decide_eq_false fun z => c (hn_inj hi hj z)]
theorem keysD2 (h4 : d4 < 9) : ((gD salt d0 d2 d3 d4).tempos.map (·.1)) = ((List.range 30).filter fun i => !decide (i = 9 + d4)).map (hn salt d0) := by
  rw [keysD]
  congr 1
  refine List.filter_congr fun i hi => ?_
  rw [hn_dec (List.mem_range.mp hi) (by omega)]
theorem lenD (h4 : d4 < 9) : (gD salt d0 d2 d3 d4).tempos.length = 29 := by
  have h := congrArg List.length (keysD2 (salt := salt) (d0 := d0) (d2 := d2) (d3 := d3) h4)
  rw [List.length_map, List.length_map] at h
  rw [h]
  have : ∀ n : Fin 9, ((List.range 30).filter fun i => !decide (i = 9 + n.val)).length = 29 := by decide +kernel
  exact this ⟨d4, h4⟩
theorem strD (h4 : d4 < 9) : getL (gD salt d0 d2 d3 d4).tempos (nameF 30 salt) = none := getL_no (by
  rw [keysD2 h4]
  intro z
  obtain ⟨i, _, e⟩ := List.mem_map.mp z
  exact hn_no e)
theorem dis_C (h4 : d4 < 9) : idleW (gC salt d0 d2 d3 8) (hn salt d0 (9 + d4)) = none := by
  rw [idle_C (by omega) (by omega), if_neg (by omega)]
theorem hire_D (h4 : d4 < 9) : hireW (gD salt d0 d2 d3 d4) (nameF 30 salt) 12 = none := by
  unfold hireW
  rw [if_pos (name_ok 30 salt).1, strD h4, if_neg (by decide), if_pos (by decide), lenD h4, if_pos (by decide)]
theorem fit_D (h3 : d3 < 4) (h4 : d4 < 9) : FitG (gD salt d0 d2 d3 d4) := by
  have f := fit_C (salt := salt) (d0 := d0) (d2 := d2) 8 (Nat.le_refl _) h3
  exact ⟨by rw [lenD h4]; decide, f.pl, f.ll, f.pk, f.ch, f.pr⟩
theorem tmE (h4 : d4 < 9) : (gE salt d0 d2 d3 d4).tempos = (gD salt d0 d2 d3 d4).tempos ++ [(nameF 30 salt, 12)] := by
  show putL (gD salt d0 d2 d3 d4).tempos _ _ = _
  rw [putL_new]
  rw [keysD2 h4]
  intro z
  obtain ⟨i, _, e⟩ := List.mem_map.mp z
  exact hn_no e
theorem paceE (h4 : d4 < 9) : getL (gE salt d0 d2 d3 d4).tempos (nameF 30 salt) = some 12 := by
  rw [tmE h4, getL_app, strD h4]
  unfold getL
  simp
theorem handE (h4 : d4 < 9) : (∃ p, getL (gE salt d0 d2 d3 d4).tempos (hn salt d0 7) = some p) ∧ getL (gE salt d0 d2 d3 d4).posts (hn salt d0 7) = some (d3 : Int) := by
  refine ⟨⟨pcN d2 7, ?_⟩, ps_get (by omega) (by omega)⟩
  rw [tmE h4, getL_app]
  show (getL (dropL (tmK salt d0 d2 30) (hn salt d0 (9 + d4))) (hn salt d0 7)).or _ = _
  rw [getL_drop2 fun z => by have := hn_inj (by omega) (by omega) z; omega, tm_get (Nat.le_refl _) (by omega)]
  rfl
def poolK (salt : Int) (d0 d4 : Nat) (n : Nat) : List Str := ((List.range n).filter fun j => !decide (8 + j = 9 + d4)).map fun j => hn salt d0 (8 + j)
theorem poolE (h4 : d4 < 9) : poolL (gE salt d0 d2 d3 d4) = poolK salt d0 d4 22 ++ [nameF 30 salt] := by
  unfold poolL
  rw [tmE h4, List.map_append, List.filter_append, keysD2 h4]
  congr 1
  · rw [List.filter_map, List.filter_filter, rng30, List.filter_append, List.map_append]
    have e1 : (List.range 8).filter (fun a => ((fun n => !(getL (gE salt d0 d2 d3 d4).posts n).isSome) ∘ hn salt d0) a && !decide (a = 9 + d4)) = [] := by
      refine List.filter_eq_nil_iff.mpr fun i hi => ?_
      have hi := List.mem_range.mp hi
      have : getL (gE salt d0 d2 d3 d4).posts (hn salt d0 i) = some (d3 : Int) := ps_get (by omega) hi
      show ¬ ((!(getL (gE salt d0 d2 d3 d4).posts (hn salt d0 i)).isSome) && _) = true
      rw [this]
      exact fun z => by simp at z
    rw [e1, List.filter_map, List.map_map]
    show [] ++ _ = _
    rw [List.nil_append]
    unfold poolK
    congr 1
    refine List.filter_congr fun j hj => ?_
    have hj := List.mem_range.mp hj
    have : getL (gE salt d0 d2 d3 d4).posts (hn salt d0 (8 + j)) = none := ps_no (by omega) (by omega) (by omega)
    show ((!(getL (gE salt d0 d2 d3 d4).posts (hn salt d0 (8 + j))).isSome) && _) = _
    rw [this]
    rfl
  · have e : getL (gE salt d0 d2 d3 d4).posts (nameF 30 salt) = none := getL_no (by
      show _ ∉ (psK salt d0 d3 8).map (·.1)
      rw [psK_keys]
      exact str_mem)
    show List.filter _ [nameF 30 salt] = _
    rw [List.filter_cons, e]
    rfl
theorem poolK_len (n : Nat) : (poolK salt d0 d4 n).length ≤ n := by
  unfold poolK
  rw [List.length_map]
  exact Nat.le_trans (List.length_filter_le _ _) (by rw [List.length_range]; exact Nat.le_refl _)
end

/-- refused, as is due -/
theorem dp_word {H : Hp} {p : Addr} {wd : Str} (e : H p = some (.tup [.str wd])) : Dp K H (.ref p) (.tuple [.str wd]) := .tup (SqT.of e) (.cons (.str _) .nil)
theorem dp_toldI {H : Hp} {p : Addr} {i : Int} (e : H p = some (.tup [.str "told", .int i])) : Dp K H (.ref p) (.tuple [.str "told", .int i]) := .tup (SqT.of e) (.cons (.str _) (.cons (.int _) .nil))
theorem dp_toldN {H : Hp} {p : Addr} (e : H p = some (.tup [.str "told", .non])) : Dp K H (.ref p) (.tuple [.str "told", .none]) := .tup (SqT.of e) (.cons (.str _) (.cons .non .nil))
theorem dp_toldV {H : Hp} {p : Addr} {z : V} {d : PyData} (e : H p = some (.tup [.str "told", z])) (h : Dp K H z d) : Dp K H (.ref p) (.tuple [.str "told", d]) := .tup (SqT.of e) (.cons (.str _) (.cons h .nil))
/-- the yard, the draws and the names stand -/
structure Y43 (K : PySem.W.Frag) (T : Tb) (CC CG CY y dq pd pn : Addr) (ds : List Int) (nm : List Str) (H : Hp) (g : GdS) (n : Nat) : Prop where
  ys : YS K CC CG CY H y dq g n
  ok : Ok T H
  ed : H pd = some (.lst (ds.map V.int))
  en : H pn = some (.lst (nm.map V.str))
  nd : pd ∉ [y, dq]
  nn : pn ∉ [y, dq]
theorem dpa_strs43 {K : PySem.W.Frag} {H : Hp} : ∀ l : List Str, DpAll K H (l.map V.str) (l.map PyData.str)
  | [] => .nil
  | _ :: l => .cons (.str _) (dpa_strs43 l)
theorem depOk_strs43 {n : Nat} {l : List Str} (h : l.length ≤ 9000) : depOk (n + 1) (.list (l.map PyData.str)) = true := by
  show (decide ((l.map PyData.str).length ≤ 9000) && (l.map PyData.str).all (depOk n)) = true
  rw [List.length_map, decide_eq_true h, List.all_map]
  exact List.all_eq_true.mpr fun _ _ => by cases n <;> rfl
theorem seq_j {t u : TS} {D : Ends} {σ : L2.St} {H : Hp} (P : L2.St → Hp → Prop) (hu : ∀ σ' H', P σ' H' → u D σ' H') (h : (∀ σ' H', P σ' H' → u D σ' H') → tSeq t u D σ H) : tSeq t u D σ H := h hu
theorem set_c {v : V} {i : Nat} {u : TS} {D : Ends} {σ : L2.St} {H : Hp} (h : u D (σ.set i (some v)) H) : tSeq (tAsg (tC v) (gName i)) u D σ H := h
theorem dp_hire {H : Hp} {t : Addr} {n : Str} {p : Int} (e : H t = some (.tup [.str "hire", .str n, .int p])) : Dp K H (.ref t) (Dy.data (.hire n p)) := .tup (SqT.of e) (.cons (.str _) (.cons (.str _) (.cons (.int _) .nil)))
theorem dp_send {H : Hp} {t : Addr} {n : Str} {p : Int} (e : H t = some (.tup [.str "send", .str n, .int p])) : Dp K H (.ref t) (Dy.data (.send n p)) := .tup (SqT.of e) (.cons (.str _) (.cons (.str _) (.cons (.int _) .nil)))
theorem dp_dis {H : Hp} {t : Addr} {n : Str} (e : H t = some (.tup [.str "dismiss", .str n])) : Dp K H (.ref t) (Dy.data (.dismiss n)) := .tup (SqT.of e) (.cons (.str _) (.cons (.str _) .nil))
theorem dp_lay1 {H : Hp} {p1 p2 p3 : Addr} {x z : Int} (e1 : H p1 = some (.tup [.int x, .int z])) (e2 : H p2 = some (.tup [.ref p1])) (e3 : H p3 = some (.tup [.str "lay", .ref p2])) : Dp K H (.ref p3) (Dy.data (.lay [(x, z)])) := .tup (SqT.of e3) (.cons (.str _) (.cons (.tup (SqT.of e2) (.cons (.tup (SqT.of e1) (.cons (.int _) (.cons (.int _) .nil))) .nil)) .nil))
theorem YS.done {CC CG CY : Addr} {H' : Hp} {y q : Addr} {B2 : YdA} {dn : List Stp} {d : Dy} {g' : GdS} {n : Nat} (e : B2.dn = q) (h : YdAt K CC CG CY H' y B2 (dn ++ [⟨d, g', []⟩]) []) (l : dn.length ≤ n) : YS K CC CG CY H' y q g' (n + 1) := ⟨B2, _, [], e, h, by
  unfold gdOf
  rw [List.getLast?_concat]
  rfl, by rw [List.length_append]; show _ + 1 ≤ _; omega⟩
section
variable {CC CG CY y dq pd pn : Addr} {ds : List Int} {nm : List Str} {H H' : Hp} {g g' : GdS} {n n' : Nat}
theorem Y43.sm (h : Y43 K T CC CG CY y dq pd pn ds nm H g n) (s : Sm T H H') : Y43 K T CC CG CY y dq pd pn ds nm H' g n := ⟨h.ys.sm s, s.ok h.ok, s.k h.ed, s.k h.en, h.nd, h.nn⟩
theorem Y43.sx (h : Y43 K T CC CG CY y dq pd pn ds nm H g n) (x : Sx T [y, dq] H H') (ys : YS K CC CG CY H' y dq g' n') : Y43 K T CC CG CY y dq pd pn ds nm H' g' n' := ⟨ys, x.ok h.ok, x.keep _ _ h.ed trivial (.inr h.nd), x.keep _ _ h.en trivial (.inr h.nn), h.nd, h.nn⟩
theorem nm_at {salt : Int} {d0 : Nat} (h : nm = (List.range 30).map (hn salt d0)) {j : Nat} (hj : j < 30) : (nm.map V.str)[j]? = some (.str (hn salt d0 j)) := by
  rw [h, List.getElem?_map, List.getElem?_map, List.getElem?_range hj]
  rfl
end
def sp_LAW (K : PySem.W.Frag) (T : Tb) (CP CC CG CY : Addr) : Sp := fun vs H Q _ => ∃ (a : Addr) (ns : List Int), vs = [.ref a] ∧ SqL K H a (ns.map V.int) ∧ ns.length ≤ 63 ∧ (∀ z ∈ ns, Builtin.Int.intBits z ≤ 1048576) ∧ Ok T H ∧ ∀ H', Q (.bl true) H'
theorem ok_LAW {f : Addr} {fd : FuncData} (F : Fun K "law" "law" s_LAW f fd) (B : Bn mg) {CP : Addr} {CC : Addr} {CG : Addr} {CY : Addr} (TY : KlY K CY) (F_l_cell : Fn P w K mg base 1 "_law_cell" ["_law_script", "_law_k"] (sp_l_cell K T)) (MY_init : Mn P w K mg base CY 1 "Yard" ["self"] (sp_p_Yard___init__ K T CC CG CY)) (MY_do : Mx P w K mg base CY 22 "do" ["self", "deed"] (sp_p_Yard_do K T CP CC CG CY)) (MY_chains : Mt P w K mg base CY 4 "chains" ["self"] (sp_p_Yard_chains K T CC CG CY)) (MY_pace : Mx P w K mg base CY 5 "pace" ["self", "name"] (sp_p_Yard_pace K T CP CC CG CY)) (MY_where : Mx P w K mg base CY 5 "where" ["self", "name"] (sp_p_Yard_where K T CP CC CG CY)) (MY_pool : Mt P w K mg base CY 4 "pool" ["self"] (sp_p_Yard_pool K T CC CG CY)) (F_l_same : Fn P w K mg base 6 "_law_same" ["_law_found", "_law_due"] (sp_l_same K T)) (F_l_draws_f : Fn P w K mg base 1 "_law_draws" ["_law_cell_here", "_law_parts"] (sp_l_draws_f K T)) (F_l_name : Fn P w K mg base 2 "_law_name" ["_law_k", "_law_salt"] (sp_l_name K T)) (F_l_split : Fn P w K mg base 1 "_law_split" ["_law_cell_here", "_law_many"] (sp_l_split K T)) (F_l_yard_ask : Fn P w K mg base 30 "_law_yard_ask" ["_law_yard", "_law_deed"] (sp_l_yard_ask K T CC CG CY)) : FnOk P w K mg base (L2.CX P w) 34 f fd ["_law_script"] (sp_LAW K T CP CC CG CY) := by
  refine F.okX sc_LAW (fun vs H Q E h => ?_) (fun cdv A outer s H vs Q E hr h => ?_)
  · obtain ⟨a, ns, rfl, _⟩ := h
    rfl
  · obtain ⟨a, script, rfl, hS, hlen, hbits, hok, q⟩ := h
    refine ⟨_, (pss_cons (ps_asg (pe_fn F_l_split (hr.mono (by decide)) (pa_cons (pe_fn F_l_cell (hr.mono (by decide)) (pa_cons (pv 0) (pa_cons pe_int pa_nil))) (pa_cons pe_int pa_nil))) (pg_unl rfl (pgs_cons (pg_name (i := 1) sc_LAW.nd rfl (.inr rfl)) (pgs_cons (pg_name (i := 2) sc_LAW.nd rfl (.inl rfl)) pgs_nil))))
      (pss_cons (ps_set (i := 3) sc_LAW.nd rfl (.inl rfl) (pe_mn0 MY_init (hr.mono (by decide))))
      (pss_cons (ps_set (i := 4) sc_LAW.nd rfl (.inr rfl) (pe_fn F_l_draws_f (hr.mono (by decide)) (pa_cons (pv 2) (pa_cons (pe_lst (pa_cons pe_int (pa_cons pe_int (pa_cons pe_int (pa_cons pe_int (pa_cons pe_int pa_nil)))))) pa_nil))))
      (pss_cons (ps_set (i := 6) sc_LAW.nd rfl (.inr rfl) (pe_lc (own := [("_law_k", 5)]) (g := (gName 5)) (tt := tYes) (by rfl) sc_LAW.nd (pi_range1 (by rfl) B.range_ (pa_cons pe_int pa_nil)) (blkOk_by (own := [("_law_k", 5)]) (N := ["_law_script", "_law_salt", "_law_more", "_law_yard", "_law_drawn", "_law_k", "_law_names", "_law_stranger", "_law_deed", "_law_word_here", "_law_pool"]) (sc := (defScope s_LAW)) (by decide +kernel)) (fun _ _ _ _ _ => (pg_name (i := 5) sc_LAW.nd rfl (.inl rfl))) (fun _ _ _ _ _ => pts_nil) (fun _ _ _ _ _ => (pe_fn F_l_name (hr.mono (by decide)) (pa_cons (pe_op op_mod (pe_op op_add (pe_op op_mul (pv 5) pe_int) (pe_ix (r := rIxL K) ix_list (pv 4) pe_int (fun _ _ => rfl))) pe_int) (pa_cons (pv 1) pa_nil))))))
      (pss_cons (ps_for (passes_of rfl) rfl (pi_range1 (by rfl) B.range_ (pa_cons pe_int pa_nil)) (pg_name (i := 5) sc_LAW.nd rfl (.inl rfl))
      (pss_one (ps_expr (pe_mx MY_do TY.cl (hr.mono (by decide)) (takes_of rfl rfl rfl rfl) (pv 3) (pa_cons (pe_tup (pa_cons pe_str (pa_cons (pe_ix ix_list (pv 6) (pv 5) (fun _ _ => rfl)) (pa_cons (pe_op op_add pe_int (pe_op op_mod (pe_op op_add (pv 5) (pe_ix ix_list (pv 4) pe_int (fun _ _ => rfl))) pe_int)) pa_nil)))) pa_nil)))))
      (pss_cons (ps_set (i := 7) sc_LAW.nd rfl (.inl rfl) (pe_fn F_l_name (hr.mono (by decide)) (pa_cons pe_int (pa_cons (pv 1) pa_nil))))
      (pss_cons (ps_for (passes_of rfl) rfl (pi_list (pe_lst (pa_cons (pe_tup (pa_cons pe_str (pa_cons (pv 7) (pa_cons pe_int pa_nil)))) (pa_cons (pe_tup (pa_cons pe_str (pa_cons (pe_ix ix_list (pv 6) (pe_ix ix_list (pv 4) pe_int (fun _ _ => rfl)) (fun _ _ => rfl)) (pa_cons pe_int pa_nil)))) (pa_cons (pe_tup (pa_cons pe_str (pa_cons (pv 7) (pa_cons pe_int pa_nil)))) (pa_cons (pe_tup (pa_cons pe_str (pa_cons pe_str (pa_cons pe_int pa_nil)))) pa_nil)))))) (pg_name (i := 8) sc_LAW.nd rfl (.inl rfl))
      (pss_cons (ps_set (i := 9) sc_LAW.nd rfl (.inl rfl) pe_str)
      (pss_cons (ps_if (pt_cmpR op_ne (pe_ix ix_tup (pv 8) pe_int (fun _ _ => rfl)) (pv 7) (nomark _)) (pss_one (ps_set (i := 9) sc_LAW.nd rfl (.inl rfl) (pe_ifExp (pt_cmpR op_ne (pe_ix ix_tup (pv 8) pe_int (fun _ _ => rfl)) pe_str (nomark _)) pe_str pe_str))) (pss_one (ps_if (pt_cmpR op_eq (pe_ix ix_tup (pv 8) pe_int (fun _ _ => rfl)) pe_int (nomark _)) (pss_one (ps_set (i := 9) sc_LAW.nd rfl (.inl rfl) pe_str)) pss_nil)))
      (pss_one (ps_if (pt_not (pt_val (pe_fn F_l_same (hr.mono (by decide)) (pa_cons (pe_fn F_l_yard_ask (hr.mono (by decide)) (pa_cons (pv 3) (pa_cons (pv 8) pa_nil))) (pa_cons (pe_tup (pa_cons (pv 9) pa_nil)) pa_nil))))) (pss_one (ps_ret pe_bl)) pss_nil)))))
      (pss_cons (ps_for (passes_of rfl) rfl (pi_range1 (by rfl) B.range_ (pa_cons pe_int pa_nil)) (pg_name (i := 5) sc_LAW.nd rfl (.inl rfl))
      (pss_one (ps_if (pt_not (pt_val (pe_fn F_l_same (hr.mono (by decide)) (pa_cons (pe_fn F_l_yard_ask (hr.mono (by decide)) (pa_cons (pv 3) (pa_cons (pe_tup (pa_cons pe_str (pa_cons (pe_tup (pa_cons (pe_tup (pa_cons (pe_op op_add pe_int (pv 5)) (pa_cons pe_int pa_nil))) pa_nil)) pa_nil))) pa_nil))) (pa_cons (pe_tup (pa_cons pe_str (pa_cons (pv 5) pa_nil))) pa_nil))))) (pss_one (ps_ret pe_bl)) pss_nil)))
      (pss_cons (ps_if (pt_not (pt_val (pe_fn F_l_same (hr.mono (by decide)) (pa_cons (pe_fn F_l_yard_ask (hr.mono (by decide)) (pa_cons (pv 3) (pa_cons (pe_tup (pa_cons pe_str (pa_cons (pe_tup (pa_cons (pe_tup (pa_cons pe_int (pa_cons pe_int pa_nil))) pa_nil)) pa_nil))) pa_nil))) (pa_cons (pe_tup (pa_cons pe_str pa_nil)) pa_nil))))) (pss_one (ps_ret pe_bl)) pss_nil)
      (pss_cons (ps_if (PW.pt (pw_or (pt_not (pt_val (pe_fn F_l_same (hr.mono (by decide)) (pa_cons (pe_fn F_l_yard_ask (hr.mono (by decide)) (pa_cons (pv 3) (pa_cons (pe_tup (pa_cons pe_str (pa_cons (pe_tup (pa_cons (pe_tup (pa_cons pe_int (pa_cons pe_int pa_nil))) pa_nil)) pa_nil))) pa_nil))) (pa_cons (pe_tup (pa_cons pe_str pa_nil)) pa_nil))))) (pw_or1 (pt_cmpR op_ne (pe_mt0 MY_chains TY.cl (hr.mono (by decide)) (pv 3) ) pe_int (nomark _))))) (pss_one (ps_ret pe_bl)) pss_nil)
      (pss_cons (ps_for (passes_of rfl) rfl (pi_range1 (by rfl) B.range_ (pa_cons pe_int pa_nil)) (pg_name (i := 5) sc_LAW.nd rfl (.inl rfl))
      (pss_one (ps_if (pt_not (pt_val (pe_fn F_l_same (hr.mono (by decide)) (pa_cons (pe_fn F_l_yard_ask (hr.mono (by decide)) (pa_cons (pv 3) (pa_cons (pe_tup (pa_cons pe_str (pa_cons (pe_ix ix_list (pv 6) (pv 5) (fun _ _ => rfl)) (pa_cons (pe_ix ix_list (pv 4) pe_int (fun _ _ => rfl)) pa_nil)))) pa_nil))) (pa_cons (pe_tup (pa_cons pe_str (pa_cons (pv 5) pa_nil))) pa_nil))))) (pss_one (ps_ret pe_bl)) pss_nil)))
      (pss_cons (ps_if (pt_not (pt_val (pe_fn F_l_same (hr.mono (by decide)) (pa_cons (pe_fn F_l_yard_ask (hr.mono (by decide)) (pa_cons (pv 3) (pa_cons (pe_tup (pa_cons pe_str (pa_cons (pe_ix ix_list (pv 6) pe_int (fun _ _ => rfl)) (pa_cons (pe_ix ix_list (pv 4) pe_int (fun _ _ => rfl)) pa_nil)))) pa_nil))) (pa_cons (pe_tup (pa_cons pe_str pa_nil)) pa_nil))))) (pss_one (ps_ret pe_bl)) pss_nil)
      (pss_cons (ps_if (pt_not (pt_val (pe_fn F_l_same (hr.mono (by decide)) (pa_cons (pe_fn F_l_yard_ask (hr.mono (by decide)) (pa_cons (pv 3) (pa_cons (pe_tup (pa_cons pe_str (pa_cons (pv 7) (pa_cons pe_int pa_nil)))) pa_nil))) (pa_cons (pe_tup (pa_cons pe_str pa_nil)) pa_nil))))) (pss_one (ps_ret pe_bl)) pss_nil)
      (pss_cons (ps_if (pt_not (pt_val (pe_fn F_l_same (hr.mono (by decide)) (pa_cons (pe_fn F_l_yard_ask (hr.mono (by decide)) (pa_cons (pv 3) (pa_cons (pe_tup (pa_cons pe_str (pa_cons (pe_ix ix_list (pv 6) pe_int (fun _ _ => rfl)) (pa_cons pe_int pa_nil)))) pa_nil))) (pa_cons (pe_tup (pa_cons pe_str pa_nil)) pa_nil))))) (pss_one (ps_ret pe_bl)) pss_nil)
      (pss_cons (ps_if (pt_not (pt_val (pe_fn F_l_same (hr.mono (by decide)) (pa_cons (pe_fn F_l_yard_ask (hr.mono (by decide)) (pa_cons (pv 3) (pa_cons (pe_tup (pa_cons pe_str (pa_cons (pe_ix ix_list (pv 6) (pe_op op_add pe_int (pe_ix ix_list (pv 4) pe_int (fun _ _ => rfl))) (fun _ _ => rfl)) pa_nil))) pa_nil))) (pa_cons (pe_tup (pa_cons pe_str (pa_cons pe_non pa_nil))) pa_nil))))) (pss_one (ps_ret pe_bl)) pss_nil)
      (pss_cons (ps_if (pt_not (pt_val (pe_fn F_l_same (hr.mono (by decide)) (pa_cons (pe_fn F_l_yard_ask (hr.mono (by decide)) (pa_cons (pv 3) (pa_cons (pe_tup (pa_cons pe_str (pa_cons (pv 7) (pa_cons pe_int pa_nil)))) pa_nil))) (pa_cons (pe_tup (pa_cons pe_str (pa_cons pe_non pa_nil))) pa_nil))))) (pss_one (ps_ret pe_bl)) pss_nil)
      (pss_cons (ps_set (i := 10) sc_LAW.nd rfl (.inl rfl) (pe_op op_cat (pe_lc (own := [("_law_k", 5)]) (g := (gName 5)) (by rfl) sc_LAW.nd (pi_range2 (by rfl) B.range_ (pa_cons pe_int (pa_cons pe_int pa_nil))) (blkOk_by (own := [("_law_k", 5)]) (N := ["_law_script", "_law_salt", "_law_more", "_law_yard", "_law_drawn", "_law_k", "_law_names", "_law_stranger", "_law_deed", "_law_word_here", "_law_pool"]) (sc := (defScope s_LAW)) (by decide +kernel)) (fun _ _ _ _ _ => (pg_name (i := 5) sc_LAW.nd rfl (.inl rfl))) (fun _ _ _ _ _ => (pts_one (pt_cmpR op_ne (pv 5) (pe_op op_add pe_int (pe_ix (r := rIxL K) ix_list (pv 4) pe_int (fun _ _ => rfl))) (nomark _)))) (fun _ _ _ _ _ => (pe_ix (r := rIxL K) ix_list (pv 6) (pv 5) (fun _ _ => rfl)))) (pe_lst (pa_cons (pv 7) pa_nil))))
      (pss_one (ps_ret (pe_fn F_l_same (hr.mono (by decide)) (pa_cons (pe_lst (pa_cons (pe_mt0 MY_pool TY.cl (hr.mono (by decide)) (pv 3) ) (pa_cons (pe_mx MY_pace TY.cl (hr.mono (by decide)) (takes_of rfl rfl rfl rfl) (pv 3) (pa_cons (pv 7) pa_nil)) (pa_cons (pe_mx MY_where TY.cl (hr.mono (by decide)) (takes_of rfl rfl rfl rfl) (pv 3) (pa_cons (pe_ix ix_list (pv 6) pe_int (fun _ _ => rfl)) pa_nil)) pa_nil)))) (pa_cons (pe_lst (pa_cons (pv 10) (pa_cons pe_int (pa_cons (pe_ix ix_list (pv 4) pe_int (fun _ _ => rfl)) pa_nil)))) pa_nil)))))))))))))))))))))), ?_⟩
    refine ⟨_, rfl, a, script, 0, rfl, hS, by decide, fun c0 => ⟨c0, 2, rfl, by decide, fun o H1 zs s1 no eo hl => ?_⟩⟩
    obtain ⟨salt, z2, rfl⟩ : ∃ z1 z2, zs = [z1, z2] := match zs, hl with | [z1, z2], _ => ⟨z1, z2, rfl⟩
    refine ⟨o, _, rfl, SqL.of eo, rfl, _, _, rfl, _, _, rfl, rfl, ?_⟩
    dsimp only [gName, List.set]
    refine fun y dx ny ndx nex => ⟨H1, y, dx, rfl, rfl, ny, ndx, nex, fun H2 Z s2 hy fy ez => ⟨rfl, ?_⟩⟩
    have s02 := s1.trans s2
    have ys2 : YS K CC CG CY H2 y Z.dn (gA salt 0 0 0) 0 := ⟨Z, [], [], rfl, hy, rfl, Nat.le_refl _⟩
    have fS : ∀ x ∈ [y, Z.dn], H1 x = none := fun x hx => fy x (List.mem_append_left _ (by
      simp only [ownY, List.mem_cons, List.not_mem_nil, or_false] at hx ⊢
      exact hx.elim .inl fun w => .inr (.inl w)))
    generalize Z.dn = dq at *
    clear hy fy ez
    dsimp only [gName, List.set]
    refine ⟨_, rfl, by show 5 ≤ sizeLine; decide, fun l1 nl1 => ?_⟩
    have u1 := same_upd (T := T) (o := HO.lst [V.int 30, V.int 30, V.int 12, V.int 4, V.int 9]) nl1
    refine ⟨z2, l1, [30, 30, 12, 4, 9], rfl, SqL.of upd_same, by decide, by decide, fun pd H3 s3 npd epd => ?_⟩
    have hdr := drF_drawn (mixF z2) [30, 30, 12, 4, 9] (by decide)
    generalize drF (mixF z2) [30, 30, 12, 4, 9] = ds at *
    obtain ⟨i0, r0, rfl, h00, h01, hdr⟩ := hdr.cons
    obtain ⟨i1, r1, rfl, h10, h11, hdr⟩ := hdr.cons
    obtain ⟨i2, r2, rfl, h20, h21, hdr⟩ := hdr.cons
    obtain ⟨i3, r3, rfl, h30, h31, hdr⟩ := hdr.cons
    obtain ⟨i4, r4, rfl, h40, h41, hdr⟩ := hdr.cons
    obtain rfl := hdr.nil
    obtain ⟨d0, rfl⟩ : ∃ n : Nat, i0 = (n : Int) := ⟨i0.toNat, by omega⟩
    obtain ⟨d1, rfl⟩ : ∃ n : Nat, i1 = (n : Int) := ⟨i1.toNat, by omega⟩
    obtain ⟨d2, rfl⟩ : ∃ n : Nat, i2 = (n : Int) := ⟨i2.toNat, by omega⟩
    obtain ⟨d3, rfl⟩ : ∃ n : Nat, i3 = (n : Int) := ⟨i3.toNat, by omega⟩
    obtain ⟨d4, rfl⟩ : ∃ n : Nat, i4 = (n : Int) := ⟨i4.toNat, by omega⟩
    have s13 := u1.trans s3
    have ndp := (ys2.sm u1).not npd
    have s03 := s02.trans s13
    have ys3 : YS K CC CG CY H3 y dq (gA salt d0 d2 0) 0 := ys2.sm s13
    clear u1 s3 s13 ys2 nl1 npd
    dsimp only [gName, List.set]
    -- the names
    refine ⟨30, rfl, by decide, by decide, fun pn npn => lc_range (lo := 0) (n := 30) (Qd := _) (fun i H' => Sm T H3 H' ∧ H' pn = some (.lst (((List.range i).map (hn salt d0)).map V.str))) ⟨same_upd npn, upd_same⟩ ?_ ?_⟩
    · rintro i H4 hi ⟨s4, eN⟩
      refine ⟨rfl, tyes_i ?_⟩
      refine ⟨_, rfl, _, _, rfl, rfl, .inl ⟨by omega, by omega⟩, _, rfl, pd, _, _, .int (d0 : Int), rfl, rfl, SqL.of (s4.k epd), at_of (j := 0) rfl rfl, _, _, rfl, rfl, _, _, rfl, rfl, (by show (0 : Int) < 30; decide), _, rfl, (i * 7 + d0) % 30, salt, ?_, by omega, fun H5 s5 => ?_⟩
      · show [V.int ((((0 : Int) + (i : Int)) * 7 + (d0 : Int)) % 30), V.int salt] = _
        rw [show (((0 : Int) + (i : Int)) * 7 + (d0 : Int)) % 30 = (((i * 7 + d0) % 30 : Nat) : Int) from by omega]
      · have eN5 := s5.k eN
        refine ⟨_, eN5, szl (by rw [List.length_map, List.length_map, List.length_range]; omega), same_mut (s4.trans s5) npn eN5, ?_⟩
        rw [upd_same, List.range_succ, List.map_append, List.map_append]
        rfl
    rintro H4 ⟨s34, eN⟩
    have y4 : Y43 K T CC CG CY y dq pd pn [(d0 : Int), d1, d2, d3, d4] ((List.range 30).map (hn salt d0)) H4 (gA salt d0 d2 0) 0 := ⟨ys3.sm s34, (s03.trans s34).ok hok, s34.k epd, eN, ndp, ys3.not npn⟩
    clear s34 eN ys3 npn epd ndp s03 hS hbits fS s02 s2 s1 no eo nex ndx ny hok
    generalize hnm : (List.range 30).map (hn salt d0) = nm at *
    have nmA : ∀ {j : Nat}, j < 30 → (nm.map V.str)[j]? = some (.str (hn salt d0 j)) := fun hj => nm_at hnm.symm hj
    have nml : nm.length = 30 := by rw [← hnm]; rfl
    dsimp only [gName, List.set]
    refine ⟨30, rfl, by decide, by decide, for_range (lo := 0) (n := 30) (fun i σ H' => Y43 K T CC CG CY y dq pd pn [(d0 : Int), d1, d2, d3, d4] nm H' (gA salt d0 d2 i) i ∧ ∃ x5, σ = [some (.ref a), some (.int salt), some (.int z2), some (.ref y), some (.ref pd), x5, some (.ref pn), none, none, none, none]) ⟨y4, _, rfl⟩ ?_ ?_⟩
    · rintro i σ H5 hi ⟨y5, x5, rfl⟩
      dsimp only [gName, List.set]
      obtain ⟨Z, dn, un, eq, hY, eg, hl⟩ := y5.ys
      refine ⟨_, rfl, y, _, _, rfl, hY.ins, fy_no (by decide +kernel), ?_⟩
      refine ⟨_, rfl, _, rfl, pn, _, _, .str (hn salt d0 i), rfl, rfl, SqL.of y5.en, at_of (j := i) (by omega) (nmA hi), ?_⟩
      refine ⟨_, rfl, _, rfl, pd, _, _, .int (d2 : Int), rfl, rfl, SqL.of y5.ed, at_of (j := 2) rfl rfl, _, _, rfl, rfl, _, _, rfl, rfl, (by show (0 : Int) < 12; decide), _, _, rfl, rfl, by show 3 ≤ sizeLine; decide, fun t nt => ?_⟩
      have ep : (1 : Int) + ((0 + (i : Int)) + (d2 : Int)) % 12 = pcN d2 i := by unfold pcN; omega
      have u6 := same_upd (T := T) (o := .tup [.str "hire", .str (hn salt d0 i), .int ((1 : Int) + ((0 + (i : Int)) + (d2 : Int)) % 12)]) nt
      have e6 : upd H5 t (.tup [.str "hire", .str (hn salt d0 i), .int ((1 : Int) + ((0 + (i : Int)) + (d2 : Int)) % 12)]) t = some (.tup [.str "hire", .str (hn salt d0 i), .int (pcN d2 i)]) := by rw [upd_same, ep]
      have y6 := y5.sm u6
      have hY := hY.sm u6
      generalize upd H5 t _ = H6 at *
      have hg := gA_hire (salt := salt) (d0 := d0) (d2 := d2) hi
      refine ⟨y, Z, dn, un, t, .hire (hn salt d0 i) (pcN d2 i), rfl, hY, dp_hire e6, trivial, by rw [eg]; exact fit_A i (by omega), by show (hn salt d0 i).length ≤ sizeLine; exact sz (by have := (hn_ok (salt := salt) (d0 := d0) i).2; omega), by omega, y6.ok, fun _ H' B' x6 hB fr edn => ⟨?_, _, rfl⟩, fun wd z => ?_⟩
      · rw [eq] at x6
        have hB : YdAt K CC CG CY H' y B' (dn ++ [⟨.hire (hn salt d0 i) (pcN d2 i), hireS (gdOf dn) (hn salt d0 i) (pcN d2 i), []⟩]) [] := hB
        rw [eg, hg.2] at hB
        exact y6.sx x6 (.done (edn.trans eq) hB hl)
      · have z : hireW (gdOf dn) (hn salt d0 i) (pcN d2 i) = some wd := z
        rw [eg, hg.1] at z
        cases z
    rintro σ H5 ⟨y5, x5, rfl⟩
    clear y4
    dsimp only [gName, List.set]
    refine ⟨_, rfl, 30, salt, rfl, by decide, fun H6 s6 => ?_⟩
    have y6 := y5.sm s6
    clear y5 s6
    dsimp only [gName, List.set]
    generalize hst : nameF 30 salt = st at *
    have stB : nameB st = true ∧ st.length ≤ 8 := by rw [← hst]; exact name_ok 30 salt
    have stN : st ≠ "" := by rw [← hst]; exact name_ne 30 salt
    refine ⟨_, rfl, by show 3 ≤ sizeLine; decide, fun t1 n1 => ?_⟩
    have u1 := same_upd (T := T) (o := .tup [.str "hire", .str st, .int 5]) n1
    have y7 := y6.sm u1
    have e71 : upd H6 t1 (.tup [.str "hire", .str st, .int 5]) t1 = _ := upd_same
    clear u1 y6 n1
    generalize upd H6 t1 _ = H7 at *
    refine ⟨_, rfl, _, rfl, pd, _, _, .int (d1 : Int), rfl, rfl, SqL.of y7.ed, at_of (j := 1) rfl rfl, pn, _, _, .str (hn salt d0 d1), rfl, rfl, SqL.of y7.en, at_of (j := d1) rfl (nmA (by omega)), by show 3 ≤ sizeLine; decide, fun t2 n2 => ?_⟩
    have u2 := same_upd (T := T) (o := .tup [.str "hire", .str (hn salt d0 d1), .int 5]) n2
    have y8 := y7.sm u2
    have e81 := u2.k e71
    have e82 : upd H7 t2 (.tup [.str "hire", .str (hn salt d0 d1), .int 5]) t2 = _ := upd_same
    clear u2 y7 n2 e71
    generalize upd H7 t2 _ = H8 at *
    refine ⟨_, rfl, by show 3 ≤ sizeLine; decide, fun t3 n3 => ?_⟩
    have u3 := same_upd (T := T) (o := .tup [.str "hire", .str st, .int 0]) n3
    have y9 := y8.sm u3
    have e91 := u3.k e81
    have e92 := u3.k e82
    have e93 : upd H8 t3 (.tup [.str "hire", .str st, .int 0]) t3 = _ := upd_same
    clear u3 y8 n3 e81 e82
    generalize upd H8 t3 _ = H9 at *
    refine ⟨by show 3 ≤ sizeLine; decide, fun t4 n4 => ?_⟩
    have u4 := same_upd (T := T) (o := .tup [.str "hire", .str "", .int 0]) n4
    have y10 := y9.sm u4
    have e101 := u4.k e91
    have e102 := u4.k e92
    have e103 := u4.k e93
    have e104 : upd H9 t4 (.tup [.str "hire", .str "", .int 0]) t4 = _ := upd_same
    clear u4 y9 n4 e91 e92 e93
    generalize upd H9 t4 _ = H10 at *
    refine ⟨by show 4 ≤ sizeLine; decide, fun l nl => ?_⟩
    have u5 := same_upd (T := T) (o := .lst [.ref t1, .ref t2, .ref t3, .ref t4]) nl
    have y11 := y10.sm u5
    have el : upd H10 l (.lst [.ref t1, .ref t2, .ref t3, .ref t4]) l = _ := upd_same
    have f1 := u5.k e101
    have f2 := u5.k e102
    have f3 := u5.k e103
    have f4 := u5.k e104
    clear u5 y10 nl e101 e102 e103 e104
    generalize upd H10 l _ = H11 at *
    have g30 : (gA salt d0 d2 30).tempos.length = 30 := tm_len 30
    have gst : getL (gA salt d0 d2 30).tempos st = none := by rw [← hst]; exact tm_str
    have g1 : (getL (gA salt d0 d2 30).tempos (hn salt d0 d1)).isSome = true := by rw [show getL (gA salt d0 d2 30).tempos (hn salt d0 d1) = some (pcN d2 d1) from tm_get (Nat.le_refl _) (by omega)]; rfl
    refine ⟨l, rfl, ⟨_, SqL.of el⟩, for_list (K := K) (a := l) (xs := [.ref t1, .ref t2, .ref t3, .ref t4]) (fun i σ H' => Sm T H11 H' ∧ ∃ x8 x9, σ = [some (.ref a), some (.int salt), some (.int z2), some (.ref y), some (.ref pd), x5, some (.ref pn), some (.str st), x8, x9, none]) ⟨Sm.refl, _, _, rfl⟩ (fun i σ H' _ z => SqL.of (z.1.k el)) ?_ ?_⟩
    · rintro i v σ H12 ev ⟨s12, x8, x9, rfl⟩
      obtain ⟨t, n, p, rfl, et, hh⟩ : ∃ t n p, v = .ref t ∧ H11 t = some (.tup [.str "hire", .str n, .int p]) ∧ ((n = st ∧ (p = 0 ∨ paceB p = true)) ∨ (n ≠ st ∧ n ≠ "" ∧ nameB n = true ∧ (getL (gA salt d0 d2 30).tempos n).isSome = true) ∨ n = "") ∧ n.length ≤ 8 := by
        match i, ev with
        | 0, ev => exact ⟨t1, _, _, (Option.some.inj ev).symm, f1, .inl ⟨rfl, .inr (by decide)⟩, stB.2⟩
        | 1, ev => exact ⟨t2, _, _, (Option.some.inj ev).symm, f2, .inr (.inl ⟨by rw [← hst]; exact hn_no, fun z => by have := (hn_ok (salt := salt) (d0 := d0) d1).1; rw [z] at this; exact absurd this (by decide +kernel), (hn_ok d1).1, g1⟩), (hn_ok d1).2⟩
        | 2, ev => exact ⟨t3, _, _, (Option.some.inj ev).symm, f3, .inl ⟨rfl, .inl rfl⟩, stB.2⟩
        | 3, ev => exact ⟨t4, _, _, (Option.some.inj ev).symm, f4, .inr (.inr rfl), by decide⟩
        | j + 4, ev => simp at ev
      obtain ⟨hh, nl8⟩ := hh
      have hw := hire4 stB.1 g30 gst hh stN
      have y12s := s12
      have y12 := y11.sm s12
      have et := s12.k et
      refine set_c (i := 9) ?_
      dsimp only [gName, List.set]
      refine seq_j (fun σ' H' => H' = H12 ∧ σ' = [some (.ref a), some (.int salt), some (.int z2), some (.ref y), some (.ref pd), x5, some (.ref pn), some (.str st), some (.ref t), some (.str (lawW st n p)), none]) (fun σ' H' pp => ?_) (fun kk => ?_)
      · obtain ⟨rfl, rfl⟩ := pp
        refine ⟨_, rfl, _, rfl, y, dq, gA salt d0 d2 30, 30, t, .hire n p, rfl, y12.ys, dp_hire et, trivial, fit_A 30 (Nat.le_refl _), sz (by omega), by decide, y12.ok, fun wn => ?_, fun wd w p' H12 s12 e12 => ?_⟩
        · have wn : hireW _ _ _ = none := wn
          rw [hw] at wn
          cases wn
        · have w : hireW _ _ _ = some wd := w
          rw [hw] at w
          cases w
          refine ⟨_, rfl, by show 1 ≤ sizeLine; decide, fun t5 n5 => ⟨_, _, .tuple [.str (lawW st n p)], rfl, dp_word ((same_upd (T := T) n5).k e12), dp_word upd_same, rfl, fun H13 s13 => ⟨_, rfl, iteF ?_⟩⟩⟩
          exact ⟨y12s.trans (s12.trans ((same_upd n5).trans s13)), _, _, rfl⟩
      · refine ⟨_, rfl, t, _, _, .str n, rfl, rfl, SqT.of et, at_of (j := 1) rfl rfl, _, rfl, ?_⟩
        by_cases c1 : n = st
        · subst c1
          refine ⟨rfl, _, rfl, ?_⟩
          rw [show (!decide (V.str n = V.str n)) = false by rw [decide_eq_true rfl]; rfl]
          refine iteF ⟨_, rfl, t, _, _, .int p, rfl, rfl, SqT.of et, at_of (j := 2) rfl rfl, rfl, _, rfl, ?_⟩
          by_cases c2 : p = 0
          · subst c2
            rw [decide_eq_true rfl]
            refine iteT (kk _ _ ⟨rfl, ?_⟩)
            unfold lawW
            rw [if_neg (fun z => z rfl), if_pos rfl]
            rfl
          · rw [decide_eq_false (fun z => c2 (V.int.inj z))]
            refine iteF (kk _ _ ⟨rfl, ?_⟩)
            unfold lawW
            rw [if_neg (fun z => z rfl), if_neg c2]
        · refine ⟨rfl, _, rfl, ?_⟩
          rw [show (!decide (V.str n = V.str st)) = true by rw [decide_eq_false fun z => c1 (V.str.inj z)]; rfl]
          refine iteT ⟨_, rfl, t, _, _, .str n, rfl, rfl, SqT.of et, at_of (j := 1) rfl rfl, rfl, _, rfl, ?_⟩
          by_cases c2 : n = ""
          · subst c2
            rw [show (!decide (V.str "" = V.str "")) = false by rw [decide_eq_true rfl]; rfl]
            refine iteF (kk _ _ ⟨rfl, ?_⟩)
            unfold lawW
            rw [if_pos c1, if_neg (fun z => z rfl)]
            rfl
          · rw [show (!decide (V.str n = V.str "")) = true by rw [decide_eq_false fun z => c2 (V.str.inj z)]; rfl]
            refine iteT (kk _ _ ⟨rfl, ?_⟩)
            unfold lawW
            rw [if_pos c1, if_pos c2]
            rfl
    rintro σ H12 ⟨s12, x8, x9, rfl⟩
    have y12 := y11.sm s12
    have y12 : Y43 K T CC CG CY y dq pd pn [(d0 : Int), d1, d2, d3, d4] nm H12 (gB salt d0 d2 0) (30 + 0) := y12
    clear y11 s12 f1 f2 f3 f4 g1 g30 gst
    refine ⟨4, rfl, by decide, by decide, for_range (lo := 0) (n := 4) (fun i σ H' => Y43 K T CC CG CY y dq pd pn [(d0 : Int), d1, d2, d3, d4] nm H' (gB salt d0 d2 i) (30 + i) ∧ ∃ x5, σ = [some (.ref a), some (.int salt), some (.int z2), some (.ref y), some (.ref pd), x5, some (.ref pn), some (.str st), x8, x9, none]) ⟨y12, _, rfl⟩ ?_ ?_⟩
    · rintro i σ H13 hi ⟨y13, x5, rfl⟩
      dsimp only [gName, List.set]
      rw [Int.zero_add]
      refine ⟨_, rfl, _, rfl, _, _, rfl, rfl, by show 2 ≤ sizeLine; decide, fun p1 n1 => ⟨by show 1 ≤ sizeLine; decide, fun p2 n2 => ⟨by show 2 ≤ sizeLine; decide, fun p3 n3 => ?_⟩⟩⟩
      have u1 := same_upd (T := T) (o := .tup [.int (1 + (i : Int)), .int 2]) n1
      have u2 := same_upd (T := T) (o := .tup [.ref p1]) n2
      have u3 := same_upd (T := T) (o := .tup [.str "lay", .ref p2]) n3
      have hg := gB_lay (salt := salt) (d0 := d0) (d2 := d2) hi
      refine ⟨y, dq, gB salt d0 d2 i, 30 + i, p3, .lay (wyK i), rfl, (y13.sm ((u1.trans u2).trans u3)).ys, dp_lay1 ((u2.trans u3).k upd_same) (u3.k upd_same) upd_same, trivial, fit_B i (by omega), ⟨by show 1 ≤ 1000; decide, ?_⟩, by omega, (y13.sm ((u1.trans u2).trans u3)).ok, fun wn p' H14 x14 ys14 e14 => ?_, fun wd w p' H14 s14 e14 => ?_⟩
      · show Bd 4000 (am 0)
        rw [am_zero]
        exact bd_int (small (by decide))
      · have ys14 : YS K CC CG CY H14 y dq (layS (gB salt d0 d2 i) (wyK i)) (30 + i + 1) := ys14
        have e14 : H14 p' = some (.tup [.str "told", .int ((lyK i).length : Nat)]) := e14
        rw [hg.2] at ys14
        rw [ly_len] at e14
        refine ⟨_, rfl, by show 2 ≤ sizeLine; decide, fun t5 n5 => ⟨_, _, .tuple [.str "told", .int (i : Int)], rfl, dp_toldI ((same_upd (T := T) n5).k e14), dp_toldI upd_same, rfl, fun H15 s15 => ⟨_, rfl, iteF ?_⟩⟩⟩
        exact ⟨((y13.sm ((u1.trans u2).trans u3)).sx x14 ys14).sm ((same_upd n5).trans s15), _, rfl⟩
      · have w : layW _ _ = some wd := w
        rw [hg.1] at w
        cases w
    rintro σ H13 ⟨y13, x5', rfl⟩
    clear y12
    have y13 : Y43 K T CC CG CY y dq pd pn [(d0 : Int), d1, d2, d3, d4] nm H13 (gB salt d0 d2 4) 34 := y13
    refine ⟨_, rfl, by show 2 ≤ sizeLine; decide, fun p1 n1 => ⟨by show 1 ≤ sizeLine; decide, fun p2 n2 => ⟨by show 2 ≤ sizeLine; decide, fun p3 n3 => ?_⟩⟩⟩
    have u1 := same_upd (T := T) (o := .tup [.int 1, .int 1]) n1
    have u2 := same_upd (T := T) (o := .tup [.ref p1]) n2
    have u3 := same_upd (T := T) (o := .tup [.str "lay", .ref p2]) n3
    have y14 := y13.sm ((u1.trans u2).trans u3)
    refine ⟨y, dq, gB salt d0 d2 4, 34, p3, .lay [(1, 1)], rfl, y14.ys, dp_lay1 ((u2.trans u3).k upd_same) (u3.k upd_same) upd_same, trivial, fit_B 4 (Nat.le_refl _), ⟨by show 1 ≤ 1000; decide, (by show Bd 4000 (am 0); rw [am_zero]; exact bd_int (small (by decide)))⟩, by decide, y14.ok, fun wn => ?_, fun wd w p' H15 s15 e15 => ?_⟩
    · have wn : layW (gB salt d0 d2 4) [(1, 1)] = none := wn
      rw [lay_full] at wn
      cases wn
    have w : layW (gB salt d0 d2 4) [(1, 1)] = some wd := w
    rw [lay_full] at w
    cases w
    have y15 := y14.sm s15
    generalize upd (upd (upd H13 p1 _) p2 _) p3 _ = H14 at *
    clear y13 y14 u1 u2 u3 n1 n2 n3 p1 p2 p3 s15
    refine ⟨by show 1 ≤ sizeLine; decide, fun t5 n5 => ⟨_, _, .tuple [.str "full"], rfl, dp_word ((same_upd (T := T) n5).k e15), dp_word upd_same, rfl, fun H16 s16 => ⟨_, rfl, iteF ?_⟩⟩⟩
    have y16 := y15.sm ((same_upd n5).trans s16)
    clear y15 n5 s16 e15
    refine ⟨_, rfl, by show 2 ≤ sizeLine; decide, fun p1 n1 => ⟨by show 1 ≤ sizeLine; decide, fun p2 n2 => ⟨by show 2 ≤ sizeLine; decide, fun p3 n3 => ?_⟩⟩⟩
    have u1 := same_upd (T := T) (o := .tup [.int 0, .int 1]) n1
    have u2 := same_upd (T := T) (o := .tup [.ref p1]) n2
    have u3 := same_upd (T := T) (o := .tup [.str "lay", .ref p2]) n3
    have y17 := y16.sm ((u1.trans u2).trans u3)
    refine ⟨y, dq, gB salt d0 d2 4, 34, p3, .lay [(0, 1)], rfl, y17.ys, dp_lay1 ((u2.trans u3).k upd_same) (u3.k upd_same) upd_same, trivial, fit_B 4 (Nat.le_refl _), ⟨by show 1 ≤ 1000; decide, (by show Bd 4000 (am 0); rw [am_zero]; exact bd_int (small (by decide)))⟩, by decide, y17.ok, fun wn => ?_, fun wd w p' H18 s18 e18 => ?_⟩
    · have wn : layW (gB salt d0 d2 4) [(0, 1)] = none := wn
      rw [lay_bad] at wn
      cases wn
    have w : layW (gB salt d0 d2 4) [(0, 1)] = some wd := w
    rw [lay_bad] at w
    cases w
    have y18 := y17.sm s18
    generalize upd (upd (upd H16 p1 _) p2 _) p3 _ = H17 at *
    clear y16 y17 u1 u2 u3 n1 n2 n3 p1 p2 p3 s18
    refine ⟨by show 1 ≤ sizeLine; decide, fun t5 n5 => ⟨_, _, .tuple [.str "bad way"], rfl, dp_word ((same_upd (T := T) n5).k e18), dp_word upd_same, rfl, fun H19 s19 => ⟨_, rfl, ?_⟩⟩⟩
    have y19 := y18.sm ((same_upd n5).trans s19)
    clear y18 n5 s19 e18
    refine iteF ?_
    obtain ⟨Z, dn, un, eq, hY, eg, hl⟩ := y19.ys
    refine ⟨_, rfl, y, _, _, rfl, hY.ins, fy_no (by decide +kernel), y, Z, dn, un, rfl, hY, fun H20 s20 => ?_⟩
    have y20 := y19.sm s20
    rw [eg]
    clear eg hY eq hl y19
    refine ⟨rfl, _, rfl, ?_⟩
    rw [show (!decide (V.int (((gB salt d0 d2 4).laid.length : Nat) : Int) = V.int 4)) = false by rw [show ((gB salt d0 d2 4).laid.length : Nat) = 4 from ly_len 4]; exact congrArg not (decide_eq_true rfl)]
    refine iteF ?_
    have h3' : d3 < 4 := by omega
    have h4' : d4 < 9 := by omega
    have y20 : Y43 K T CC CG CY y dq pd pn [(d0 : Int), d1, d2, d3, d4] nm H20 (gC salt d0 d2 d3 0) (34 + 0) := by rw [gC_0 h3']; exact y20
    refine ⟨8, rfl, by decide, by decide, for_range (lo := 0) (n := 8) (fun i σ H' => Y43 K T CC CG CY y dq pd pn [(d0 : Int), d1, d2, d3, d4] nm H' (gC salt d0 d2 d3 i) (34 + i) ∧ ∃ x5, σ = [some (.ref a), some (.int salt), some (.int z2), some (.ref y), some (.ref pd), x5, some (.ref pn), some (.str st), x8, x9, none]) ⟨y20, _, rfl⟩ ?_ ?_⟩
    · rintro i σ H21 hi ⟨y21, x5, rfl⟩
      dsimp only [gName, List.set]
      rw [Int.zero_add]
      refine ⟨_, rfl, _, rfl, _, rfl, pn, _, _, .str (hn salt d0 i), rfl, rfl, SqL.of y21.en, at_of (j := i) rfl (nmA (by omega)), _, rfl, pd, _, _, .int (d3 : Int), rfl, rfl, SqL.of y21.ed, at_of (j := 3) rfl rfl, by show 3 ≤ sizeLine; decide, fun p1 n1 => ?_⟩
      have u1 := same_upd (T := T) (o := .tup [.str "send", .str (hn salt d0 i), .int (d3 : Int)]) n1
      have y22 := y21.sm u1
      have hg := send_S (salt := salt) (d0 := d0) (d2 := d2) hi h3'
      have hw := send_C (salt := salt) (d0 := d0) (d2 := d2) (Nat.le_of_lt hi) h3'
      rw [if_pos hi] at hw
      refine ⟨y, dq, gC salt d0 d2 d3 i, 34 + i, p1, .send (hn salt d0 i) (d3 : Int), rfl, y22.ys, dp_send upd_same, trivial, fit_C i (by omega) h3', sz (by have := (hn_ok (salt := salt) (d0 := d0) i).2; omega), by omega, y22.ok, fun wn p' H23 x23 ys23 e23 => ?_, fun wd w p' H23 s23 e23 => ?_⟩
      · have ys23 : YS K CC CG CY H23 y dq (sendS (gC salt d0 d2 d3 i) (hn salt d0 i) (d3 : Int)) (34 + i + 1) := ys23
        have e23 : H23 p' = some (.tup [.str "told", .int ((chI (gC salt d0 d2 d3 i) (d3 : Int)).marks.length : Nat)]) := e23
        rw [hg.1] at ys23
        rw [hg.2] at e23
        refine ⟨_, rfl, by show 2 ≤ sizeLine; decide, fun t5 n5 => ⟨_, _, .tuple [.str "told", .int (i : Int)], rfl, dp_toldI ((same_upd (T := T) n5).k e23), dp_toldI upd_same, rfl, fun H24 s24 => ⟨_, rfl, iteF ?_⟩⟩⟩
        exact ⟨(y22.sx x23 ys23).sm ((same_upd n5).trans s24), _, rfl⟩
      · have w : sendW _ _ _ = some wd := w
        rw [hw] at w
        cases w
    rintro σ H21 ⟨y21, x5'', rfl⟩
    clear y20
    have y21 : Y43 K T CC CG CY y dq pd pn [(d0 : Int), d1, d2, d3, d4] nm H21 (gC salt d0 d2 d3 8) 42 := y21
    refine ⟨_, rfl, _, rfl, pn, _, _, .str (hn salt d0 8), rfl, rfl, SqL.of y21.en, at_of (j := 8) rfl (nmA (by decide)), _, rfl, pd, _, _, .int (d3 : Int), rfl, rfl, SqL.of y21.ed, at_of (j := 3) rfl rfl, by show 3 ≤ sizeLine; decide, fun p1 n1 => ?_⟩
    have u1 := same_upd (T := T) (o := .tup [.str "send", .str (hn salt d0 8), .int (d3 : Int)]) n1
    have y22 := y21.sm u1
    have e1 : upd H21 p1 (.tup [.str "send", .str (hn salt d0 8), .int (d3 : Int)]) p1 = _ := upd_same
    have hw := send_C (salt := salt) (d0 := d0) (d2 := d2) (Nat.le_refl 8) h3'
    rw [if_neg (by decide)] at hw
    clear y21 u1
    generalize upd H21 p1 _ = H22 at *
    refine ⟨y, dq, gC salt d0 d2 d3 8, 42, p1, .send (hn salt d0 8) (d3 : Int), rfl, y22.ys, dp_send e1, trivial, fit_C 8 (Nat.le_refl _) h3', sz (by have := (hn_ok (salt := salt) (d0 := d0) 8).2; omega), by decide, y22.ok, fun wn => ?_, fun wd w p' H23 s23 e23 => ?_⟩
    · have wn : sendW _ _ _ = none := wn
      rw [hw] at wn
      cases wn
    have w : sendW _ _ _ = some wd := w
    rw [hw] at w
    cases w
    have y23 := y22.sm s23
    clear y22 e1 s23
    refine ⟨by show 1 ≤ sizeLine; decide, fun t5 n5 => ⟨_, _, .tuple [.str "full"], rfl, dp_word ((same_upd (T := T) n5).k e23), dp_word upd_same, rfl, fun H24 s24 => ⟨_, rfl, iteF ?_⟩⟩⟩
    have y24 := y23.sm ((same_upd n5).trans s24)
    clear y23 n5 s24 e23 hw n1 p1
    -- the stranger finds no room
    refine ⟨_, rfl, _, rfl, by show 3 ≤ sizeLine; decide, fun p1 n1 => ?_⟩
    have u1 := same_upd (T := T) (o := .tup [.str "hire", .str st, .int 5]) n1
    have y25 := y24.sm u1
    have e1 : upd H24 p1 (.tup [.str "hire", .str st, .int 5]) p1 = _ := upd_same
    have hw : hireW (gC salt d0 d2 d3 8) st 5 = some ("full" : Str) := by
      have := hire4 (g := gC salt d0 d2 d3 8) stB.1 (tm_len 30) (by rw [← hst]; exact tm_str) (.inl ⟨rfl, .inr (by decide)⟩) stN (p := 5) (n := st)
      rw [this]
      unfold lawW
      rw [if_neg (fun z => z rfl), if_neg (by decide)]
    clear y24 u1
    generalize upd H24 p1 _ = H25 at *
    refine ⟨y, dq, gC salt d0 d2 d3 8, 42, p1, .hire st 5, rfl, y25.ys, dp_hire e1, trivial, fit_C 8 (Nat.le_refl _) h3', sz (by omega), by decide, y25.ok, fun wn => ?_, fun wd w p' H26 s26 e26 => ?_⟩
    · have wn : hireW _ _ _ = none := wn
      rw [hw] at wn
      cases wn
    have w : hireW _ _ _ = some wd := w
    rw [hw] at w
    cases w
    have y26 := y25.sm s26
    clear y25 e1 s26
    refine ⟨by show 1 ≤ sizeLine; decide, fun t5 n5 => ⟨_, _, .tuple [.str "full"], rfl, dp_word ((same_upd (T := T) n5).k e26), dp_word upd_same, rfl, fun H27 s27 => ⟨_, rfl, iteF ?_⟩⟩⟩
    have y27 := y26.sm ((same_upd n5).trans s27)
    clear y26 n5 s27 e26 hw n1 p1
    -- one who is busy
    refine ⟨_, rfl, _, rfl, pn, _, _, .str (hn salt d0 3), rfl, rfl, SqL.of y27.en, at_of (j := 3) rfl (nmA (by decide)), by show 3 ≤ sizeLine; decide, fun p1 n1 => ?_⟩
    have u1 := same_upd (T := T) (o := .tup [.str "send", .str (hn salt d0 3), .int 9]) n1
    have y28 := y27.sm u1
    have e1 : upd H27 p1 (.tup [.str "send", .str (hn salt d0 3), .int 9]) p1 = _ := upd_same
    have hw : sendW (gC salt d0 d2 d3 8) (hn salt d0 3) 9 = some ("busy" : Str) := by
      unfold sendW
      rw [idle_C (by decide) (by decide), if_pos (by decide)]
    clear y27 u1
    generalize upd H27 p1 _ = H28 at *
    refine ⟨y, dq, gC salt d0 d2 d3 8, 42, p1, .send (hn salt d0 3) 9, rfl, y28.ys, dp_send e1, trivial, fit_C 8 (Nat.le_refl _) h3', sz (by have := (hn_ok (salt := salt) (d0 := d0) 3).2; omega), by decide, y28.ok, fun wn => ?_, fun wd w p' H29 s29 e29 => ?_⟩
    · have wn : sendW _ _ _ = none := wn
      rw [hw] at wn
      cases wn
    have w : sendW _ _ _ = some wd := w
    rw [hw] at w
    cases w
    have y29 := y28.sm s29
    clear y28 e1 s29
    refine ⟨by show 1 ≤ sizeLine; decide, fun t5 n5 => ⟨_, _, .tuple [.str "busy"], rfl, dp_word ((same_upd (T := T) n5).k e29), dp_word upd_same, rfl, fun H30 s30 => ⟨_, rfl, iteF ?_⟩⟩⟩
    have y30 := y29.sm ((same_upd n5).trans s30)
    clear y29 n5 s30 e29 hw n1 p1
    -- one is dismissed
    refine ⟨_, rfl, _, rfl, _, rfl, pd, _, _, .int (d4 : Int), rfl, rfl, SqL.of y30.ed, at_of (j := 4) rfl rfl, _, _, rfl, rfl, pn, _, _, .str (hn salt d0 (9 + d4)), rfl, rfl, SqL.of y30.en, at_of (j := 9 + d4) (by omega) (nmA (by omega)), by show 2 ≤ sizeLine; decide, fun p1 n1 => ?_⟩
    have u1 := same_upd (T := T) (o := .tup [.str "dismiss", .str (hn salt d0 (9 + d4))]) n1
    have y31 := y30.sm u1
    have e1 : upd H30 p1 (.tup [.str "dismiss", .str (hn salt d0 (9 + d4))]) p1 = _ := upd_same
    clear y30 u1
    generalize upd H30 p1 _ = H31 at *
    refine ⟨y, dq, gC salt d0 d2 d3 8, 42, p1, .dismiss (hn salt d0 (9 + d4)), rfl, y31.ys, dp_dis e1, trivial, fit_C 8 (Nat.le_refl _) h3', trivial, by decide, y31.ok, fun wn p' H32 x32 ys32 e32 => ?_, fun wd w => ?_⟩
    rotate_left
    · have w : idleW _ _ = some wd := w
      rw [dis_C h4'] at w
      cases w
    have ys32 : YS K CC CG CY H32 y dq (gD salt d0 d2 d3 d4) 43 := ys32
    have y32 := y31.sx x32 ys32
    clear y31 e1 x32 ys32 wn
    refine ⟨by show 2 ≤ sizeLine; decide, fun t5 n5 => ⟨_, _, .tuple [.str "told", .none], rfl, dp_toldN ((same_upd (T := T) n5).k e32), dp_toldN upd_same, rfl, fun H33 s33 => ⟨_, rfl, iteF ?_⟩⟩⟩
    have y33 := y32.sm ((same_upd n5).trans s33)
    clear y32 n5 s33 e32 n1 p1
    -- the stranger comes
    refine ⟨_, rfl, _, rfl, by show 3 ≤ sizeLine; decide, fun p1 n1 => ?_⟩
    have u1 := same_upd (T := T) (o := .tup [.str "hire", .str st, .int 12]) n1
    have y34 := y33.sm u1
    have e1 : upd H33 p1 (.tup [.str "hire", .str st, .int 12]) p1 = _ := upd_same
    have hw := hire_D (salt := salt) (d0 := d0) (d2 := d2) (d3 := d3) h4'
    have tE := tmE (salt := salt) (d0 := d0) (d2 := d2) (d3 := d3) h4'
    have pE := paceE (salt := salt) (d0 := d0) (d2 := d2) (d3 := d3) h4'
    have hE := handE (salt := salt) (d0 := d0) (d2 := d2) (d3 := d3) h4'
    have oE := poolE (salt := salt) (d0 := d0) (d2 := d2) (d3 := d3) h4'
    have lD := lenD (salt := salt) (d0 := d0) (d2 := d2) (d3 := d3) h4'
    have gEd : gE salt d0 d2 d3 d4 = hireS (gD salt d0 d2 d3 d4) st 12 := by rw [← hst]; rfl
    rw [hst] at hw tE pE oE
    clear y33 u1
    generalize upd H33 p1 _ = H34 at *
    refine ⟨y, dq, gD salt d0 d2 d3 d4, 43, p1, .hire st 12, rfl, y34.ys, dp_hire e1, trivial, fit_D h3' h4', sz (by omega), by decide, y34.ok, fun wn p' H35 x35 ys35 e35 => ?_, fun wd w => ?_⟩
    rotate_left
    · have w : hireW _ _ _ = some wd := w
      rw [hw] at w
      cases w
    have ys35 : YS K CC CG CY H35 y dq (hireS (gD salt d0 d2 d3 d4) st 12) 44 := ys35
    rw [← gEd] at ys35
    have y35 := y34.sx x35 ys35
    have lE : (gE salt d0 d2 d3 d4).tempos.length = 30 := by rw [tE, List.length_append, lD]; rfl
    clear y34 e1 x35 ys35 wn tE lD gEd hw
    refine ⟨by show 2 ≤ sizeLine; decide, fun t5 n5 => ⟨_, _, .tuple [.str "told", .none], rfl, dp_toldN ((same_upd (T := T) n5).k e35), dp_toldN upd_same, rfl, fun H36 s36 => ⟨_, rfl, iteF ?_⟩⟩⟩
    have y36 := y35.sm ((same_upd n5).trans s36)
    clear y35 n5 s36 e35 n1 p1
    generalize gE salt d0 d2 d3 d4 = g at *
    refine ⟨8, 30, rfl, ⟨by decide, by decide, by decide, by decide⟩, fun pp npp => lc_range (lo := 8) (n := 22) (Qd := _) (fun i H' => Sm T H36 H' ∧ H' pp = some (.lst ((poolK salt d0 d4 i).map V.str))) ⟨same_upd npp, upd_same⟩ ?_ ?_⟩
    · rintro i H37 hi ⟨s37, eP⟩
      have y37 := y36.sm s37
      refine ⟨rfl, ?_⟩
      refine ⟨_, rfl, _, rfl, pd, _, _, .int (d4 : Int), rfl, rfl, SqL.of y37.ed, at_of (j := 4) rfl rfl, _, _, rfl, rfl, rfl, _, rfl, ?_⟩
      have ek : poolK salt d0 d4 (i + 1) = poolK salt d0 d4 i ++ (if decide (8 + i = 9 + d4) then [] else [hn salt d0 (8 + i)]) := by
        unfold poolK
        rw [List.range_succ, List.filter_append, List.map_append]
        congr 1
        cases h : decide (8 + i = 9 + d4) <;> simp [h]
      by_cases c : 8 + i = 9 + d4
      · rw [if_pos (decide_eq_true c), List.append_nil] at ek
        rw [show (!decide (V.int (8 + (i : Int)) = V.int (9 + (d4 : Int)))) = false by rw [decide_eq_true (by congr 1; omega)]; rfl]
        exact iteF ⟨s37, by rw [ek]; exact eP⟩
      · rw [if_neg (by rw [decide_eq_false c]; decide)] at ek
        rw [show (!decide (V.int (8 + (i : Int)) = V.int (9 + (d4 : Int)))) = true by rw [decide_eq_false fun z => c (by have := V.int.inj z; omega)]; rfl]
        refine iteT ⟨_, rfl, _, rfl, pn, _, _, .str (hn salt d0 (8 + i)), rfl, rfl, SqL.of y37.en, at_of (j := 8 + i) (by omega) (nmA (by omega)), _, eP, szl (by rw [List.length_map]; have := poolK_len (salt := salt) (d0 := d0) (d4 := d4) i; omega), same_mut s37 npp eP, ?_⟩
        rw [upd_same, ek, List.map_append]
        rfl
    rintro H37 ⟨s37, eP⟩
    have y37 := y36.sm s37
    clear s37 y36
    refine ⟨_, rfl, by show 1 ≤ sizeLine; decide, fun l2 n2 => ?_⟩
    have u1 := same_upd (T := T) (o := .lst [.str st]) n2
    have y38 := y37.sm u1
    have e2 : upd H37 l2 (.lst [.str st]) l2 = _ := upd_same
    have eP := u1.k eP
    clear y37 u1
    generalize upd H37 l2 _ = H38 at *
    have pl := poolK_len (salt := salt) (d0 := d0) (d4 := d4) 22
    refine ⟨pp, l2, _, _, rfl, rfl, eP, e2, sz (by rw [List.length_map]; show _ + 1 ≤ _; omega), fun l3 n3 => ?_⟩
    have ec : (poolK salt d0 d4 22).map V.str ++ [V.str st] = (poolL g).map V.str := by rw [oE, List.map_append]; rfl
    have u3 := same_upd (T := T) (o := .lst ((poolK salt d0 d4 22).map V.str ++ [V.str st])) n3
    have y39 := y38.sm u3
    have e3 : upd H38 l3 (.lst ((poolK salt d0 d4 22).map V.str ++ [V.str st])) l3 = some (.lst ((poolL g).map V.str)) := by rw [← ec]; exact upd_same
    clear y38 u3 n2 n3 e2 eP ec
    generalize upd H38 l3 _ = H39 at *
    dsimp only [gName, List.set]
    obtain ⟨Z, dn, un, eq, hY, eg, hl⟩ := y39.ys
    subst eg
    refine ⟨_, rfl, y, _, _, rfl, hY.ins, fy_no (by decide +kernel), y, Z, dn, un, rfl, hY, by omega, fun q1 H40 s40 nq eq1 => ?_⟩
    have hY := hY.sm s40
    refine ⟨_, rfl, y, _, _, rfl, hY.ins, fy_no (by decide +kernel), _, rfl, y, Z, dn, un, st, rfl, hY, fun p ep H41 s41 => ?_, fun z => ?_⟩
    rotate_left
    · rw [pE] at z
      cases z
    rw [pE] at ep
    cases ep
    have hY := hY.sm s41
    have s01 := s40.trans s41
    have en := s01.k y39.en
    refine ⟨_, rfl, y, _, _, rfl, hY.ins, fy_no (by decide +kernel), _, rfl, pn, _, _, .str (hn salt d0 7), rfl, rfl, SqL.of en, at_of (j := 7) rfl (nmA (by decide)), y, Z, dn, un, hn salt d0 7, rfl, hY, fun p ep H42 s42 => ?_, fun z => ?_⟩
    rotate_left
    · obtain ⟨v, hv⟩ := hE.1
      rw [hv] at z
      cases z
    rw [hE.2]
    refine ⟨by show 3 ≤ sizeLine; decide, fun r1 nr1 => ?_⟩
    have v1 := same_upd (T := T) (o := .lst [.ref q1, .int 12, optV (some (d3 : Int))]) nr1
    have s03 := s01.trans (s42.trans v1)
    have ed := s03.k y39.ed
    refine ⟨_, rfl, _, rfl, pd, _, _, .int (d3 : Int), rfl, rfl, SqL.of ed, at_of (j := 3) rfl rfl, by show 3 ≤ sizeLine; decide, fun r2 nr2 => ?_⟩
    have v2 := same_upd (T := T) (o := .lst [.ref l3, .int 12, .int (d3 : Int)]) nr2
    have eqF := (s41.trans (s42.trans (v1.trans v2))).k eq1
    have e3F := (s03.trans v2).k e3
    have pL : (poolL (gdOf dn)).length ≤ 9000 := by rw [oE, List.length_append]; show _ + 1 ≤ _; omega
    refine ⟨_, _, .list [.list ((poolL (gdOf dn)).map PyData.str), .int 12, .int (d3 : Int)], rfl, .lst (SqL.of (v2.k upd_same)) (.cons (.lst (SqL.of eqF) (dpa_strs43 _)) (.cons (.int _) (.cons (.int _) .nil))), .lst (SqL.of upd_same) (.cons (.lst (SqL.of e3F) (dpa_strs43 _)) (.cons (.int _) (.cons (.int _) .nil))), ?_, fun H' _ => q _⟩
    show (true && (depOk 4 (.list ((poolL (gdOf dn)).map PyData.str)) && (true && true))) = true
    rw [depOk_strs43 pL]
    rfl

-- wordk 26
end
set_option maxHeartbeats 0 in
theorem all_mk {l : PySem.W.OpenLaw} {w : World} {K : PySem.W.Frag} {h : Heap} {mg : Str → Option Value} {fa : Addr} (X : K.In h) (G : h.Ns mainGlobals mg) (hfa : mg "law" = some (.ref fa)) (c : HrSays hrFx hrFn hrTf hrTs w h K)
    : LamX.LawAtS l w K (L2.CX l.prog w) 34 63 "_law_script" mg fa h := by
  have aCC : mg "Chain" = some (.ref (He.ga K "Chain")) := He.glo_ok X G (c.g 0 rfl)
  have clCC : Cls K (He.ga K "Chain") := He.cls_ok (c.g 1 rfl)
  have mkCC : Mk K (He.ga K "Chain") (He.ma K (He.ga K "Chain") "__init__") := He.mkr_ok (c.g 2 rfl)
  have nFCC_fire : PySem.W.findIn K (.ref (He.ga K "Chain")) "fire" = some none := He.noat_ok (c.g 3 rfl)
  have nFCC_stretches : PySem.W.findIn K (.ref (He.ga K "Chain")) "stretches" = some none := He.noat_ok (c.g 4 rfl)
  have nFCC_now : PySem.W.findIn K (.ref (He.ga K "Chain")) "now" = some none := He.noat_ok (c.g 5 rfl)
  have nFCC_row : PySem.W.findIn K (.ref (He.ga K "Chain")) "row" = some none := He.noat_ok (c.g 6 rfl)
  have nFCC_loads : PySem.W.findIn K (.ref (He.ga K "Chain")) "loads" = some none := He.noat_ok (c.g 7 rfl)
  have nFCC_spots : PySem.W.findIn K (.ref (He.ga K "Chain")) "spots" = some none := He.noat_ok (c.g 8 rfl)
  have nFCC_tempos : PySem.W.findIn K (.ref (He.ga K "Chain")) "tempos" = some none := He.noat_ok (c.g 9 rfl)
  have nFCC_leaving : PySem.W.findIn K (.ref (He.ga K "Chain")) "leaving" = some none := He.noat_ok (c.g 10 rfl)
  have nFCC_ledgers : PySem.W.findIn K (.ref (He.ga K "Chain")) "ledgers" = some none := He.noat_ok (c.g 11 rfl)
  have nFCC_marks : PySem.W.findIn K (.ref (He.ga K "Chain")) "marks" = some none := He.noat_ok (c.g 12 rfl)
  have nFCC_poured : PySem.W.findIn K (.ref (He.ga K "Chain")) "poured" = some none := He.noat_ok (c.g 13 rfl)
  have aCG : mg "Ground" = some (.ref (He.ga K "Ground")) := He.glo_ok X G (c.g 14 rfl)
  have clCG : Cls K (He.ga K "Ground") := He.cls_ok (c.g 15 rfl)
  have mkCG : Mk K (He.ga K "Ground") (He.ma K (He.ga K "Ground") "__init__") := He.mkr_ok (c.g 16 rfl)
  have nFCG_now : PySem.W.findIn K (.ref (He.ga K "Ground")) "now" = some none := He.noat_ok (c.g 17 rfl)
  have nFCG_tempos : PySem.W.findIn K (.ref (He.ga K "Ground")) "tempos" = some none := He.noat_ok (c.g 18 rfl)
  have nFCG_posts : PySem.W.findIn K (.ref (He.ga K "Ground")) "posts" = some none := He.noat_ok (c.g 19 rfl)
  have nFCG_laid : PySem.W.findIn K (.ref (He.ga K "Ground")) "laid" = some none := He.noat_ok (c.g 20 rfl)
  have aCY : mg "Yard" = some (.ref (He.ga K "Yard")) := He.glo_ok X G (c.g 21 rfl)
  have clCY : Cls K (He.ga K "Yard") := He.cls_ok (c.g 22 rfl)
  have mkCY : Mk K (He.ga K "Yard") (He.ma K (He.ga K "Yard") "__init__") := He.mkr_ok (c.g 23 rfl)
  have nFCY_done : PySem.W.findIn K (.ref (He.ga K "Yard")) "done" = some none := He.noat_ok (c.g 24 rfl)
  have nFCY_undone : PySem.W.findIn K (.ref (He.ga K "Yard")) "undone" = some none := He.noat_ok (c.g 25 rfl)
  have a1 : mg "_law_word" = some (.ref (He.ga K "_law_word")) := He.glo_ok X G (c.g 26 rfl)
  obtain ⟨fd1, T1⟩ := c.fun_ (x := "_law_word") (q := "_law_word") (st := s_l_word) (p := ("_law_word", none)) 0 rfl
  have b1 := T1.binds (ps := ["_law_asked"]) fun _ _ _ _ _ _ us hl => match us, hl with | [_], _ => rfl
  have a2 : mg "is_number" = some (.ref (He.ga K "is_number")) := He.glo_ok X G (c.g 27 rfl)
  obtain ⟨fd2, T2⟩ := c.fun_ (x := "is_number") (q := "is_number") (st := s_p_is_number) (p := ("is_number", none)) 1 rfl
  have b2 := T2.binds (ps := ["thing"]) fun _ _ _ _ _ _ us hl => match us, hl with | [_], _ => rfl
  have a3 : mg "is_within" = some (.ref (He.ga K "is_within")) := He.glo_ok X G (c.g 28 rfl)
  obtain ⟨fd3, T3⟩ := c.fun_ (x := "is_within") (q := "is_within") (st := s_p_is_within) (p := ("is_within", none)) 2 rfl
  have b3 := T3.binds (ps := ["thing", "least", "most"]) fun _ _ _ _ _ _ us hl => match us, hl with | [_, _, _], _ => rfl
  have a4 : mg "common_divisor" = some (.ref (He.ga K "common_divisor")) := He.glo_ok X G (c.g 29 rfl)
  obtain ⟨fd4, T4⟩ := c.fun_ (x := "common_divisor") (q := "common_divisor") (st := s_p_common_divisor) (p := ("common_divisor", none)) 3 rfl
  have b4 := T4.binds (ps := ["one", "other"]) fun _ _ _ _ _ _ us hl => match us, hl with | [_, _], _ => rfl
  have a5 : mg "amount" = some (.ref (He.ga K "amount")) := He.glo_ok X G (c.g 30 rfl)
  obtain ⟨fd5, T5⟩ := c.fun_ (x := "amount") (q := "amount") (st := s_p_amount) (p := ("amount", none)) 4 rfl
  have b5 := T5.binds (ps := ["num", "den"]) fun _ _ _ _ _ _ us hl => match us, hl with | [_, _], _ => rfl
  have a6 : mg "plus" = some (.ref (He.ga K "plus")) := He.glo_ok X G (c.g 31 rfl)
  obtain ⟨fd6, T6⟩ := c.fun_ (x := "plus") (q := "plus") (st := s_p_plus) (p := ("plus", none)) 5 rfl
  have b6 := T6.binds (ps := ["one", "other"]) fun _ _ _ _ _ _ us hl => match us, hl with | [_, _], _ => rfl
  have a7 : mg "below" = some (.ref (He.ga K "below")) := He.glo_ok X G (c.g 32 rfl)
  obtain ⟨fd7, T7⟩ := c.fun_ (x := "below") (q := "below") (st := s_p_below) (p := ("below", none)) 6 rfl
  have b7 := T7.binds (ps := ["one", "other"]) fun _ _ _ _ _ _ us hl => match us, hl with | [_, _], _ => rfl
  have a8 : mg "_law_cell" = some (.ref (He.ga K "_law_cell")) := He.glo_ok X G (c.g 33 rfl)
  obtain ⟨fd8, T8⟩ := c.fun_ (x := "_law_cell") (q := "_law_cell") (st := s_l_cell) (p := ("_law_cell", none)) 7 rfl
  have b8 := T8.binds (ps := ["_law_script", "_law_k"]) fun _ _ _ _ _ _ us hl => match us, hl with | [_, _], _ => rfl
  have a9 : mg "check_pace" = some (.ref (He.ga K "check_pace")) := He.glo_ok X G (c.g 34 rfl)
  obtain ⟨fd9, T9⟩ := c.fun_ (x := "check_pace") (q := "check_pace") (st := s_p_check_pace) (p := ("check_pace", none)) 8 rfl
  have b9 := T9.binds (ps := ["pace"]) fun _ _ _ _ _ _ us hl => match us, hl with | [_], _ => rfl
  have a10 : mg "is_name" = some (.ref (He.ga K "is_name")) := He.glo_ok X G (c.g 35 rfl)
  obtain ⟨⟨fd10, T10⟩, H10, n10⟩ := c.fnc X (x := "is_name") (q := "is_name") (st := s_p_is_name) (p := ("is_name", none)) 9 0 rfl rfl
  have b10 := T10.binds (ps := ["text"]) fun _ _ _ _ _ us hl => match us, hl with | [_], _ => rfl
  have a11 : mg "check_name" = some (.ref (He.ga K "check_name")) := He.glo_ok X G (c.g 36 rfl)
  obtain ⟨fd11, T11⟩ := c.fun_ (x := "check_name") (q := "check_name") (st := s_p_check_name) (p := ("check_name", none)) 10 rfl
  have b11 := T11.binds (ps := ["name"]) fun _ _ _ _ _ _ us hl => match us, hl with | [_], _ => rfl
  have a12 : Meth K (He.ga K "Chain") "take_pail" (He.ma K (He.ga K "Chain") "take_pail") := He.meth_ok (c.g 37 rfl)
  obtain ⟨fd12, T12⟩ := c.fun_ (x := "take_pail") (q := "Chain.take_pail") (st := s_p_Chain_take_pail) (p := ("Chain", some "take_pail")) 11 rfl
  have b12 := T12.binds (ps := ["self"]) fun _ _ _ _ _ _ us hl => match us, hl with | [_], _ => rfl
  have a13 : Meth K (He.ga K "Chain") "enter" (He.ma K (He.ga K "Chain") "enter") := He.meth_ok (c.g 38 rfl)
  obtain ⟨fd13, T13⟩ := c.fun_ (x := "enter") (q := "Chain.enter") (st := s_p_Chain_enter) (p := ("Chain", some "enter")) 12 rfl
  have b13 := T13.binds (ps := ["self", "name", "pace"]) fun _ _ _ _ _ _ us hl => match us, hl with | [_, _, _], _ => rfl
  have a14 : mg "is_stretch" = some (.ref (He.ga K "is_stretch")) := He.glo_ok X G (c.g 39 rfl)
  obtain ⟨⟨fd14, T14⟩, H14, n14⟩ := c.fnc X (x := "is_stretch") (q := "is_stretch") (st := s_p_is_stretch) (p := ("is_stretch", none)) 13 1 rfl rfl
  have b14 := T14.binds (ps := ["thing"]) fun _ _ _ _ _ us hl => match us, hl with | [_], _ => rfl
  have a15 : mg "check_way" = some (.ref (He.ga K "check_way")) := He.glo_ok X G (c.g 40 rfl)
  obtain ⟨fd15, T15⟩ := c.fun_ (x := "check_way") (q := "check_way") (st := s_p_check_way) (p := ("check_way", none)) 14 rfl
  have b15 := T15.binds (ps := ["way"]) fun _ _ _ _ _ _ us hl => match us, hl with | [_], _ => rfl
  have a16 : mg "labour" = some (.ref (He.ga K "labour")) := He.glo_ok X G (c.g 41 rfl)
  obtain ⟨⟨fd16, T16⟩, H16, n16⟩ := c.fnc X (x := "labour") (q := "labour") (st := s_p_labour) (p := ("labour", none)) 15 2 rfl rfl
  have b16 := T16.binds (ps := ["way"]) fun _ _ _ _ _ us hl => match us, hl with | [_], _ => rfl
  obtain ⟨fd17, T17⟩ := c.fun_ (x := "__init__") (q := "Chain.__init__") (st := s_p_Chain___init__) (p := ("Chain", some "__init__")) 16 rfl
  have b17 := T17.binds (ps := ["self", "way"]) fun _ _ _ _ _ _ us hl => match us, hl with | [_, _], _ => rfl
  have a18 : Meth K (He.ga K "Chain") "stand_as" (He.ma K (He.ga K "Chain") "stand_as") := He.meth_ok (c.g 42 rfl)
  obtain ⟨fd18, T18⟩ := c.fun_ (x := "stand_as") (q := "Chain.stand_as") (st := s_p_Chain_stand_as) (p := ("Chain", some "stand_as")) 17 rfl
  have b18 := T18.binds (ps := ["self", "other"]) fun _ _ _ _ _ _ us hl => match us, hl with | [_, _], _ => rfl
  have a19 : Meth K (He.ga K "Chain") "twin" (He.ma K (He.ga K "Chain") "twin") := He.meth_ok (c.g 43 rfl)
  obtain ⟨fd19, T19⟩ := c.fun_ (x := "twin") (q := "Chain.twin") (st := s_p_Chain_twin) (p := ("Chain", some "twin")) 18 rfl
  have b19 := T19.binds (ps := ["self"]) fun _ _ _ _ _ _ us hl => match us, hl with | [_], _ => rfl
  have a20 : Meth K (He.ga K "Chain") "hands" (He.ma K (He.ga K "Chain") "hands") := He.meth_ok (c.g 44 rfl)
  obtain ⟨fd20, T20⟩ := c.fun_ (x := "hands") (q := "Chain.hands") (st := s_p_Chain_hands) (p := ("Chain", some "hands")) 19 rfl
  have b20 := T20.binds (ps := ["self"]) fun _ _ _ _ _ _ us hl => match us, hl with | [_], _ => rfl
  have a21 : Meth K (He.ga K "Chain") "emptied" (He.ma K (He.ga K "Chain") "emptied") := He.meth_ok (c.g 45 rfl)
  obtain ⟨fd21, T21⟩ := c.fun_ (x := "emptied") (q := "Chain.emptied") (st := s_p_Chain_emptied) (p := ("Chain", some "emptied")) 20 rfl
  have b21 := T21.binds (ps := ["self"]) fun _ _ _ _ _ _ us hl => match us, hl with | [_], _ => rfl
  have a22 : Meth K (He.ga K "Chain") "pails" (He.ma K (He.ga K "Chain") "pails") := He.meth_ok (c.g 46 rfl)
  obtain ⟨fd22, T22⟩ := c.fun_ (x := "pails") (q := "Chain.pails") (st := s_p_Chain_pails) (p := ("Chain", some "pails")) 21 rfl
  have b22 := T22.binds (ps := ["self"]) fun _ _ _ _ _ _ us hl => match us, hl with | [_], _ => rfl
  have a23 : Meth K (He.ga K "Chain") "number_of" (He.ma K (He.ga K "Chain") "number_of") := He.meth_ok (c.g 47 rfl)
  obtain ⟨fd23, T23⟩ := c.fun_ (x := "number_of") (q := "Chain.number_of") (st := s_p_Chain_number_of) (p := ("Chain", some "number_of")) 22 rfl
  have b23 := T23.binds (ps := ["self", "name"]) fun _ _ _ _ _ _ us hl => match us, hl with | [_, _], _ => rfl
  have a24 : Meth K (He.ga K "Chain") "place" (He.ma K (He.ga K "Chain") "place") := He.meth_ok (c.g 48 rfl)
  obtain ⟨fd24, T24⟩ := c.fun_ (x := "place") (q := "Chain.place") (st := s_p_Chain_place) (p := ("Chain", some "place")) 23 rfl
  have b24 := T24.binds (ps := ["self", "name"]) fun _ _ _ _ _ _ us hl => match us, hl with | [_, _], _ => rfl
  have a25 : Meth K (He.ga K "Chain") "ledger" (He.ma K (He.ga K "Chain") "ledger") := He.meth_ok (c.g 49 rfl)
  obtain ⟨fd25, T25⟩ := c.fun_ (x := "ledger") (q := "Chain.ledger") (st := s_p_Chain_ledger) (p := ("Chain", some "ledger")) 24 rfl
  have b25 := T25.binds (ps := ["self", "name"]) fun _ _ _ _ _ _ us hl => match us, hl with | [_, _], _ => rfl
  have a26 : Meth K (He.ga K "Chain") "paces" (He.ma K (He.ga K "Chain") "paces") := He.meth_ok (c.g 50 rfl)
  obtain ⟨fd26, T26⟩ := c.fun_ (x := "paces") (q := "Chain.paces") (st := s_p_Chain_paces) (p := ("Chain", some "paces")) 25 rfl
  have b26 := T26.binds (ps := ["self"]) fun _ _ _ _ _ _ us hl => match us, hl with | [_], _ => rfl
  have a27 : Meth K (He.ga K "Chain") "mark" (He.ma K (He.ga K "Chain") "mark") := He.meth_ok (c.g 51 rfl)
  obtain ⟨fd27, T27⟩ := c.fun_ (x := "mark") (q := "Chain.mark") (st := s_p_Chain_mark) (p := ("Chain", some "mark")) 26 rfl
  have b27 := T27.binds (ps := ["self", "at"]) fun _ _ _ _ _ _ us hl => match us, hl with | [_, _], _ => rfl
  have a28 : Meth K (He.ga K "Chain") "call" (He.ma K (He.ga K "Chain") "call") := He.meth_ok (c.g 52 rfl)
  obtain ⟨fd28, T28⟩ := c.fun_ (x := "call") (q := "Chain.call") (st := s_p_Chain_call) (p := ("Chain", some "call")) 27 rfl
  have b28 := T28.binds (ps := ["self", "name"]) fun _ _ _ _ _ _ us hl => match us, hl with | [_, _], _ => rfl
  have a29 : Meth K (He.ga K "Chain") "set_pace" (He.ma K (He.ga K "Chain") "set_pace") := He.meth_ok (c.g 53 rfl)
  obtain ⟨fd29, T29⟩ := c.fun_ (x := "set_pace") (q := "Chain.set_pace") (st := s_p_Chain_set_pace) (p := ("Chain", some "set_pace")) 28 rfl
  have b29 := T29.binds (ps := ["self", "name", "pace"]) fun _ _ _ _ _ _ us hl => match us, hl with | [_, _, _], _ => rfl
  have a30 : Meth K (He.ga K "Chain") "stay" (He.ma K (He.ga K "Chain") "stay") := He.meth_ok (c.g 54 rfl)
  obtain ⟨fd30, T30⟩ := c.fun_ (x := "stay") (q := "Chain.stay") (st := s_p_Chain_stay) (p := ("Chain", some "stay")) 29 rfl
  have b30 := T30.binds (ps := ["self", "name"]) fun _ _ _ _ _ _ us hl => match us, hl with | [_, _], _ => rfl
  have a31 : Meth K (He.ga K "Chain") "swap" (He.ma K (He.ga K "Chain") "swap") := He.meth_ok (c.g 55 rfl)
  obtain ⟨fd31, T31⟩ := c.fun_ (x := "swap") (q := "Chain.swap") (st := s_p_Chain_swap) (p := ("Chain", some "swap")) 30 rfl
  have b31 := T31.binds (ps := ["self", "name"]) fun _ _ _ _ _ _ us hl => match us, hl with | [_, _], _ => rfl
  obtain ⟨fd32, T32⟩ := c.fun_ (x := "__init__") (q := "Ground.__init__") (st := s_p_Ground___init__) (p := ("Ground", some "__init__")) 31 rfl
  have b32 := T32.binds (ps := ["self"]) fun _ _ _ _ _ _ us hl => match us, hl with | [_], _ => rfl
  have a33 : Meth K (He.ga K "Ground") "twin" (He.ma K (He.ga K "Ground") "twin") := He.meth_ok (c.g 56 rfl)
  obtain ⟨fd33, T33⟩ := c.fun_ (x := "twin") (q := "Ground.twin") (st := s_p_Ground_twin) (p := ("Ground", some "twin")) 32 rfl
  have b33 := T33.binds (ps := ["self"]) fun _ _ _ _ _ _ us hl => match us, hl with | [_], _ => rfl
  have a34 : Meth K (He.ga K "Ground") "check_hand" (He.ma K (He.ga K "Ground") "check_hand") := He.meth_ok (c.g 57 rfl)
  obtain ⟨fd34, T34⟩ := c.fun_ (x := "check_hand") (q := "Ground.check_hand") (st := s_p_Ground_check_hand) (p := ("Ground", some "check_hand")) 33 rfl
  have b34 := T34.binds (ps := ["self", "name"]) fun _ _ _ _ _ _ us hl => match us, hl with | [_, _], _ => rfl
  have a35 : Meth K (He.ga K "Ground") "check_idle" (He.ma K (He.ga K "Ground") "check_idle") := He.meth_ok (c.g 58 rfl)
  obtain ⟨fd35, T35⟩ := c.fun_ (x := "check_idle") (q := "Ground.check_idle") (st := s_p_Ground_check_idle) (p := ("Ground", some "check_idle")) 34 rfl
  have b35 := T35.binds (ps := ["self", "name"]) fun _ _ _ _ _ _ us hl => match us, hl with | [_, _], _ => rfl
  have a36 : Meth K (He.ga K "Ground") "check_chain" (He.ma K (He.ga K "Ground") "check_chain") := He.meth_ok (c.g 59 rfl)
  obtain ⟨fd36, T36⟩ := c.fun_ (x := "check_chain") (q := "Ground.check_chain") (st := s_p_Ground_check_chain) (p := ("Ground", some "check_chain")) 35 rfl
  have b36 := T36.binds (ps := ["self", "number"]) fun _ _ _ _ _ _ us hl => match us, hl with | [_, _], _ => rfl
  have a37 : Meth K (He.ga K "Ground") "lead" (He.ma K (He.ga K "Ground") "lead") := He.meth_ok (c.g 60 rfl)
  obtain ⟨fd37, T37⟩ := c.fun_ (x := "lead") (q := "Ground.lead") (st := s_p_Ground_lead) (p := ("Ground", some "lead")) 36 rfl
  have b37 := T37.binds (ps := ["self", "number"]) fun _ _ _ _ _ _ us hl => match us, hl with | [_, _], _ => rfl
  have a38 : Meth K (He.ga K "Chain") "walk_for" (He.ma K (He.ga K "Chain") "walk_for") := He.meth_ok (c.g 61 rfl)
  obtain ⟨fd38, T38⟩ := c.fun_ (x := "walk_for") (q := "Chain.walk_for") (st := s_p_Chain_walk_for) (p := ("Chain", some "walk_for")) 37 rfl
  have b38 := T38.binds (ps := ["self", "hours"]) fun _ _ _ _ _ _ us hl => match us, hl with | [_, _], _ => rfl
  have a39 : mg "lay" = some (.ref (He.ga K "lay")) := He.glo_ok X G (c.g 62 rfl)
  obtain ⟨fd39, T39⟩ := c.fun_ (x := "lay") (q := "lay") (st := s_p_lay) (p := ("lay", none)) 38 rfl
  have b39 := T39.binds (ps := ["ground", "way"]) fun _ _ _ _ _ _ us hl => match us, hl with | [_, _], _ => rfl
  have a40 : mg "hire" = some (.ref (He.ga K "hire")) := He.glo_ok X G (c.g 63 rfl)
  obtain ⟨fd40, T40⟩ := c.fun_ (x := "hire") (q := "hire") (st := s_p_hire) (p := ("hire", none)) 39 rfl
  have b40 := T40.binds (ps := ["ground", "name", "pace"]) fun _ _ _ _ _ _ us hl => match us, hl with | [_, _, _], _ => rfl
  have a41 : mg "dismiss" = some (.ref (He.ga K "dismiss")) := He.glo_ok X G (c.g 64 rfl)
  obtain ⟨fd41, T41⟩ := c.fun_ (x := "dismiss") (q := "dismiss") (st := s_p_dismiss) (p := ("dismiss", none)) 40 rfl
  have b41 := T41.binds (ps := ["ground", "name"]) fun _ _ _ _ _ _ us hl => match us, hl with | [_, _], _ => rfl
  have a42 : mg "send" = some (.ref (He.ga K "send")) := He.glo_ok X G (c.g 65 rfl)
  obtain ⟨fd42, T42⟩ := c.fun_ (x := "send") (q := "send") (st := s_p_send) (p := ("send", none)) 41 rfl
  have b42 := T42.binds (ps := ["ground", "name", "number"]) fun _ _ _ _ _ _ us hl => match us, hl with | [_, _, _], _ => rfl
  have a43 : Meth K (He.ga K "Ground") "lead_of" (He.ma K (He.ga K "Ground") "lead_of") := He.meth_ok (c.g 66 rfl)
  obtain ⟨fd43, T43⟩ := c.fun_ (x := "lead_of") (q := "Ground.lead_of") (st := s_p_Ground_lead_of) (p := ("Ground", some "lead_of")) 42 rfl
  have b43 := T43.binds (ps := ["self", "name"]) fun _ _ _ _ _ _ us hl => match us, hl with | [_, _], _ => rfl
  have a44 : mg "call" = some (.ref (He.ga K "call")) := He.glo_ok X G (c.g 67 rfl)
  obtain ⟨fd44, T44⟩ := c.fun_ (x := "call") (q := "call") (st := s_p_call) (p := ("call", none)) 43 rfl
  have b44 := T44.binds (ps := ["ground", "name"]) fun _ _ _ _ _ _ us hl => match us, hl with | [_, _], _ => rfl
  have a45 : mg "stay" = some (.ref (He.ga K "stay")) := He.glo_ok X G (c.g 68 rfl)
  obtain ⟨fd45, T45⟩ := c.fun_ (x := "stay") (q := "stay") (st := s_p_stay) (p := ("stay", none)) 44 rfl
  have b45 := T45.binds (ps := ["ground", "name"]) fun _ _ _ _ _ _ us hl => match us, hl with | [_, _], _ => rfl
  have a46 : mg "swap" = some (.ref (He.ga K "swap")) := He.glo_ok X G (c.g 69 rfl)
  obtain ⟨fd46, T46⟩ := c.fun_ (x := "swap") (q := "swap") (st := s_p_swap) (p := ("swap", none)) 45 rfl
  have b46 := T46.binds (ps := ["ground", "name"]) fun _ _ _ _ _ _ us hl => match us, hl with | [_, _], _ => rfl
  have a47 : mg "set_pace" = some (.ref (He.ga K "set_pace")) := He.glo_ok X G (c.g 70 rfl)
  obtain ⟨fd47, T47⟩ := c.fun_ (x := "set_pace") (q := "set_pace") (st := s_p_set_pace) (p := ("set_pace", none)) 46 rfl
  have b47 := T47.binds (ps := ["ground", "name", "pace"]) fun _ _ _ _ _ _ us hl => match us, hl with | [_, _, _], _ => rfl
  obtain ⟨fd48, T48⟩ := c.fun_ (x := "__init__") (q := "Yard.__init__") (st := s_p_Yard___init__) (p := ("Yard", some "__init__")) 47 rfl
  have b48 := T48.binds (ps := ["self"]) fun _ _ _ _ _ _ us hl => match us, hl with | [_], _ => rfl
  have a49 : Meth K (He.ga K "Yard") "ground" (He.ma K (He.ga K "Yard") "ground") := He.meth_ok (c.g 71 rfl)
  obtain ⟨fd49, T49⟩ := c.fun_ (x := "ground") (q := "Yard.ground") (st := s_p_Yard_ground) (p := ("Yard", some "ground")) 48 rfl
  have b49 := T49.binds (ps := ["self"]) fun _ _ _ _ _ _ us hl => match us, hl with | [_], _ => rfl
  have a50 : Meth K (He.ga K "Yard") "do" (He.ma K (He.ga K "Yard") "do") := He.meth_ok (c.g 72 rfl)
  obtain ⟨fd50, T50⟩ := c.fun_ (x := "do") (q := "Yard.do") (st := s_p_Yard_do) (p := ("Yard", some "do")) 49 rfl
  have b50 := T50.binds (ps := ["self", "deed"]) fun _ _ _ _ _ _ us hl => match us, hl with | [_, _], _ => rfl
  have a51 : Meth K (He.ga K "Yard") "chains" (He.ma K (He.ga K "Yard") "chains") := He.meth_ok (c.g 73 rfl)
  obtain ⟨fd51, T51⟩ := c.fun_ (x := "chains") (q := "Yard.chains") (st := s_p_Yard_chains) (p := ("Yard", some "chains")) 50 rfl
  have b51 := T51.binds (ps := ["self"]) fun _ _ _ _ _ _ us hl => match us, hl with | [_], _ => rfl
  have a52 : Meth K (He.ga K "Yard") "pace" (He.ma K (He.ga K "Yard") "pace") := He.meth_ok (c.g 74 rfl)
  obtain ⟨fd52, T52⟩ := c.fun_ (x := "pace") (q := "Yard.pace") (st := s_p_Yard_pace) (p := ("Yard", some "pace")) 51 rfl
  have b52 := T52.binds (ps := ["self", "name"]) fun _ _ _ _ _ _ us hl => match us, hl with | [_, _], _ => rfl
  have a53 : Meth K (He.ga K "Yard") "where" (He.ma K (He.ga K "Yard") "where") := He.meth_ok (c.g 75 rfl)
  obtain ⟨fd53, T53⟩ := c.fun_ (x := "where") (q := "Yard.where") (st := s_p_Yard_where) (p := ("Yard", some "where")) 52 rfl
  have b53 := T53.binds (ps := ["self", "name"]) fun _ _ _ _ _ _ us hl => match us, hl with | [_, _], _ => rfl
  have a54 : Meth K (He.ga K "Yard") "pool" (He.ma K (He.ga K "Yard") "pool") := He.meth_ok (c.g 76 rfl)
  obtain ⟨fd54, T54⟩ := c.fun_ (x := "pool") (q := "Yard.pool") (st := s_p_Yard_pool) (p := ("Yard", some "pool")) 53 rfl
  have b54 := T54.binds (ps := ["self"]) fun _ _ _ _ _ _ us hl => match us, hl with | [_], _ => rfl
  have a55 : mg "_law_same" = some (.ref (He.ga K "_law_same")) := He.glo_ok X G (c.g 77 rfl)
  obtain ⟨fd55, T55⟩ := c.fun_ (x := "_law_same") (q := "_law_same") (st := s_l_same) (p := ("_law_same", none)) 54 rfl
  have b55 := T55.binds (ps := ["_law_found", "_law_due"]) fun _ _ _ _ _ _ us hl => match us, hl with | [_, _], _ => rfl
  have a56 : mg "_law_draws" = some (.ref (He.ga K "_law_draws")) := He.glo_ok X G (c.g 78 rfl)
  obtain ⟨fd56, T56⟩ := c.fun_ (x := "_law_draws") (q := "_law_draws") (st := s_l_draws) (p := ("_law_draws", none)) 55 rfl
  have b56 := T56.binds (ps := ["_law_cell_here", "_law_parts"]) fun _ _ _ _ _ _ us hl => match us, hl with | [_, _], _ => rfl
  have a57 : mg "_law_name" = some (.ref (He.ga K "_law_name")) := He.glo_ok X G (c.g 79 rfl)
  obtain ⟨fd57, T57⟩ := c.fun_ (x := "_law_name") (q := "_law_name") (st := s_l_name) (p := ("_law_name", none)) 56 rfl
  have b57 := T57.binds (ps := ["_law_k", "_law_salt"]) fun _ _ _ _ _ _ us hl => match us, hl with | [_, _], _ => rfl
  have a58 : mg "_law_split" = some (.ref (He.ga K "_law_split")) := He.glo_ok X G (c.g 80 rfl)
  obtain ⟨fd58, T58⟩ := c.fun_ (x := "_law_split") (q := "_law_split") (st := s_l_split) (p := ("_law_split", none)) 57 rfl
  have b58 := T58.binds (ps := ["_law_cell_here", "_law_many"]) fun _ _ _ _ _ _ us hl => match us, hl with | [_, _], _ => rfl
  have a59 : mg "_law_yard_ask" = some (.ref (He.ga K "_law_yard_ask")) := He.glo_ok X G (c.g 81 rfl)
  obtain ⟨⟨fd59, T59⟩, H59, n59⟩ := c.fnc X (x := "_law_yard_ask") (q := "_law_yard_ask") (st := s_l_yard_ask) (p := ("_law_yard_ask", none)) 58 3 rfl rfl
  have b59 := T59.binds (ps := ["_law_yard", "_law_deed"]) fun _ _ _ _ _ us hl => match us, hl with | [_, _], _ => rfl
  have a60 : mg "law" = some (.ref (He.ga K "law")) := He.glo_ok X G (c.g 82 rfl)
  obtain ⟨fd60, T60⟩ := c.fun_ (x := "law") (q := "law") (st := s_LAW) (p := ("law", none)) 59 rfl
  have aCP : mg "PailError" = some (.ref (He.ga K "PailError")) := He.glo_ok X G (c.g 83 rfl)
  obtain ⟨rdP, gaP, a100, e1P, e2P, e3P, vV⟩ := hrBase_ok (C := (He.ga K "PailError")) (c.f (f := .base "PailError") 84 rfl)
  obtain ⟨fd100, T100⟩ := c.fun_ (x := "__init__") (q := "PailError.__init__") (st := s_p_PailError___init__) (p := ("PailError", some "__init__")) 60 rfl
  have b100 := T100.binds (ps := ["self", "word"]) fun _ _ _ _ _ _ us hl => match us, hl with | [_, _], _ => rfl
  have aC101 : mg "BadWay" = some (.ref (He.ga K "BadWay")) := He.glo_ok X G (c.g 85 rfl)
  obtain ⟨xO101, xF101, xW101, xS101, xT101⟩ := hrErr_ok (CP := (He.ga K "PailError")) (C := (He.ga K "BadWay")) (c.f (f := .err "PailError" "BadWay") 86 rfl)
  have a101 : Meth K (He.ga K "BadWay") "__init__" (He.ma K (He.ga K "BadWay") "__init__") := He.meth_ok (c.g 87 rfl)
  obtain ⟨fd101, T101⟩ := c.fun_ (x := "__init__") (q := "BadWay.__init__") (st := s_p_BadWay___init__) (p := ("BadWay", some "__init__")) 61 rfl
  have b101 := T101.binds (ps := ["self"]) fun _ _ _ _ _ _ us hl => match us, hl with | [_], _ => rfl
  have aC102 : mg "BadName" = some (.ref (He.ga K "BadName")) := He.glo_ok X G (c.g 88 rfl)
  obtain ⟨xO102, xF102, xW102, xS102, xT102⟩ := hrErr_ok (CP := (He.ga K "PailError")) (C := (He.ga K "BadName")) (c.f (f := .err "PailError" "BadName") 89 rfl)
  have a102 : Meth K (He.ga K "BadName") "__init__" (He.ma K (He.ga K "BadName") "__init__") := He.meth_ok (c.g 90 rfl)
  obtain ⟨fd102, T102⟩ := c.fun_ (x := "__init__") (q := "BadName.__init__") (st := s_p_BadName___init__) (p := ("BadName", some "__init__")) 62 rfl
  have b102 := T102.binds (ps := ["self"]) fun _ _ _ _ _ _ us hl => match us, hl with | [_], _ => rfl
  have aC103 : mg "Taken" = some (.ref (He.ga K "Taken")) := He.glo_ok X G (c.g 91 rfl)
  obtain ⟨xO103, xF103, xW103, xS103, xT103⟩ := hrErr_ok (CP := (He.ga K "PailError")) (C := (He.ga K "Taken")) (c.f (f := .err "PailError" "Taken") 92 rfl)
  have a103 : Meth K (He.ga K "Taken") "__init__" (He.ma K (He.ga K "Taken") "__init__") := He.meth_ok (c.g 93 rfl)
  obtain ⟨fd103, T103⟩ := c.fun_ (x := "__init__") (q := "Taken.__init__") (st := s_p_Taken___init__) (p := ("Taken", some "__init__")) 63 rfl
  have b103 := T103.binds (ps := ["self"]) fun _ _ _ _ _ _ us hl => match us, hl with | [_], _ => rfl
  have aC104 : mg "BadPace" = some (.ref (He.ga K "BadPace")) := He.glo_ok X G (c.g 94 rfl)
  obtain ⟨xO104, xF104, xW104, xS104, xT104⟩ := hrErr_ok (CP := (He.ga K "PailError")) (C := (He.ga K "BadPace")) (c.f (f := .err "PailError" "BadPace") 95 rfl)
  have a104 : Meth K (He.ga K "BadPace") "__init__" (He.ma K (He.ga K "BadPace") "__init__") := He.meth_ok (c.g 96 rfl)
  obtain ⟨fd104, T104⟩ := c.fun_ (x := "__init__") (q := "BadPace.__init__") (st := s_p_BadPace___init__) (p := ("BadPace", some "__init__")) 64 rfl
  have b104 := T104.binds (ps := ["self"]) fun _ _ _ _ _ _ us hl => match us, hl with | [_], _ => rfl
  have aC105 : mg "Full" = some (.ref (He.ga K "Full")) := He.glo_ok X G (c.g 97 rfl)
  obtain ⟨xO105, xF105, xW105, xS105, xT105⟩ := hrErr_ok (CP := (He.ga K "PailError")) (C := (He.ga K "Full")) (c.f (f := .err "PailError" "Full") 98 rfl)
  have a105 : Meth K (He.ga K "Full") "__init__" (He.ma K (He.ga K "Full") "__init__") := He.meth_ok (c.g 99 rfl)
  obtain ⟨fd105, T105⟩ := c.fun_ (x := "__init__") (q := "Full.__init__") (st := s_p_Full___init__) (p := ("Full", some "__init__")) 65 rfl
  have b105 := T105.binds (ps := ["self"]) fun _ _ _ _ _ _ us hl => match us, hl with | [_], _ => rfl
  have aC106 : mg "NoHand" = some (.ref (He.ga K "NoHand")) := He.glo_ok X G (c.g 100 rfl)
  obtain ⟨xO106, xF106, xW106, xS106, xT106⟩ := hrErr_ok (CP := (He.ga K "PailError")) (C := (He.ga K "NoHand")) (c.f (f := .err "PailError" "NoHand") 101 rfl)
  have a106 : Meth K (He.ga K "NoHand") "__init__" (He.ma K (He.ga K "NoHand") "__init__") := He.meth_ok (c.g 102 rfl)
  obtain ⟨fd106, T106⟩ := c.fun_ (x := "__init__") (q := "NoHand.__init__") (st := s_p_NoHand___init__) (p := ("NoHand", some "__init__")) 66 rfl
  have b106 := T106.binds (ps := ["self"]) fun _ _ _ _ _ _ us hl => match us, hl with | [_], _ => rfl
  have aC107 : mg "Called" = some (.ref (He.ga K "Called")) := He.glo_ok X G (c.g 103 rfl)
  obtain ⟨xO107, xF107, xW107, xS107, xT107⟩ := hrErr_ok (CP := (He.ga K "PailError")) (C := (He.ga K "Called")) (c.f (f := .err "PailError" "Called") 104 rfl)
  have a107 : Meth K (He.ga K "Called") "__init__" (He.ma K (He.ga K "Called") "__init__") := He.meth_ok (c.g 105 rfl)
  obtain ⟨fd107, T107⟩ := c.fun_ (x := "__init__") (q := "Called.__init__") (st := s_p_Called___init__) (p := ("Called", some "__init__")) 67 rfl
  have b107 := T107.binds (ps := ["self"]) fun _ _ _ _ _ _ us hl => match us, hl with | [_], _ => rfl
  have aC108 : mg "NotCalled" = some (.ref (He.ga K "NotCalled")) := He.glo_ok X G (c.g 106 rfl)
  obtain ⟨xO108, xF108, xW108, xS108, xT108⟩ := hrErr_ok (CP := (He.ga K "PailError")) (C := (He.ga K "NotCalled")) (c.f (f := .err "PailError" "NotCalled") 107 rfl)
  have a108 : Meth K (He.ga K "NotCalled") "__init__" (He.ma K (He.ga K "NotCalled") "__init__") := He.meth_ok (c.g 108 rfl)
  obtain ⟨fd108, T108⟩ := c.fun_ (x := "__init__") (q := "NotCalled.__init__") (st := s_p_NotCalled___init__) (p := ("NotCalled", some "__init__")) 68 rfl
  have b108 := T108.binds (ps := ["self"]) fun _ _ _ _ _ _ us hl => match us, hl with | [_], _ => rfl
  have aC109 : mg "NoNext" = some (.ref (He.ga K "NoNext")) := He.glo_ok X G (c.g 109 rfl)
  obtain ⟨xO109, xF109, xW109, xS109, xT109⟩ := hrErr_ok (CP := (He.ga K "PailError")) (C := (He.ga K "NoNext")) (c.f (f := .err "PailError" "NoNext") 110 rfl)
  have a109 : Meth K (He.ga K "NoNext") "__init__" (He.ma K (He.ga K "NoNext") "__init__") := He.meth_ok (c.g 111 rfl)
  obtain ⟨fd109, T109⟩ := c.fun_ (x := "__init__") (q := "NoNext.__init__") (st := s_p_NoNext___init__) (p := ("NoNext", some "__init__")) 69 rfl
  have b109 := T109.binds (ps := ["self"]) fun _ _ _ _ _ _ us hl => match us, hl with | [_], _ => rfl
  have aC110 : mg "Busy" = some (.ref (He.ga K "Busy")) := He.glo_ok X G (c.g 112 rfl)
  obtain ⟨xO110, xF110, xW110, xS110, xT110⟩ := hrErr_ok (CP := (He.ga K "PailError")) (C := (He.ga K "Busy")) (c.f (f := .err "PailError" "Busy") 113 rfl)
  have a110 : Meth K (He.ga K "Busy") "__init__" (He.ma K (He.ga K "Busy") "__init__") := He.meth_ok (c.g 114 rfl)
  obtain ⟨fd110, T110⟩ := c.fun_ (x := "__init__") (q := "Busy.__init__") (st := s_p_Busy___init__) (p := ("Busy", some "__init__")) 70 rfl
  have b110 := T110.binds (ps := ["self"]) fun _ _ _ _ _ _ us hl => match us, hl with | [_], _ => rfl
  have aC111 : mg "Idle" = some (.ref (He.ga K "Idle")) := He.glo_ok X G (c.g 115 rfl)
  obtain ⟨xO111, xF111, xW111, xS111, xT111⟩ := hrErr_ok (CP := (He.ga K "PailError")) (C := (He.ga K "Idle")) (c.f (f := .err "PailError" "Idle") 116 rfl)
  have a111 : Meth K (He.ga K "Idle") "__init__" (He.ma K (He.ga K "Idle") "__init__") := He.meth_ok (c.g 117 rfl)
  obtain ⟨fd111, T111⟩ := c.fun_ (x := "__init__") (q := "Idle.__init__") (st := s_p_Idle___init__) (p := ("Idle", some "__init__")) 71 rfl
  have b111 := T111.binds (ps := ["self"]) fun _ _ _ _ _ _ us hl => match us, hl with | [_], _ => rfl
  have aC112 : mg "NoChain" = some (.ref (He.ga K "NoChain")) := He.glo_ok X G (c.g 118 rfl)
  obtain ⟨xO112, xF112, xW112, xS112, xT112⟩ := hrErr_ok (CP := (He.ga K "PailError")) (C := (He.ga K "NoChain")) (c.f (f := .err "PailError" "NoChain") 119 rfl)
  have a112 : Meth K (He.ga K "NoChain") "__init__" (He.ma K (He.ga K "NoChain") "__init__") := He.meth_ok (c.g 120 rfl)
  obtain ⟨fd112, T112⟩ := c.fun_ (x := "__init__") (q := "NoChain.__init__") (st := s_p_NoChain___init__) (p := ("NoChain", some "__init__")) 72 rfl
  have b112 := T112.binds (ps := ["self"]) fun _ _ _ _ _ _ us hl => match us, hl with | [_], _ => rfl
  have aC113 : mg "TooLong" = some (.ref (He.ga K "TooLong")) := He.glo_ok X G (c.g 121 rfl)
  obtain ⟨xO113, xF113, xW113, xS113, xT113⟩ := hrErr_ok (CP := (He.ga K "PailError")) (C := (He.ga K "TooLong")) (c.f (f := .err "PailError" "TooLong") 122 rfl)
  have a113 : Meth K (He.ga K "TooLong") "__init__" (He.ma K (He.ga K "TooLong") "__init__") := He.meth_ok (c.g 123 rfl)
  obtain ⟨fd113, T113⟩ := c.fun_ (x := "__init__") (q := "TooLong.__init__") (st := s_p_TooLong___init__) (p := ("TooLong", some "__init__")) 73 rfl
  have b113 := T113.binds (ps := ["self"]) fun _ _ _ _ _ _ us hl => match us, hl with | [_], _ => rfl
  have z_ValueError : mg "ValueError" = none := He.free_ok X G (c.g 124 rfl)
  have z_abs : mg "abs" = none := He.free_ok X G (c.g 125 rfl)
  have z_all : mg "all" = none := He.free_ok X G (c.g 126 rfl)
  have z_bool : mg "bool" = none := He.free_ok X G (c.g 127 rfl)
  have z_dict : mg "dict" = none := He.free_ok X G (c.g 128 rfl)
  have z_int : mg "int" = none := He.free_ok X G (c.g 129 rfl)
  have z_isinstance : mg "isinstance" = none := He.free_ok X G (c.g 130 rfl)
  have z_len : mg "len" = none := He.free_ok X G (c.g 131 rfl)
  have z_list : mg "list" = none := He.free_ok X G (c.g 132 rfl)
  have z_range : mg "range" = none := He.free_ok X G (c.g 133 rfl)
  have z_str : mg "str" = none := He.free_ok X G (c.g 134 rfl)
  have z_sum : mg "sum" = none := He.free_ok X G (c.g 135 rfl)
  have z_tuple : mg "tuple" = none := He.free_ok X G (c.g 136 rfl)
  have y_DEEDS : mg "DEEDS" = some (.ref (He.ga K "DEEDS")) := He.glo_ok X G (c.g 137 rfl)
  obtain ⟨e_DEEDS, n_DEEDS, k_DEEDS⟩ := c.tab (x := "DEEDS") 0 rfl
  have v_DEEDS : ∀ q ∈ tab_DEEDS, ∃ t, PySem.W.nsIn K (He.ga K "DEEDS") q.1 = some (some (.ref t)) ∧ mg q.2 = some (.ref t) := fun q hq => ⟨_, hrKdf_ok (c.f (f := .kdf "DEEDS" tab_DEEDS) 138 rfl) q hq, by
    simp only [tab_DEEDS, List.mem_cons, List.not_mem_nil, or_false] at hq
    rcases hq with rfl | rfl | rfl | rfl | rfl | rfl | rfl | rfl | rfl | rfl
    · exact He.glo_ok X G (c.g 62 rfl)
    · exact He.glo_ok X G (c.g 63 rfl)
    · exact He.glo_ok X G (c.g 64 rfl)
    · exact He.glo_ok X G (c.g 65 rfl)
    · exact He.glo_ok X G (c.g 67 rfl)
    · exact He.glo_ok X G (c.g 68 rfl)
    · exact He.glo_ok X G (c.g 69 rfl)
    · exact He.glo_ok X G (c.g 70 rfl)
    · exact He.glo_ok X G (c.g 139 rfl)
    · exact He.glo_ok X G (c.g 140 rfl)⟩
  obtain ⟨t_MOST_CHAINS, y_MOST_CHAINS⟩ := He.int_ok (x := "MOST_CHAINS") (i := 4) X G (c.g 141 rfl)
  obtain ⟨t_MOST_HANDS, y_MOST_HANDS⟩ := He.int_ok (x := "MOST_HANDS") (i := 8) X G (c.g 142 rfl)
  obtain ⟨t_MOST_HIRED, y_MOST_HIRED⟩ := He.int_ok (x := "MOST_HIRED") (i := 30) X G (c.g 143 rfl)
  obtain ⟨t_MOST_LETTERS, y_MOST_LETTERS⟩ := He.int_ok (x := "MOST_LETTERS") (i := 8) X G (c.g 144 rfl)
  obtain ⟨t_MOST_OUTS, y_MOST_OUTS⟩ := He.int_ok (x := "MOST_OUTS") (i := 60) X G (c.g 145 rfl)
  obtain ⟨t_MOST_PACE, y_MOST_PACE⟩ := He.int_ok (x := "MOST_PACE") (i := 12) X G (c.g 146 rfl)
  obtain ⟨t_MOST_STEPS_OR_TOIL, y_MOST_STEPS_OR_TOIL⟩ := He.int_ok (x := "MOST_STEPS_OR_TOIL") (i := 9) X G (c.g 147 rfl)
  obtain ⟨t_MOST_STRETCHES, y_MOST_STRETCHES⟩ := He.int_ok (x := "MOST_STRETCHES") (i := 6) X G (c.g 148 rfl)
  have y_NOUGHT : mg "NOUGHT" = some (.ref (He.ga K "NOUGHT")) := He.glo_ok X G (c.g 149 rfl)
  have x_NOUGHT : ∀ H, SqT K H (He.ga K "NOUGHT") [.int 0, .int 1] := fun H => He.tupB_ok (c.f (f := .tup "NOUGHT" [.int 0, .int 1]) 150 rfl) H
  have e := hfa.symm.trans a60
  cases e
  have hnT : (([((He.cT K ("is_name", none)).2, none), ((He.cT K ("is_stretch", none)).2, none), ((He.cT K ("labour", none)).2, none), ((He.cT K ("_law_yard_ask", none)).2, some (("_law_yard_ask" : Str) ++ ".<locals>." ++ "<lambda>"))] : Tb).map (·.1)).Nodup := hrNod_ok (c.f (f := .nod hrTf) 151 rfl)
  have B : Bn mg := ⟨z_ValueError, z_abs, z_all, z_bool, z_dict, z_int, z_isinstance, z_len, z_list, z_range, z_str, z_sum, z_tuple⟩
  have Tl := T60
  obtain ⟨ocl, odl, kVl, dcl, pml, anl, cdl, ctl, sll, efl, lkl, cil⟩ := Tl.ex
  have efl2 := efl
  subst efl2
  refine ⟨PySem.W.fnOf "law" "law" (defArgs s_LAW) (defBody s_LAW) (defScope s_LAW) .none kVl dcl pml anl cdl ctl, [((He.cT K ("is_name", none)).1, (He.cT K ("is_name", none)).2), ((He.cT K ("is_stretch", none)).1, (He.cT K ("is_stretch", none)).2), ((He.cT K ("labour", none)).1, (He.cT K ("labour", none)).2), ((He.cT K ("_law_yard_ask", none)).1, (He.cT K ("_law_yard_ask", none)).2)], sp_LAW K [((He.cT K ("is_name", none)).2, none), ((He.cT K ("is_stretch", none)).2, none), ((He.cT K ("labour", none)).2, none), ((He.cT K ("_law_yard_ask", none)).2, some (("_law_yard_ask" : Str) ++ ".<locals>." ++ "<lambda>"))] (He.ga K "PailError") (He.ga K "Chain") (He.ga K "Ground") (He.ga K "Yard"), ?_, ?_, ?_, fun s v => .of_eq rfl, ?_, fun base _ _ TBs => ?_⟩
  · intro p hp
    simp only [List.mem_cons, List.not_mem_nil, or_false] at hp
    rcases hp with rfl | rfl | rfl | rfl
    · exact H10.2
    · exact H14.2
    · exact H16.2
    · exact H59.2
  · intro p hp
    simp only [List.mem_cons, List.not_mem_nil, or_false] at hp
    rcases hp with rfl | rfl | rfl | rfl
    · exact n10
    · exact n14
    · exact n16
    · exact n59
  · intro p hp
    simp only [List.mem_cons, List.not_mem_nil, or_false] at hp
    rcases hp with rfl | rfl | rfl | rfl
    · exact H10.1
    · exact H14.1
    · exact H16.1
    · exact H59.1
  · intro H a ns hlen hbits hT hS
    refine ⟨a, ns, rfl, hS, hlen, hbits, ?_, fun _ => rfl⟩
    intro p hp
    simp only [List.mem_cons, List.not_mem_nil, or_false] at hp
    rcases hp with rfl | rfl | rfl | rfl
    · exact okG0 (hT ((He.cT K ("is_name", none)).1, (He.cT K ("is_name", none)).2) (by simp))
    · exact okG0 (hT ((He.cT K ("is_stretch", none)).1, (He.cT K ("is_stretch", none)).2) (by simp))
    · exact okG0 (hT ((He.cT K ("labour", none)).1, (He.cT K ("labour", none)).2) (by simp))
    · exact okS0 (hT ((He.cT K ("_law_yard_ask", none)).1, (He.cT K ("_law_yard_ask", none)).2) (by simp))
  have B10 : LamX.TabB base mg (He.cT K ("is_name", none)).1 (He.cT K ("is_name", none)).2 := TBs ((He.cT K ("is_name", none)).1, (He.cT K ("is_name", none)).2) (by simp)
  have B14 : LamX.TabB base mg (He.cT K ("is_stretch", none)).1 (He.cT K ("is_stretch", none)).2 := TBs ((He.cT K ("is_stretch", none)).1, (He.cT K ("is_stretch", none)).2) (by simp)
  have B16 : LamX.TabB base mg (He.cT K ("labour", none)).1 (He.cT K ("labour", none)).2 := TBs ((He.cT K ("labour", none)).1, (He.cT K ("labour", none)).2) (by simp)
  have B59 : LamX.TabB base mg (He.cT K ("_law_yard_ask", none)).1 (He.cT K ("_law_yard_ask", none)).2 := TBs ((He.cT K ("_law_yard_ask", none)).1, (He.cT K ("_law_yard_ask", none)).2) (by simp)
  have okP := ok_PailError (P := l.prog) (w := w) (mg := mg) (base := base) T100 z_ValueError vV
  have R_BadWay : Err l.prog w K mg base (He.ga K "PailError") "BadWay" "bad way" := ⟨⟨(He.ga K "BadWay"), _, _, aC101, xO101, xF101, xW101, exm_of e1P e2P e3P xS101, a101.1, xT101, ok_BadWay T101 ⟨rdP, gaP⟩ a100 okP aCP T100.kp b100, b101⟩⟩
  have R_BadName : Err l.prog w K mg base (He.ga K "PailError") "BadName" "bad name" := ⟨⟨(He.ga K "BadName"), _, _, aC102, xO102, xF102, xW102, exm_of e1P e2P e3P xS102, a102.1, xT102, ok_BadName T102 ⟨rdP, gaP⟩ a100 okP aCP T100.kp b100, b102⟩⟩
  have R_Taken : Err l.prog w K mg base (He.ga K "PailError") "Taken" "taken" := ⟨⟨(He.ga K "Taken"), _, _, aC103, xO103, xF103, xW103, exm_of e1P e2P e3P xS103, a103.1, xT103, ok_Taken T103 ⟨rdP, gaP⟩ a100 okP aCP T100.kp b100, b103⟩⟩
  have R_BadPace : Err l.prog w K mg base (He.ga K "PailError") "BadPace" "bad pace" := ⟨⟨(He.ga K "BadPace"), _, _, aC104, xO104, xF104, xW104, exm_of e1P e2P e3P xS104, a104.1, xT104, ok_BadPace T104 ⟨rdP, gaP⟩ a100 okP aCP T100.kp b100, b104⟩⟩
  have R_Full : Err l.prog w K mg base (He.ga K "PailError") "Full" "full" := ⟨⟨(He.ga K "Full"), _, _, aC105, xO105, xF105, xW105, exm_of e1P e2P e3P xS105, a105.1, xT105, ok_Full T105 ⟨rdP, gaP⟩ a100 okP aCP T100.kp b100, b105⟩⟩
  have R_NoHand : Err l.prog w K mg base (He.ga K "PailError") "NoHand" "no hand" := ⟨⟨(He.ga K "NoHand"), _, _, aC106, xO106, xF106, xW106, exm_of e1P e2P e3P xS106, a106.1, xT106, ok_NoHand T106 ⟨rdP, gaP⟩ a100 okP aCP T100.kp b100, b106⟩⟩
  have R_Called : Err l.prog w K mg base (He.ga K "PailError") "Called" "called" := ⟨⟨(He.ga K "Called"), _, _, aC107, xO107, xF107, xW107, exm_of e1P e2P e3P xS107, a107.1, xT107, ok_Called T107 ⟨rdP, gaP⟩ a100 okP aCP T100.kp b100, b107⟩⟩
  have R_NotCalled : Err l.prog w K mg base (He.ga K "PailError") "NotCalled" "not called" := ⟨⟨(He.ga K "NotCalled"), _, _, aC108, xO108, xF108, xW108, exm_of e1P e2P e3P xS108, a108.1, xT108, ok_NotCalled T108 ⟨rdP, gaP⟩ a100 okP aCP T100.kp b100, b108⟩⟩
  have R_NoNext : Err l.prog w K mg base (He.ga K "PailError") "NoNext" "no next" := ⟨⟨(He.ga K "NoNext"), _, _, aC109, xO109, xF109, xW109, exm_of e1P e2P e3P xS109, a109.1, xT109, ok_NoNext T109 ⟨rdP, gaP⟩ a100 okP aCP T100.kp b100, b109⟩⟩
  have R_Busy : Err l.prog w K mg base (He.ga K "PailError") "Busy" "busy" := ⟨⟨(He.ga K "Busy"), _, _, aC110, xO110, xF110, xW110, exm_of e1P e2P e3P xS110, a110.1, xT110, ok_Busy T110 ⟨rdP, gaP⟩ a100 okP aCP T100.kp b100, b110⟩⟩
  have R_Idle : Err l.prog w K mg base (He.ga K "PailError") "Idle" "idle" := ⟨⟨(He.ga K "Idle"), _, _, aC111, xO111, xF111, xW111, exm_of e1P e2P e3P xS111, a111.1, xT111, ok_Idle T111 ⟨rdP, gaP⟩ a100 okP aCP T100.kp b100, b111⟩⟩
  have R_NoChain : Err l.prog w K mg base (He.ga K "PailError") "NoChain" "no chain" := ⟨⟨(He.ga K "NoChain"), _, _, aC112, xO112, xF112, xW112, exm_of e1P e2P e3P xS112, a112.1, xT112, ok_NoChain T112 ⟨rdP, gaP⟩ a100 okP aCP T100.kp b100, b112⟩⟩
  have R_TooLong : Err l.prog w K mg base (He.ga K "PailError") "TooLong" "too long" := ⟨⟨(He.ga K "TooLong"), _, _, aC113, xO113, xF113, xW113, exm_of e1P e2P e3P xS113, a113.1, xT113, ok_TooLong T113 ⟨rdP, gaP⟩ a100 okP aCP T100.kp b100, b113⟩⟩
  have TC : Kl K (He.ga K "Chain") := ⟨clCC, fun f hf => by
    simp only [FLD, List.mem_cons, List.not_mem_nil, or_false] at hf
    rcases hf with rfl | rfl | rfl | rfl | rfl | rfl | rfl | rfl | rfl | rfl | rfl <;> assumption⟩
  have TG : KlG K (He.ga K "Ground") := ⟨clCG, fun f hf => by
    simp only [FLDG, List.mem_cons, List.not_mem_nil, or_false] at hf
    rcases hf with rfl | rfl | rfl | rfl <;> assumption⟩
  have TY : KlY K (He.ga K "Yard") := ⟨clCY, fun f hf => by
    simp only [FLDY, List.mem_cons, List.not_mem_nil, or_false] at hf
    rcases hf with rfl | rfl <;> assumption⟩
  have W : Word K mg (He.ga K "PailError") := ⟨⟨_, _, T1, a1, b1, aCP⟩⟩
  have F_p_common_divisor : Fn l.prog w K mg base 1 "common_divisor" ["one", "other"] (sp_p_common_divisor K [((He.cT K ("is_name", none)).2, none), ((He.cT K ("is_stretch", none)).2, none), ((He.cT K ("labour", none)).2, none), ((He.cT K ("_law_yard_ask", none)).2, some (("_law_yard_ask" : Str) ++ ".<locals>." ++ "<lambda>"))]) := Fn.mk' (ok_p_common_divisor (T := [((He.cT K ("is_name", none)).2, none), ((He.cT K ("is_stretch", none)).2, none), ((He.cT K ("labour", none)).2, none), ((He.cT K ("_law_yard_ask", none)).2, some (("_law_yard_ask" : Str) ++ ".<locals>." ++ "<lambda>"))]) T4    ) a4 T4.kp b4
  have F_p_amount : Fn l.prog w K mg base 2 "amount" ["num", "den"] (sp_p_amount K [((He.cT K ("is_name", none)).2, none), ((He.cT K ("is_stretch", none)).2, none), ((He.cT K ("labour", none)).2, none), ((He.cT K ("_law_yard_ask", none)).2, some (("_law_yard_ask" : Str) ++ ".<locals>." ++ "<lambda>"))]) := Fn.mk' (ok_p_amount (T := [((He.cT K ("is_name", none)).2, none), ((He.cT K ("is_stretch", none)).2, none), ((He.cT K ("labour", none)).2, none), ((He.cT K ("_law_yard_ask", none)).2, some (("_law_yard_ask" : Str) ++ ".<locals>." ++ "<lambda>"))]) T5 B   F_p_common_divisor ) a5 T5.kp b5
  have F_p_plus : Fn l.prog w K mg base 3 "plus" ["one", "other"] (sp_p_plus K [((He.cT K ("is_name", none)).2, none), ((He.cT K ("is_stretch", none)).2, none), ((He.cT K ("labour", none)).2, none), ((He.cT K ("_law_yard_ask", none)).2, some (("_law_yard_ask" : Str) ++ ".<locals>." ++ "<lambda>"))]) := Fn.mk' (ok_p_plus (T := [((He.cT K ("is_name", none)).2, none), ((He.cT K ("is_stretch", none)).2, none), ((He.cT K ("labour", none)).2, none), ((He.cT K ("_law_yard_ask", none)).2, some (("_law_yard_ask" : Str) ++ ".<locals>." ++ "<lambda>"))]) T6   F_p_amount ) a6 T6.kp b6
  have F_p_below : Fn l.prog w K mg base 1 "below" ["one", "other"] (sp_p_below K [((He.cT K ("is_name", none)).2, none), ((He.cT K ("is_stretch", none)).2, none), ((He.cT K ("labour", none)).2, none), ((He.cT K ("_law_yard_ask", none)).2, some (("_law_yard_ask" : Str) ++ ".<locals>." ++ "<lambda>"))]) := Fn.mk' (ok_p_below (T := [((He.cT K ("is_name", none)).2, none), ((He.cT K ("is_stretch", none)).2, none), ((He.cT K ("labour", none)).2, none), ((He.cT K ("_law_yard_ask", none)).2, some (("_law_yard_ask" : Str) ++ ".<locals>." ++ "<lambda>"))]) T7    ) a7 T7.kp b7
  have F_l_cell : Fn l.prog w K mg base 1 "_law_cell" ["_law_script", "_law_k"] (sp_l_cell K [((He.cT K ("is_name", none)).2, none), ((He.cT K ("is_stretch", none)).2, none), ((He.cT K ("labour", none)).2, none), ((He.cT K ("_law_yard_ask", none)).2, some (("_law_yard_ask" : Str) ++ ".<locals>." ++ "<lambda>"))]) := Fn.mk' (ok_l_cell (T := [((He.cT K ("is_name", none)).2, none), ((He.cT K ("is_stretch", none)).2, none), ((He.cT K ("labour", none)).2, none), ((He.cT K ("_law_yard_ask", none)).2, some (("_law_yard_ask" : Str) ++ ".<locals>." ++ "<lambda>"))]) T8 B    ) a8 T8.kp b8
  have F_p_is_number : Fn l.prog w K mg base 1 "is_number" ["thing"] (sp_p_is_number K [((He.cT K ("is_name", none)).2, none), ((He.cT K ("is_stretch", none)).2, none), ((He.cT K ("labour", none)).2, none), ((He.cT K ("_law_yard_ask", none)).2, some (("_law_yard_ask" : Str) ++ ".<locals>." ++ "<lambda>"))]) := Fn.mk' (ok_p_is_number (T := [((He.cT K ("is_name", none)).2, none), ((He.cT K ("is_stretch", none)).2, none), ((He.cT K ("labour", none)).2, none), ((He.cT K ("_law_yard_ask", none)).2, some (("_law_yard_ask" : Str) ++ ".<locals>." ++ "<lambda>"))]) T2 B    ) a2 T2.kp b2
  have F_p_is_within : Fn l.prog w K mg base 2 "is_within" ["thing", "least", "most"] (sp_p_is_within K [((He.cT K ("is_name", none)).2, none), ((He.cT K ("is_stretch", none)).2, none), ((He.cT K ("labour", none)).2, none), ((He.cT K ("_law_yard_ask", none)).2, some (("_law_yard_ask" : Str) ++ ".<locals>." ++ "<lambda>"))]) := Fn.mk' (ok_p_is_within (T := [((He.cT K ("is_name", none)).2, none), ((He.cT K ("is_stretch", none)).2, none), ((He.cT K ("labour", none)).2, none), ((He.cT K ("_law_yard_ask", none)).2, some (("_law_yard_ask" : Str) ++ ".<locals>." ++ "<lambda>"))]) T3   F_p_is_number ) a3 T3.kp b3
  have F_p_check_pace : Fx l.prog w K mg base 4 "check_pace" ["pace"] (sp_p_check_pace K [((He.cT K ("is_name", none)).2, none), ((He.cT K ("is_stretch", none)).2, none), ((He.cT K ("labour", none)).2, none), ((He.cT K ("_law_yard_ask", none)).2, some (("_law_yard_ask" : Str) ++ ".<locals>." ++ "<lambda>"))] (He.ga K "PailError")) := Fx.mk' (ok_p_check_pace (T := [((He.cT K ("is_name", none)).2, none), ((He.cT K ("is_stretch", none)).2, none), ((He.cT K ("labour", none)).2, none), ((He.cT K ("_law_yard_ask", none)).2, some (("_law_yard_ask" : Str) ++ ".<locals>." ++ "<lambda>"))]) T9 ⟨⟨_, rfl⟩, y_MOST_PACE⟩ R_BadPace F_p_is_within ) a9 T9.kp b9
  have F_p_is_name : Fn l.prog w K mg base 1 "is_name" ["text"] (sp_p_is_name K [((He.cT K ("is_name", none)).2, none), ((He.cT K ("is_stretch", none)).2, none), ((He.cT K ("labour", none)).2, none), ((He.cT K ("_law_yard_ask", none)).2, some (("_law_yard_ask" : Str) ++ ".<locals>." ++ "<lambda>"))]) := Fn.mk' (ok_p_is_name (T := [((He.cT K ("is_name", none)).2, none), ((He.cT K ("is_stretch", none)).2, none), ((He.cT K ("labour", none)).2, none), ((He.cT K ("_law_yard_ask", none)).2, some (("_law_yard_ask" : Str) ++ ".<locals>." ++ "<lambda>"))]) T10 hnT (by simp) (gx_lam B10) B ⟨⟨_, rfl⟩, y_MOST_LETTERS⟩   ) a10 T10.kp b10
  have F_p_check_name : Fx l.prog w K mg base 4 "check_name" ["name"] (sp_p_check_name K [((He.cT K ("is_name", none)).2, none), ((He.cT K ("is_stretch", none)).2, none), ((He.cT K ("labour", none)).2, none), ((He.cT K ("_law_yard_ask", none)).2, some (("_law_yard_ask" : Str) ++ ".<locals>." ++ "<lambda>"))] (He.ga K "PailError")) := Fx.mk' (ok_p_check_name (T := [((He.cT K ("is_name", none)).2, none), ((He.cT K ("is_stretch", none)).2, none), ((He.cT K ("labour", none)).2, none), ((He.cT K ("_law_yard_ask", none)).2, some (("_law_yard_ask" : Str) ++ ".<locals>." ++ "<lambda>"))]) T11  R_BadName F_p_is_name ) a11 T11.kp b11
  have M_take_pail : Mt l.prog w K mg base (He.ga K "Chain") 1 "take_pail" ["self"] (sp_p_Chain_take_pail K [((He.cT K ("is_name", none)).2, none), ((He.cT K ("is_stretch", none)).2, none), ((He.cT K ("labour", none)).2, none), ((He.cT K ("_law_yard_ask", none)).2, some (("_law_yard_ask" : Str) ++ ".<locals>." ++ "<lambda>"))] (He.ga K "Chain")) := ⟨⟨_, _, ok_p_Chain_take_pail (T := [((He.cT K ("is_name", none)).2, none), ((He.cT K ("is_stretch", none)).2, none), ((He.cT K ("labour", none)).2, none), ((He.cT K ("_law_yard_ask", none)).2, some (("_law_yard_ask" : Str) ++ ".<locals>." ++ "<lambda>"))]) T12 B y_NOUGHT x_NOUGHT  TC  , a12, b12⟩⟩
  have M_enter : Mx l.prog w K mg base (He.ga K "Chain") 5 "enter" ["self", "name", "pace"] (sp_p_Chain_enter K [((He.cT K ("is_name", none)).2, none), ((He.cT K ("is_stretch", none)).2, none), ((He.cT K ("labour", none)).2, none), ((He.cT K ("_law_yard_ask", none)).2, some (("_law_yard_ask" : Str) ++ ".<locals>." ++ "<lambda>"))] (He.ga K "PailError") (He.ga K "Chain")) := ⟨⟨_, _, ok_p_Chain_enter (T := [((He.cT K ("is_name", none)).2, none), ((He.cT K ("is_stretch", none)).2, none), ((He.cT K ("labour", none)).2, none), ((He.cT K ("_law_yard_ask", none)).2, some (("_law_yard_ask" : Str) ++ ".<locals>." ++ "<lambda>"))]) T13 B ⟨⟨_, rfl⟩, y_MOST_HANDS⟩ y_NOUGHT x_NOUGHT R_Taken R_Full TC F_p_check_pace F_p_check_name M_take_pail , a13, b13⟩⟩
  have F_p_is_stretch : Fn l.prog w K mg base 1 "is_stretch" ["thing"] (sp_p_is_stretch K [((He.cT K ("is_name", none)).2, none), ((He.cT K ("is_stretch", none)).2, none), ((He.cT K ("labour", none)).2, none), ((He.cT K ("_law_yard_ask", none)).2, some (("_law_yard_ask" : Str) ++ ".<locals>." ++ "<lambda>"))]) := Fn.mk' (ok_p_is_stretch (T := [((He.cT K ("is_name", none)).2, none), ((He.cT K ("is_stretch", none)).2, none), ((He.cT K ("labour", none)).2, none), ((He.cT K ("_law_yard_ask", none)).2, some (("_law_yard_ask" : Str) ++ ".<locals>." ++ "<lambda>"))]) T14 hnT (by simp) (gx_lam B14) B ⟨⟨_, rfl⟩, y_MOST_STEPS_OR_TOIL⟩   (with_of T3) T3.kp a3 (num_of T2) T2.kp a2) a14 T14.kp b14
  have F_p_check_way : Fx l.prog w K mg base 4 "check_way" ["way"] (sp_p_check_way K [((He.cT K ("is_name", none)).2, none), ((He.cT K ("is_stretch", none)).2, none), ((He.cT K ("labour", none)).2, none), ((He.cT K ("_law_yard_ask", none)).2, some (("_law_yard_ask" : Str) ++ ".<locals>." ++ "<lambda>"))] (He.ga K "PailError")) := Fx.mk' (ok_p_check_way (T := [((He.cT K ("is_name", none)).2, none), ((He.cT K ("is_stretch", none)).2, none), ((He.cT K ("labour", none)).2, none), ((He.cT K ("_law_yard_ask", none)).2, some (("_law_yard_ask" : Str) ++ ".<locals>." ++ "<lambda>"))]) T15 B ⟨⟨_, rfl⟩, y_MOST_STRETCHES⟩ R_BadWay F_p_is_stretch ) a15 T15.kp b15
  have F_p_labour : Fx l.prog w K mg base 5 "labour" ["way"] (sp_p_labour K [((He.cT K ("is_name", none)).2, none), ((He.cT K ("is_stretch", none)).2, none), ((He.cT K ("labour", none)).2, none), ((He.cT K ("_law_yard_ask", none)).2, some (("_law_yard_ask" : Str) ++ ".<locals>." ++ "<lambda>"))] (He.ga K "PailError")) := Fx.mk' (ok_p_labour (T := [((He.cT K ("is_name", none)).2, none), ((He.cT K ("is_stretch", none)).2, none), ((He.cT K ("labour", none)).2, none), ((He.cT K ("_law_yard_ask", none)).2, some (("_law_yard_ask" : Str) ++ ".<locals>." ++ "<lambda>"))]) T16 hnT (by simp) (gx_lam B16) B   F_p_check_way ) a16 T16.kp b16
  have F_p_check_way_t : Fx l.prog w K mg base 4 "check_way" ["way"] (sp_p_check_way_t K [((He.cT K ("is_name", none)).2, none), ((He.cT K ("is_stretch", none)).2, none), ((He.cT K ("labour", none)).2, none), ((He.cT K ("_law_yard_ask", none)).2, some (("_law_yard_ask" : Str) ++ ".<locals>." ++ "<lambda>"))] (He.ga K "PailError")) := Fx.mk' (ok_p_check_way_t (T := [((He.cT K ("is_name", none)).2, none), ((He.cT K ("is_stretch", none)).2, none), ((He.cT K ("labour", none)).2, none), ((He.cT K ("_law_yard_ask", none)).2, some (("_law_yard_ask" : Str) ++ ".<locals>." ++ "<lambda>"))]) T15 B ⟨⟨_, rfl⟩, y_MOST_STRETCHES⟩ R_BadWay F_p_is_stretch ) a15 T15.kp b15
  have F_p_labour_t : Fx l.prog w K mg base 5 "labour" ["way"] (sp_p_labour_t K [((He.cT K ("is_name", none)).2, none), ((He.cT K ("is_stretch", none)).2, none), ((He.cT K ("labour", none)).2, none), ((He.cT K ("_law_yard_ask", none)).2, some (("_law_yard_ask" : Str) ++ ".<locals>." ++ "<lambda>"))] (He.ga K "PailError")) := Fx.mk' (ok_p_labour_t (T := [((He.cT K ("is_name", none)).2, none), ((He.cT K ("is_stretch", none)).2, none), ((He.cT K ("labour", none)).2, none), ((He.cT K ("_law_yard_ask", none)).2, some (("_law_yard_ask" : Str) ++ ".<locals>." ++ "<lambda>"))]) T16 hnT (by simp) (gx_lam B16) B   F_p_check_way_t ) a16 T16.kp b16
  have M_init : Mnx l.prog w K mg base (He.ga K "Chain") 6 "Chain" ["self", "way"] (sp_p_Chain___init__ K [((He.cT K ("is_name", none)).2, none), ((He.cT K ("is_stretch", none)).2, none), ((He.cT K ("labour", none)).2, none), ((He.cT K ("_law_yard_ask", none)).2, some (("_law_yard_ask" : Str) ++ ".<locals>." ++ "<lambda>"))] (He.ga K "PailError") (He.ga K "Chain")) := ⟨⟨_, _, ok_p_Chain___init__ (T := [((He.cT K ("is_name", none)).2, none), ((He.cT K ("is_stretch", none)).2, none), ((He.cT K ("labour", none)).2, none), ((He.cT K ("_law_yard_ask", none)).2, some (("_law_yard_ask" : Str) ++ ".<locals>." ++ "<lambda>"))]) T17 B y_NOUGHT x_NOUGHT  TC F_p_labour , mkCC, b17, aCC⟩⟩
  have M_init_t : Mnx l.prog w K mg base (He.ga K "Chain") 6 "Chain" ["self", "way"] (sp_p_Chain___init___t K [((He.cT K ("is_name", none)).2, none), ((He.cT K ("is_stretch", none)).2, none), ((He.cT K ("labour", none)).2, none), ((He.cT K ("_law_yard_ask", none)).2, some (("_law_yard_ask" : Str) ++ ".<locals>." ++ "<lambda>"))] (He.ga K "PailError") (He.ga K "Chain")) := ⟨⟨_, _, ok_p_Chain___init___t (T := [((He.cT K ("is_name", none)).2, none), ((He.cT K ("is_stretch", none)).2, none), ((He.cT K ("labour", none)).2, none), ((He.cT K ("_law_yard_ask", none)).2, some (("_law_yard_ask" : Str) ++ ".<locals>." ++ "<lambda>"))]) T17 B y_NOUGHT x_NOUGHT  TC F_p_labour_t , mkCC, b17, aCC⟩⟩
  have M_stand_as : Mt l.prog w K mg base (He.ga K "Chain") 1 "stand_as" ["self", "other"] (sp_p_Chain_stand_as K [((He.cT K ("is_name", none)).2, none), ((He.cT K ("is_stretch", none)).2, none), ((He.cT K ("labour", none)).2, none), ((He.cT K ("_law_yard_ask", none)).2, some (("_law_yard_ask" : Str) ++ ".<locals>." ++ "<lambda>"))] (He.ga K "Chain")) := ⟨⟨_, _, ok_p_Chain_stand_as (T := [((He.cT K ("is_name", none)).2, none), ((He.cT K ("is_stretch", none)).2, none), ((He.cT K ("labour", none)).2, none), ((He.cT K ("_law_yard_ask", none)).2, some (("_law_yard_ask" : Str) ++ ".<locals>." ++ "<lambda>"))]) T18 B   TC  , a18, b18⟩⟩
  have M_twin : Mt l.prog w K mg base (He.ga K "Chain") 8 "twin" ["self"] (sp_p_Chain_twin K [((He.cT K ("is_name", none)).2, none), ((He.cT K ("is_stretch", none)).2, none), ((He.cT K ("labour", none)).2, none), ((He.cT K ("_law_yard_ask", none)).2, some (("_law_yard_ask" : Str) ++ ".<locals>." ++ "<lambda>"))] (He.ga K "Chain")) := ⟨⟨_, _, ok_p_Chain_twin (T := [((He.cT K ("is_name", none)).2, none), ((He.cT K ("is_stretch", none)).2, none), ((He.cT K ("labour", none)).2, none), ((He.cT K ("_law_yard_ask", none)).2, some (("_law_yard_ask" : Str) ++ ".<locals>." ++ "<lambda>"))]) T19   TC M_init_t M_stand_as , a19, b19⟩⟩
  have M_hands : Mt l.prog w K mg base (He.ga K "Chain") 1 "hands" ["self"] (sp_p_Chain_hands K [((He.cT K ("is_name", none)).2, none), ((He.cT K ("is_stretch", none)).2, none), ((He.cT K ("labour", none)).2, none), ((He.cT K ("_law_yard_ask", none)).2, some (("_law_yard_ask" : Str) ++ ".<locals>." ++ "<lambda>"))] (He.ga K "Chain")) := ⟨⟨_, _, ok_p_Chain_hands (T := [((He.cT K ("is_name", none)).2, none), ((He.cT K ("is_stretch", none)).2, none), ((He.cT K ("labour", none)).2, none), ((He.cT K ("_law_yard_ask", none)).2, some (("_law_yard_ask" : Str) ++ ".<locals>." ++ "<lambda>"))]) T20 B   TC  , a20, b20⟩⟩
  have M_emptied : Mt l.prog w K mg base (He.ga K "Chain") 1 "emptied" ["self"] (sp_p_Chain_emptied K [((He.cT K ("is_name", none)).2, none), ((He.cT K ("is_stretch", none)).2, none), ((He.cT K ("labour", none)).2, none), ((He.cT K ("_law_yard_ask", none)).2, some (("_law_yard_ask" : Str) ++ ".<locals>." ++ "<lambda>"))] (He.ga K "Chain")) := ⟨⟨_, _, ok_p_Chain_emptied (T := [((He.cT K ("is_name", none)).2, none), ((He.cT K ("is_stretch", none)).2, none), ((He.cT K ("labour", none)).2, none), ((He.cT K ("_law_yard_ask", none)).2, some (("_law_yard_ask" : Str) ++ ".<locals>." ++ "<lambda>"))]) T21 B   TC  , a21, b21⟩⟩
  have M_pails : Mt l.prog w K mg base (He.ga K "Chain") 1 "pails" ["self"] (sp_p_Chain_pails K [((He.cT K ("is_name", none)).2, none), ((He.cT K ("is_stretch", none)).2, none), ((He.cT K ("labour", none)).2, none), ((He.cT K ("_law_yard_ask", none)).2, some (("_law_yard_ask" : Str) ++ ".<locals>." ++ "<lambda>"))] (He.ga K "Chain")) := ⟨⟨_, _, ok_p_Chain_pails (T := [((He.cT K ("is_name", none)).2, none), ((He.cT K ("is_stretch", none)).2, none), ((He.cT K ("labour", none)).2, none), ((He.cT K ("_law_yard_ask", none)).2, some (("_law_yard_ask" : Str) ++ ".<locals>." ++ "<lambda>"))]) T22 B   TC  , a22, b22⟩⟩
  have M_number_of : Mx l.prog w K mg base (He.ga K "Chain") 4 "number_of" ["self", "name"] (sp_p_Chain_number_of K [((He.cT K ("is_name", none)).2, none), ((He.cT K ("is_stretch", none)).2, none), ((He.cT K ("labour", none)).2, none), ((He.cT K ("_law_yard_ask", none)).2, some (("_law_yard_ask" : Str) ++ ".<locals>." ++ "<lambda>"))] (He.ga K "PailError") (He.ga K "Chain")) := ⟨⟨_, _, ok_p_Chain_number_of (T := [((He.cT K ("is_name", none)).2, none), ((He.cT K ("is_stretch", none)).2, none), ((He.cT K ("labour", none)).2, none), ((He.cT K ("_law_yard_ask", none)).2, some (("_law_yard_ask" : Str) ++ ".<locals>." ++ "<lambda>"))]) T23  R_NoHand TC  , a23, b23⟩⟩
  have M_place : Mx l.prog w K mg base (He.ga K "Chain") 5 "place" ["self", "name"] (sp_p_Chain_place K [((He.cT K ("is_name", none)).2, none), ((He.cT K ("is_stretch", none)).2, none), ((He.cT K ("labour", none)).2, none), ((He.cT K ("_law_yard_ask", none)).2, some (("_law_yard_ask" : Str) ++ ".<locals>." ++ "<lambda>"))] (He.ga K "PailError") (He.ga K "Chain")) := ⟨⟨_, _, ok_p_Chain_place (T := [((He.cT K ("is_name", none)).2, none), ((He.cT K ("is_stretch", none)).2, none), ((He.cT K ("labour", none)).2, none), ((He.cT K ("_law_yard_ask", none)).2, some (("_law_yard_ask" : Str) ++ ".<locals>." ++ "<lambda>"))]) T24   TC M_number_of , a24, b24⟩⟩
  have M_ledger : Mx l.prog w K mg base (He.ga K "Chain") 4 "ledger" ["self", "name"] (sp_p_Chain_ledger K [((He.cT K ("is_name", none)).2, none), ((He.cT K ("is_stretch", none)).2, none), ((He.cT K ("labour", none)).2, none), ((He.cT K ("_law_yard_ask", none)).2, some (("_law_yard_ask" : Str) ++ ".<locals>." ++ "<lambda>"))] (He.ga K "PailError") (He.ga K "Chain")) := ⟨⟨_, _, ok_p_Chain_ledger (T := [((He.cT K ("is_name", none)).2, none), ((He.cT K ("is_stretch", none)).2, none), ((He.cT K ("labour", none)).2, none), ((He.cT K ("_law_yard_ask", none)).2, some (("_law_yard_ask" : Str) ++ ".<locals>." ++ "<lambda>"))]) T25  R_NoHand TC  , a25, b25⟩⟩
  have M_paces : Mt l.prog w K mg base (He.ga K "Chain") 1 "paces" ["self"] (sp_p_Chain_paces K [((He.cT K ("is_name", none)).2, none), ((He.cT K ("is_stretch", none)).2, none), ((He.cT K ("labour", none)).2, none), ((He.cT K ("_law_yard_ask", none)).2, some (("_law_yard_ask" : Str) ++ ".<locals>." ++ "<lambda>"))] (He.ga K "Chain")) := ⟨⟨_, _, ok_p_Chain_paces (T := [((He.cT K ("is_name", none)).2, none), ((He.cT K ("is_stretch", none)).2, none), ((He.cT K ("labour", none)).2, none), ((He.cT K ("_law_yard_ask", none)).2, some (("_law_yard_ask" : Str) ++ ".<locals>." ++ "<lambda>"))]) T26   TC  , a26, b26⟩⟩
  have M_mark : Mt l.prog w K mg base (He.ga K "Chain") 1 "mark" ["self", "at"] (sp_p_Chain_mark K [((He.cT K ("is_name", none)).2, none), ((He.cT K ("is_stretch", none)).2, none), ((He.cT K ("labour", none)).2, none), ((He.cT K ("_law_yard_ask", none)).2, some (("_law_yard_ask" : Str) ++ ".<locals>." ++ "<lambda>"))] (He.ga K "Chain")) := ⟨⟨_, _, ok_p_Chain_mark (T := [((He.cT K ("is_name", none)).2, none), ((He.cT K ("is_stretch", none)).2, none), ((He.cT K ("labour", none)).2, none), ((He.cT K ("_law_yard_ask", none)).2, some (("_law_yard_ask" : Str) ++ ".<locals>." ++ "<lambda>"))]) T27   TC  , a27, b27⟩⟩
  have M_call : Mx l.prog w K mg base (He.ga K "Chain") 5 "call" ["self", "name"] (sp_p_Chain_call K [((He.cT K ("is_name", none)).2, none), ((He.cT K ("is_stretch", none)).2, none), ((He.cT K ("labour", none)).2, none), ((He.cT K ("_law_yard_ask", none)).2, some (("_law_yard_ask" : Str) ++ ".<locals>." ++ "<lambda>"))] (He.ga K "PailError") (He.ga K "Chain")) := ⟨⟨_, _, ok_p_Chain_call (T := [((He.cT K ("is_name", none)).2, none), ((He.cT K ("is_stretch", none)).2, none), ((He.cT K ("labour", none)).2, none), ((He.cT K ("_law_yard_ask", none)).2, some (("_law_yard_ask" : Str) ++ ".<locals>." ++ "<lambda>"))]) T28  R_Called TC M_number_of , a28, b28⟩⟩
  have M_set_pace : Mx l.prog w K mg base (He.ga K "Chain") 5 "set_pace" ["self", "name", "pace"] (sp_p_Chain_set_pace K [((He.cT K ("is_name", none)).2, none), ((He.cT K ("is_stretch", none)).2, none), ((He.cT K ("labour", none)).2, none), ((He.cT K ("_law_yard_ask", none)).2, some (("_law_yard_ask" : Str) ++ ".<locals>." ++ "<lambda>"))] (He.ga K "PailError") (He.ga K "Chain")) := ⟨⟨_, _, ok_p_Chain_set_pace (T := [((He.cT K ("is_name", none)).2, none), ((He.cT K ("is_stretch", none)).2, none), ((He.cT K ("labour", none)).2, none), ((He.cT K ("_law_yard_ask", none)).2, some (("_law_yard_ask" : Str) ++ ".<locals>." ++ "<lambda>"))]) T29   TC F_p_check_pace M_number_of , a29, b29⟩⟩
  have M_stay : Mx l.prog w K mg base (He.ga K "Chain") 5 "stay" ["self", "name"] (sp_p_Chain_stay K [((He.cT K ("is_name", none)).2, none), ((He.cT K ("is_stretch", none)).2, none), ((He.cT K ("labour", none)).2, none), ((He.cT K ("_law_yard_ask", none)).2, some (("_law_yard_ask" : Str) ++ ".<locals>." ++ "<lambda>"))] (He.ga K "PailError") (He.ga K "Chain")) := ⟨⟨_, _, ok_p_Chain_stay (T := [((He.cT K ("is_name", none)).2, none), ((He.cT K ("is_stretch", none)).2, none), ((He.cT K ("labour", none)).2, none), ((He.cT K ("_law_yard_ask", none)).2, some (("_law_yard_ask" : Str) ++ ".<locals>." ++ "<lambda>"))]) T30  R_NotCalled TC M_number_of , a30, b30⟩⟩
  have M_swap : Mx l.prog w K mg base (He.ga K "Chain") 5 "swap" ["self", "name"] (sp_p_Chain_swap K [((He.cT K ("is_name", none)).2, none), ((He.cT K ("is_stretch", none)).2, none), ((He.cT K ("labour", none)).2, none), ((He.cT K ("_law_yard_ask", none)).2, some (("_law_yard_ask" : Str) ++ ".<locals>." ++ "<lambda>"))] (He.ga K "PailError") (He.ga K "Chain")) := ⟨⟨_, _, ok_p_Chain_swap (T := [((He.cT K ("is_name", none)).2, none), ((He.cT K ("is_stretch", none)).2, none), ((He.cT K ("labour", none)).2, none), ((He.cT K ("_law_yard_ask", none)).2, some (("_law_yard_ask" : Str) ++ ".<locals>." ++ "<lambda>"))]) T31 B  R_NoNext TC M_number_of M_mark , a31, b31⟩⟩
  have MG_init : Mn l.prog w K mg base (He.ga K "Ground") 1 "Ground" ["self"] (sp_p_Ground___init__ K [((He.cT K ("is_name", none)).2, none), ((He.cT K ("is_stretch", none)).2, none), ((He.cT K ("labour", none)).2, none), ((He.cT K ("_law_yard_ask", none)).2, some (("_law_yard_ask" : Str) ++ ".<locals>." ++ "<lambda>"))] (He.ga K "Chain") (He.ga K "Ground")) := ⟨⟨_, _, ok_p_Ground___init__ (T := [((He.cT K ("is_name", none)).2, none), ((He.cT K ("is_stretch", none)).2, none), ((He.cT K ("labour", none)).2, none), ((He.cT K ("_law_yard_ask", none)).2, some (("_law_yard_ask" : Str) ++ ".<locals>." ++ "<lambda>"))]) T32 y_NOUGHT x_NOUGHT  TG  , mkCG, b32, aCG⟩⟩
  have MG_twin : Mt l.prog w K mg base (He.ga K "Ground") 3 "twin" ["self"] (sp_p_Ground_twin K [((He.cT K ("is_name", none)).2, none), ((He.cT K ("is_stretch", none)).2, none), ((He.cT K ("labour", none)).2, none), ((He.cT K ("_law_yard_ask", none)).2, some (("_law_yard_ask" : Str) ++ ".<locals>." ++ "<lambda>"))] (He.ga K "Chain") (He.ga K "Ground")) := ⟨⟨_, _, ok_p_Ground_twin (T := [((He.cT K ("is_name", none)).2, none), ((He.cT K ("is_stretch", none)).2, none), ((He.cT K ("labour", none)).2, none), ((He.cT K ("_law_yard_ask", none)).2, some (("_law_yard_ask" : Str) ++ ".<locals>." ++ "<lambda>"))]) T33 B   TG MG_init , a33, b33⟩⟩
  have MG_check_hand : Mx l.prog w K mg base (He.ga K "Ground") 4 "check_hand" ["self", "name"] (sp_p_Ground_check_hand K [((He.cT K ("is_name", none)).2, none), ((He.cT K ("is_stretch", none)).2, none), ((He.cT K ("labour", none)).2, none), ((He.cT K ("_law_yard_ask", none)).2, some (("_law_yard_ask" : Str) ++ ".<locals>." ++ "<lambda>"))] (He.ga K "PailError") (He.ga K "Chain") (He.ga K "Ground")) := ⟨⟨_, _, ok_p_Ground_check_hand (T := [((He.cT K ("is_name", none)).2, none), ((He.cT K ("is_stretch", none)).2, none), ((He.cT K ("labour", none)).2, none), ((He.cT K ("_law_yard_ask", none)).2, some (("_law_yard_ask" : Str) ++ ".<locals>." ++ "<lambda>"))]) T34  R_NoHand TG  , a34, b34⟩⟩
  have MG_check_idle : Mx l.prog w K mg base (He.ga K "Ground") 5 "check_idle" ["self", "name"] (sp_p_Ground_check_idle K [((He.cT K ("is_name", none)).2, none), ((He.cT K ("is_stretch", none)).2, none), ((He.cT K ("labour", none)).2, none), ((He.cT K ("_law_yard_ask", none)).2, some (("_law_yard_ask" : Str) ++ ".<locals>." ++ "<lambda>"))] (He.ga K "PailError") (He.ga K "Chain") (He.ga K "Ground")) := ⟨⟨_, _, ok_p_Ground_check_idle (T := [((He.cT K ("is_name", none)).2, none), ((He.cT K ("is_stretch", none)).2, none), ((He.cT K ("labour", none)).2, none), ((He.cT K ("_law_yard_ask", none)).2, some (("_law_yard_ask" : Str) ++ ".<locals>." ++ "<lambda>"))]) T35  R_Busy TG MG_check_hand , a35, b35⟩⟩
  have MG_check_chain : Mx l.prog w K mg base (He.ga K "Ground") 4 "check_chain" ["self", "number"] (sp_p_Ground_check_chain K [((He.cT K ("is_name", none)).2, none), ((He.cT K ("is_stretch", none)).2, none), ((He.cT K ("labour", none)).2, none), ((He.cT K ("_law_yard_ask", none)).2, some (("_law_yard_ask" : Str) ++ ".<locals>." ++ "<lambda>"))] (He.ga K "PailError") (He.ga K "Chain") (He.ga K "Ground")) := ⟨⟨_, _, ok_p_Ground_check_chain (T := [((He.cT K ("is_name", none)).2, none), ((He.cT K ("is_stretch", none)).2, none), ((He.cT K ("labour", none)).2, none), ((He.cT K ("_law_yard_ask", none)).2, some (("_law_yard_ask" : Str) ++ ".<locals>." ++ "<lambda>"))]) T36 B  R_NoChain TG F_p_is_within , a36, b36⟩⟩
  have MG_lead : Mt l.prog w K mg base (He.ga K "Ground") 9 "lead" ["self", "number"] (sp_p_Ground_lead K [((He.cT K ("is_name", none)).2, none), ((He.cT K ("is_stretch", none)).2, none), ((He.cT K ("labour", none)).2, none), ((He.cT K ("_law_yard_ask", none)).2, some (("_law_yard_ask" : Str) ++ ".<locals>." ++ "<lambda>"))] (He.ga K "Chain") (He.ga K "Ground")) := ⟨⟨_, _, ok_p_Ground_lead (T := [((He.cT K ("is_name", none)).2, none), ((He.cT K ("is_stretch", none)).2, none), ((He.cT K ("labour", none)).2, none), ((He.cT K ("_law_yard_ask", none)).2, some (("_law_yard_ask" : Str) ++ ".<locals>." ++ "<lambda>"))]) T37   TC TG M_twin , a37, b37⟩⟩
  have M_walk_for_e : Mt l.prog w K mg base (He.ga K "Chain") 4 "walk_for" ["self", "hours"] (sp_p_Chain_walk_for_e K [((He.cT K ("is_name", none)).2, none), ((He.cT K ("is_stretch", none)).2, none), ((He.cT K ("labour", none)).2, none), ((He.cT K ("_law_yard_ask", none)).2, some (("_law_yard_ask" : Str) ++ ".<locals>." ++ "<lambda>"))] (He.ga K "Chain")) := ⟨⟨_, _, ok_p_Chain_walk_for_e (T := [((He.cT K ("is_name", none)).2, none), ((He.cT K ("is_stretch", none)).2, none), ((He.cT K ("labour", none)).2, none), ((He.cT K ("_law_yard_ask", none)).2, some (("_law_yard_ask" : Str) ++ ".<locals>." ++ "<lambda>"))]) T38 B ⟨⟨_, rfl⟩, y_MOST_OUTS⟩  TC F_p_plus , a38, b38⟩⟩
  have F_p_lay : Fx l.prog w K mg base 8 "lay" ["ground", "way"] (sp_p_lay K [((He.cT K ("is_name", none)).2, none), ((He.cT K ("is_stretch", none)).2, none), ((He.cT K ("labour", none)).2, none), ((He.cT K ("_law_yard_ask", none)).2, some (("_law_yard_ask" : Str) ++ ".<locals>." ++ "<lambda>"))] (He.ga K "PailError") (He.ga K "Chain") (He.ga K "Ground")) := Fx.mk' (ok_p_lay (T := [((He.cT K ("is_name", none)).2, none), ((He.cT K ("is_stretch", none)).2, none), ((He.cT K ("labour", none)).2, none), ((He.cT K ("_law_yard_ask", none)).2, some (("_law_yard_ask" : Str) ++ ".<locals>." ++ "<lambda>"))]) T39 B ⟨⟨_, rfl⟩, y_MOST_CHAINS⟩ R_Full TC TG M_init_t M_walk_for_e ) a39 T39.kp b39
  have F_p_hire : Fx l.prog w K mg base 5 "hire" ["ground", "name", "pace"] (sp_p_hire K [((He.cT K ("is_name", none)).2, none), ((He.cT K ("is_stretch", none)).2, none), ((He.cT K ("labour", none)).2, none), ((He.cT K ("_law_yard_ask", none)).2, some (("_law_yard_ask" : Str) ++ ".<locals>." ++ "<lambda>"))] (He.ga K "PailError") (He.ga K "Chain") (He.ga K "Ground")) := Fx.mk' (ok_p_hire (T := [((He.cT K ("is_name", none)).2, none), ((He.cT K ("is_stretch", none)).2, none), ((He.cT K ("labour", none)).2, none), ((He.cT K ("_law_yard_ask", none)).2, some (("_law_yard_ask" : Str) ++ ".<locals>." ++ "<lambda>"))]) T40 B ⟨⟨_, rfl⟩, y_MOST_HIRED⟩ R_Taken R_Full TG F_p_check_pace F_p_check_name ) a40 T40.kp b40
  have F_p_dismiss : Fx l.prog w K mg base 6 "dismiss" ["ground", "name"] (sp_p_dismiss K [((He.cT K ("is_name", none)).2, none), ((He.cT K ("is_stretch", none)).2, none), ((He.cT K ("labour", none)).2, none), ((He.cT K ("_law_yard_ask", none)).2, some (("_law_yard_ask" : Str) ++ ".<locals>." ++ "<lambda>"))] (He.ga K "PailError") (He.ga K "Chain") (He.ga K "Ground")) := Fx.mk' (ok_p_dismiss (T := [((He.cT K ("is_name", none)).2, none), ((He.cT K ("is_stretch", none)).2, none), ((He.cT K ("labour", none)).2, none), ((He.cT K ("_law_yard_ask", none)).2, some (("_law_yard_ask" : Str) ++ ".<locals>." ++ "<lambda>"))]) T41   TG MG_check_idle ) a41 T41.kp b41
  have F_p_send : Fx l.prog w K mg base 10 "send" ["ground", "name", "number"] (sp_p_send K [((He.cT K ("is_name", none)).2, none), ((He.cT K ("is_stretch", none)).2, none), ((He.cT K ("labour", none)).2, none), ((He.cT K ("_law_yard_ask", none)).2, some (("_law_yard_ask" : Str) ++ ".<locals>." ++ "<lambda>"))] (He.ga K "PailError") (He.ga K "Chain") (He.ga K "Ground")) := Fx.mk' (ok_p_send (T := [((He.cT K ("is_name", none)).2, none), ((He.cT K ("is_stretch", none)).2, none), ((He.cT K ("labour", none)).2, none), ((He.cT K ("_law_yard_ask", none)).2, some (("_law_yard_ask" : Str) ++ ".<locals>." ++ "<lambda>"))]) T42   TC TG M_enter MG_check_idle MG_check_chain MG_lead ) a42 T42.kp b42
  have MG_lead_of : Mx l.prog w K mg base (He.ga K "Ground") 10 "lead_of" ["self", "name"] (sp_p_Ground_lead_of K [((He.cT K ("is_name", none)).2, none), ((He.cT K ("is_stretch", none)).2, none), ((He.cT K ("labour", none)).2, none), ((He.cT K ("_law_yard_ask", none)).2, some (("_law_yard_ask" : Str) ++ ".<locals>." ++ "<lambda>"))] (He.ga K "PailError") (He.ga K "Chain") (He.ga K "Ground")) := ⟨⟨_, _, ok_p_Ground_lead_of (T := [((He.cT K ("is_name", none)).2, none), ((He.cT K ("is_stretch", none)).2, none), ((He.cT K ("labour", none)).2, none), ((He.cT K ("_law_yard_ask", none)).2, some (("_law_yard_ask" : Str) ++ ".<locals>." ++ "<lambda>"))]) T43  R_Idle TG MG_check_hand MG_lead , a43, b43⟩⟩
  have F_p_call : Fx l.prog w K mg base 11 "call" ["ground", "name"] (sp_p_call K [((He.cT K ("is_name", none)).2, none), ((He.cT K ("is_stretch", none)).2, none), ((He.cT K ("labour", none)).2, none), ((He.cT K ("_law_yard_ask", none)).2, some (("_law_yard_ask" : Str) ++ ".<locals>." ++ "<lambda>"))] (He.ga K "PailError") (He.ga K "Chain") (He.ga K "Ground")) := Fx.mk' (ok_p_call (T := [((He.cT K ("is_name", none)).2, none), ((He.cT K ("is_stretch", none)).2, none), ((He.cT K ("labour", none)).2, none), ((He.cT K ("_law_yard_ask", none)).2, some (("_law_yard_ask" : Str) ++ ".<locals>." ++ "<lambda>"))]) T44   TC TG M_call MG_lead_of ) a44 T44.kp b44
  have F_p_stay : Fx l.prog w K mg base 11 "stay" ["ground", "name"] (sp_p_stay K [((He.cT K ("is_name", none)).2, none), ((He.cT K ("is_stretch", none)).2, none), ((He.cT K ("labour", none)).2, none), ((He.cT K ("_law_yard_ask", none)).2, some (("_law_yard_ask" : Str) ++ ".<locals>." ++ "<lambda>"))] (He.ga K "PailError") (He.ga K "Chain") (He.ga K "Ground")) := Fx.mk' (ok_p_stay (T := [((He.cT K ("is_name", none)).2, none), ((He.cT K ("is_stretch", none)).2, none), ((He.cT K ("labour", none)).2, none), ((He.cT K ("_law_yard_ask", none)).2, some (("_law_yard_ask" : Str) ++ ".<locals>." ++ "<lambda>"))]) T45   TC TG M_stay MG_lead_of ) a45 T45.kp b45
  have F_p_swap : Fx l.prog w K mg base 11 "swap" ["ground", "name"] (sp_p_swap K [((He.cT K ("is_name", none)).2, none), ((He.cT K ("is_stretch", none)).2, none), ((He.cT K ("labour", none)).2, none), ((He.cT K ("_law_yard_ask", none)).2, some (("_law_yard_ask" : Str) ++ ".<locals>." ++ "<lambda>"))] (He.ga K "PailError") (He.ga K "Chain") (He.ga K "Ground")) := Fx.mk' (ok_p_swap (T := [((He.cT K ("is_name", none)).2, none), ((He.cT K ("is_stretch", none)).2, none), ((He.cT K ("labour", none)).2, none), ((He.cT K ("_law_yard_ask", none)).2, some (("_law_yard_ask" : Str) ++ ".<locals>." ++ "<lambda>"))]) T46   TC TG M_swap MG_lead_of ) a46 T46.kp b46
  have F_p_set_pace : Fx l.prog w K mg base 11 "set_pace" ["ground", "name", "pace"] (sp_p_set_pace K [((He.cT K ("is_name", none)).2, none), ((He.cT K ("is_stretch", none)).2, none), ((He.cT K ("labour", none)).2, none), ((He.cT K ("_law_yard_ask", none)).2, some (("_law_yard_ask" : Str) ++ ".<locals>." ++ "<lambda>"))] (He.ga K "PailError") (He.ga K "Chain") (He.ga K "Ground")) := Fx.mk' (ok_p_set_pace (T := [((He.cT K ("is_name", none)).2, none), ((He.cT K ("is_stretch", none)).2, none), ((He.cT K ("labour", none)).2, none), ((He.cT K ("_law_yard_ask", none)).2, some (("_law_yard_ask" : Str) ++ ".<locals>." ++ "<lambda>"))]) T47   TC TG F_p_check_pace M_set_pace MG_check_hand MG_lead_of ) a47 T47.kp b47
  have MY_init : Mn l.prog w K mg base (He.ga K "Yard") 1 "Yard" ["self"] (sp_p_Yard___init__ K [((He.cT K ("is_name", none)).2, none), ((He.cT K ("is_stretch", none)).2, none), ((He.cT K ("labour", none)).2, none), ((He.cT K ("_law_yard_ask", none)).2, some (("_law_yard_ask" : Str) ++ ".<locals>." ++ "<lambda>"))] (He.ga K "Chain") (He.ga K "Ground") (He.ga K "Yard")) := ⟨⟨_, _, ok_p_Yard___init__ (T := [((He.cT K ("is_name", none)).2, none), ((He.cT K ("is_stretch", none)).2, none), ((He.cT K ("labour", none)).2, none), ((He.cT K ("_law_yard_ask", none)).2, some (("_law_yard_ask" : Str) ++ ".<locals>." ++ "<lambda>"))]) T48   TY  , mkCY, b48, aCY⟩⟩
  have MY_ground : Mt l.prog w K mg base (He.ga K "Yard") 3 "ground" ["self"] (sp_p_Yard_ground K [((He.cT K ("is_name", none)).2, none), ((He.cT K ("is_stretch", none)).2, none), ((He.cT K ("labour", none)).2, none), ((He.cT K ("_law_yard_ask", none)).2, some (("_law_yard_ask" : Str) ++ ".<locals>." ++ "<lambda>"))] (He.ga K "Chain") (He.ga K "Ground") (He.ga K "Yard")) := ⟨⟨_, _, ok_p_Yard_ground (T := [((He.cT K ("is_name", none)).2, none), ((He.cT K ("is_stretch", none)).2, none), ((He.cT K ("labour", none)).2, none), ((He.cT K ("_law_yard_ask", none)).2, some (("_law_yard_ask" : Str) ++ ".<locals>." ++ "<lambda>"))]) T49   TG TY MG_init , a49, b49⟩⟩
  have MY_do : Mx l.prog w K mg base (He.ga K "Yard") 22 "do" ["self", "deed"] (sp_p_Yard_do K [((He.cT K ("is_name", none)).2, none), ((He.cT K ("is_stretch", none)).2, none), ((He.cT K ("labour", none)).2, none), ((He.cT K ("_law_yard_ask", none)).2, some (("_law_yard_ask" : Str) ++ ".<locals>." ++ "<lambda>"))] (He.ga K "PailError") (He.ga K "Chain") (He.ga K "Ground") (He.ga K "Yard")) := ⟨⟨_, _, ok_p_Yard_do (T := [((He.cT K ("is_name", none)).2, none), ((He.cT K ("is_stretch", none)).2, none), ((He.cT K ("labour", none)).2, none), ((He.cT K ("_law_yard_ask", none)).2, some (("_law_yard_ask" : Str) ++ ".<locals>." ++ "<lambda>"))]) T50 B y_DEEDS k_DEEDS v_DEEDS  TG TY MG_twin F_p_lay F_p_hire F_p_dismiss F_p_send F_p_call F_p_stay F_p_swap F_p_set_pace MY_ground , a50, b50⟩⟩
  have MY_chains : Mt l.prog w K mg base (He.ga K "Yard") 4 "chains" ["self"] (sp_p_Yard_chains K [((He.cT K ("is_name", none)).2, none), ((He.cT K ("is_stretch", none)).2, none), ((He.cT K ("labour", none)).2, none), ((He.cT K ("_law_yard_ask", none)).2, some (("_law_yard_ask" : Str) ++ ".<locals>." ++ "<lambda>"))] (He.ga K "Chain") (He.ga K "Ground") (He.ga K "Yard")) := ⟨⟨_, _, ok_p_Yard_chains (T := [((He.cT K ("is_name", none)).2, none), ((He.cT K ("is_stretch", none)).2, none), ((He.cT K ("labour", none)).2, none), ((He.cT K ("_law_yard_ask", none)).2, some (("_law_yard_ask" : Str) ++ ".<locals>." ++ "<lambda>"))]) T51 B   TG TY MY_ground , a51, b51⟩⟩
  have MY_pace : Mx l.prog w K mg base (He.ga K "Yard") 5 "pace" ["self", "name"] (sp_p_Yard_pace K [((He.cT K ("is_name", none)).2, none), ((He.cT K ("is_stretch", none)).2, none), ((He.cT K ("labour", none)).2, none), ((He.cT K ("_law_yard_ask", none)).2, some (("_law_yard_ask" : Str) ++ ".<locals>." ++ "<lambda>"))] (He.ga K "PailError") (He.ga K "Chain") (He.ga K "Ground") (He.ga K "Yard")) := ⟨⟨_, _, ok_p_Yard_pace (T := [((He.cT K ("is_name", none)).2, none), ((He.cT K ("is_stretch", none)).2, none), ((He.cT K ("labour", none)).2, none), ((He.cT K ("_law_yard_ask", none)).2, some (("_law_yard_ask" : Str) ++ ".<locals>." ++ "<lambda>"))]) T52   TG TY MG_check_hand MY_ground , a52, b52⟩⟩
  have MY_where : Mx l.prog w K mg base (He.ga K "Yard") 5 "where" ["self", "name"] (sp_p_Yard_where K [((He.cT K ("is_name", none)).2, none), ((He.cT K ("is_stretch", none)).2, none), ((He.cT K ("labour", none)).2, none), ((He.cT K ("_law_yard_ask", none)).2, some (("_law_yard_ask" : Str) ++ ".<locals>." ++ "<lambda>"))] (He.ga K "PailError") (He.ga K "Chain") (He.ga K "Ground") (He.ga K "Yard")) := ⟨⟨_, _, ok_p_Yard_where (T := [((He.cT K ("is_name", none)).2, none), ((He.cT K ("is_stretch", none)).2, none), ((He.cT K ("labour", none)).2, none), ((He.cT K ("_law_yard_ask", none)).2, some (("_law_yard_ask" : Str) ++ ".<locals>." ++ "<lambda>"))]) T53   TG TY MG_check_hand MY_ground , a53, b53⟩⟩
  have MY_pool : Mt l.prog w K mg base (He.ga K "Yard") 4 "pool" ["self"] (sp_p_Yard_pool K [((He.cT K ("is_name", none)).2, none), ((He.cT K ("is_stretch", none)).2, none), ((He.cT K ("labour", none)).2, none), ((He.cT K ("_law_yard_ask", none)).2, some (("_law_yard_ask" : Str) ++ ".<locals>." ++ "<lambda>"))] (He.ga K "Chain") (He.ga K "Ground") (He.ga K "Yard")) := ⟨⟨_, _, ok_p_Yard_pool (T := [((He.cT K ("is_name", none)).2, none), ((He.cT K ("is_stretch", none)).2, none), ((He.cT K ("labour", none)).2, none), ((He.cT K ("_law_yard_ask", none)).2, some (("_law_yard_ask" : Str) ++ ".<locals>." ++ "<lambda>"))]) T54   TG TY MY_ground , a54, b54⟩⟩
  have F_l_same : Fn l.prog w K mg base 6 "_law_same" ["_law_found", "_law_due"] (sp_l_same K [((He.cT K ("is_name", none)).2, none), ((He.cT K ("is_stretch", none)).2, none), ((He.cT K ("labour", none)).2, none), ((He.cT K ("_law_yard_ask", none)).2, some (("_law_yard_ask" : Str) ++ ".<locals>." ++ "<lambda>"))]) := Fn.mk' (ok_l_same (T := [((He.cT K ("is_name", none)).2, none), ((He.cT K ("is_stretch", none)).2, none), ((He.cT K ("labour", none)).2, none), ((He.cT K ("_law_yard_ask", none)).2, some (("_law_yard_ask" : Str) ++ ".<locals>." ++ "<lambda>"))]) T55 B a55 b55    ) a55 T55.kp b55
  have F_l_draws_f : Fn l.prog w K mg base 1 "_law_draws" ["_law_cell_here", "_law_parts"] (sp_l_draws_f K [((He.cT K ("is_name", none)).2, none), ((He.cT K ("is_stretch", none)).2, none), ((He.cT K ("labour", none)).2, none), ((He.cT K ("_law_yard_ask", none)).2, some (("_law_yard_ask" : Str) ++ ".<locals>." ++ "<lambda>"))]) := Fn.mk' (ok_l_draws_f (T := [((He.cT K ("is_name", none)).2, none), ((He.cT K ("is_stretch", none)).2, none), ((He.cT K ("labour", none)).2, none), ((He.cT K ("_law_yard_ask", none)).2, some (("_law_yard_ask" : Str) ++ ".<locals>." ++ "<lambda>"))]) T56    ) a56 T56.kp b56
  have F_l_name : Fn l.prog w K mg base 2 "_law_name" ["_law_k", "_law_salt"] (sp_l_name K [((He.cT K ("is_name", none)).2, none), ((He.cT K ("is_stretch", none)).2, none), ((He.cT K ("labour", none)).2, none), ((He.cT K ("_law_yard_ask", none)).2, some (("_law_yard_ask" : Str) ++ ".<locals>." ++ "<lambda>"))]) := Fn.mk' (ok_l_name (T := [((He.cT K ("is_name", none)).2, none), ((He.cT K ("is_stretch", none)).2, none), ((He.cT K ("labour", none)).2, none), ((He.cT K ("_law_yard_ask", none)).2, some (("_law_yard_ask" : Str) ++ ".<locals>." ++ "<lambda>"))]) T57   F_l_draws_f ) a57 T57.kp b57
  have F_l_split : Fn l.prog w K mg base 1 "_law_split" ["_law_cell_here", "_law_many"] (sp_l_split K [((He.cT K ("is_name", none)).2, none), ((He.cT K ("is_stretch", none)).2, none), ((He.cT K ("labour", none)).2, none), ((He.cT K ("_law_yard_ask", none)).2, some (("_law_yard_ask" : Str) ++ ".<locals>." ++ "<lambda>"))]) := Fn.mk' (ok_l_split (T := [((He.cT K ("is_name", none)).2, none), ((He.cT K ("is_stretch", none)).2, none), ((He.cT K ("labour", none)).2, none), ((He.cT K ("_law_yard_ask", none)).2, some (("_law_yard_ask" : Str) ++ ".<locals>." ++ "<lambda>"))]) T58 B    ) a58 T58.kp b58
  have F_l_yard_ask : Fn l.prog w K mg base 30 "_law_yard_ask" ["_law_yard", "_law_deed"] (sp_l_yard_ask K [((He.cT K ("is_name", none)).2, none), ((He.cT K ("is_stretch", none)).2, none), ((He.cT K ("labour", none)).2, none), ((He.cT K ("_law_yard_ask", none)).2, some (("_law_yard_ask" : Str) ++ ".<locals>." ++ "<lambda>"))] (He.ga K "Chain") (He.ga K "Ground") (He.ga K "Yard")) := Fn.mk' (ok_l_yard_ask (T := [((He.cT K ("is_name", none)).2, none), ((He.cT K ("is_stretch", none)).2, none), ((He.cT K ("labour", none)).2, none), ((He.cT K ("_law_yard_ask", none)).2, some (("_law_yard_ask" : Str) ++ ".<locals>." ++ "<lambda>"))]) T59 hnT (by simp) B59   W TY MY_do ) a59 T59.kp b59
  exact ok_LAW (T := [((He.cT K ("is_name", none)).2, none), ((He.cT K ("is_stretch", none)).2, none), ((He.cT K ("labour", none)).2, none), ((He.cT K ("_law_yard_ask", none)).2, some (("_law_yard_ask" : Str) ++ ".<locals>." ++ "<lambda>"))]) T60 B   TY F_l_cell MY_init MY_do MY_chains MY_pace MY_where MY_pool F_l_same F_l_draws_f F_l_name F_l_split F_l_yard_ask 
end My
open PySem PySem.W PyProof.Rows
set_option maxRecDepth 100000 in
set_option maxHeartbeats 0 in
theorem PySem.Challenge.cw_pailchain_k43_thirty_hands_and_four_chai_holds : PySem.Challenge.rw_pailchain_k43_thirty_hands_and_four_chai.Holds := by
  w_on; o_law
  refine HandSHeadRun.head_any (r := (PySem.W.OpenLaw.row PySem.Challenge.rw_pailchain_k43_thirty_hands_and_four_chai)) (q := view (OpenLaw.row PySem.Challenge.rw_pailchain_k43_thirty_hands_and_four_chai).prog [82]) (H := My.hrHook My.hrFx My.hrFn My.hrTf My.hrTs) (ob := My.hrOb My.hrFx My.hrFn My.hrTf My.hrTs) (M := 60000) (loose := My.hrLoose) (d := HandSHeadRun.topDef (OpenLaw.row PySem.Challenge.rw_pailchain_k43_thirty_hands_and_four_chai).prog 82) (kwd := []) My.hrOb_eq (by kernel_rfl) (fun s => by kernel_rfl) My.hrRun (by kernel_rfl) (by kernel_rfl) (by kernel_rfl) (by rfl) (by first | assumption | decide +kernel) (by decide +kernel) ⟨rfl, rfl, rfl, rfl, rfl, by decide +kernel⟩ ?hw ?hc
  case hw => w_witness2
  case hc =>
    refine LamX.walk_ofTsE (l := PySem.Challenge.rw_pailchain_k43_thirty_hands_and_four_chai) (n := 63) (k := 34) (x := "_law_script") (CX := fun w => L2.CX PySem.Challenge.rw_pailchain_k43_thirty_hands_and_four_chai.prog w) rfl (by decide) (by kernel_rfl) ⟨rfl, by decide, by decide⟩ ?F (fun _ _ _ _ _ ⟨_, _, _, _, _, _, _, _, _, _, _, _, z⟩ => z)
    intro w mg fa h Y G hmg0
    obtain ⟨K, KX, c⟩ := Y
    have hmg : mg ("law" : PySem.Str) = some (.ref fa) := by
      have e : (HandSHeadRun.topDef (OpenLaw.row PySem.Challenge.rw_pailchain_k43_thirty_hands_and_four_chai).prog 82).name = ("law" : PySem.Str) := by kernel_rfl
      rw [← e]; exact hmg0
    exact ⟨K, KX, My.all_mk KX G hmg c⟩
