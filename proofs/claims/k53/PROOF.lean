import PyProof.Rows.All
import Wide.All
import OpenK.AllK
import Wide.FinOn
import HandS.ForMost
import HandS.Wide
import HandS.IsInst
import HandS.NoneIn
import HandS.EndBits
import HandS.FStr
import HandS.ClsMeth
import HandS.ExcField
import HandS.ExcInit
import HandS.ForExc
import HandS.EndTab
import HandS.Lambda
import HandS.AnyAll
import HandS.RevRange
import HandS.SortInts
import HandS.More
import HandS.Walk
import HandS.Flow
import HandS.Zip
import HandS.TupAny
import KE.GoesEnum
import KE.KStateDown
import HandS.Head2
import HandS.HeadHook4
import HandS.HeadWalk
import HandS.Codes
import HandS.StrMore
import HandS.RaiseMore
import HandS.HeadHook3
import KE.IntTextLaws
import PyProof.StrLawsAffix
import PySem.Challenge.RW_pailchain_k53_deeds_as_texts
set_option Elab.async false
set_option linter.all false
set_option maxRecDepth 100000
set_option maxHeartbeats 4000000
namespace My
open PySem PySem.Spec PyProof.Rows L2
/-! ### a def of the text with its promise, ready to be called -/
structure Fn (P : Program) (w : World) (K : PySem.W.Frag) (mg : Str → Option Value) (base : Heap) (k : Nat) (x : Str) (ps : List Str) (sp : Sp) : Prop where
  ex : ∃ f fd, FnOk P w K mg base CX0 k f fd ps sp ∧ mg x = some (.ref f) ∧ PySem.W.keepIn K (.ref f) = true ∧ Binds K fd ps []
theorem Fn.mk' {P : Program} {w : World} {K : PySem.W.Frag} {mg : Str → Option Value} {base : Heap} {k : Nat} {x : Str} {ps : List Str} {sp : Sp} {f : Addr} {fd : FuncData}
    (h : FnOk P w K mg base CX0 k f fd ps sp) (g : mg x = some (.ref f)) (kp : PySem.W.keepIn K (.ref f) = true) (b : Binds K fd ps []) : Fn P w K mg base k x ps sp := ⟨⟨f, fd, h, g, kp, b⟩⟩
section
variable {X : Cx} {k : Nat} {x : Str} {ps : List Str} {sp : Sp} {e : Expr} {es : List Expr} {t : TA} {p pos : Pos}
theorem pe_fn (F : Fn X.prog X.w X.K X.mg X.base k x ps sp) (hr : Room k X.A) (ha : PA X (e :: es) t) (hg : Gl X x := by rfl) (hdb : (x == ("__debug__" : Str)) = false := by decide)
    (he : starEach (e :: es) X.env = (false, eval e X.env) :: starEach es X.env := by rfl) (hpl : (backTo pos (starEach es X.env)).any (·.1) = false := by rfl) :
    PE X (.Call (.Name x p) (e :: es) [] pos) (tCall sp [] E0 t) := by
  obtain ⟨f, fd, h, g, kp, b⟩ := F.ex
  exact pe_call h hr hg g kp b .nil pass0 ha hdb he hpl
theorem pe_fn0 (F : Fn X.prog X.w X.K X.mg X.base k x ps sp) (hr : Room k X.A) (hg : Gl X x := by rfl) (hdb : (x == ("__debug__" : Str)) = false := by decide) :
    PE X (.Call (.Name x p) [] [] pos) (tCall sp [] E0 tNil) := by
  obtain ⟨f, fd, h, g, kp, b⟩ := F.ex
  exact pe_call0 h hr hg g kp b .nil pass0 hdb
end
/-! ### heaps: what a def leaves; the tables of code objects may grow -/
/-- the tables that grow: a table of generator expressions (none), of lambdas (their name) -/
abbrev Tb := List (Addr × Option Str)
def OkP (H : Hp) (p : Addr × Option Str) : Prop := match p.2 with
  | none => GxR.TabG H p.1
  | some q => LamX.TabS H p.1 q
def Ok (T : Tb) (H : Hp) : Prop := ∀ p ∈ T, OkP H p
def nTbl : HO → Prop
  | .tbl _ => False
  | _ => True
structure Sm (T : Tb) (H H' : Hp) : Prop where
  keep : ∀ b o, H b = some o → nTbl o → H' b = some o
  ok : Ok T H → Ok T H'
  free : ∀ l, H' l = none → H l = none
theorem nTbl_ne {o : HO} (h : nTbl o) (ps : Array Value) : o ≠ .tbl ps := fun e => by rw [e] at h; exact h
theorem Sm.k {T : Tb} {H H' : Hp} (s : Sm T H H') {b : Addr} {o : HO} (e : H b = some o) (n : nTbl o := by trivial) : H' b = some o := s.keep b o e n
theorem Sm.refl {T : Tb} {H : Hp} : Sm T H H := ⟨fun _ _ e _ => e, fun h => h, fun _ h => h⟩
theorem Sm.trans {T : Tb} {H H1 H2 : Hp} (a : Sm T H H1) (b : Sm T H1 H2) : Sm T H H2 := ⟨fun c o e n => b.keep c o (a.keep c o e n) n, fun h => b.ok (a.ok h), fun l h => a.free l (b.free l h)⟩
theorem Sm.seq {T : Tb} {K : PySem.W.Frag} {H H' : Hp} {a : Addr} {xs : List V} (e : Sm T H H') (h : SqL K H a xs) : SqL K H' a xs := by
  rcases h with (h | ⟨o, h⟩) | h
  · exact .inl (.inl (e.keep _ _ h trivial))
  · exact .inl (.inr ⟨o, e.keep _ _ h trivial⟩)
  · exact .inr h
theorem same_tup {T : Tb} {K : PySem.W.Frag} {H H' : Hp} {a : Addr} {xs : List V} (e : Sm T H H') (h : SqT K H a xs) : SqT K H' a xs := by
  rcases h with (h | ⟨o, h⟩) | h
  · exact .inl (.inl (e.keep _ _ h trivial))
  · exact .inl (.inr ⟨o, e.keep _ _ h trivial⟩)
  · exact .inr h
theorem Sm.lst {T : Tb} {H H' : Hp} {a : Addr} {xs : List V} (e : Sm T H H') (h : H a = some (.lst xs)) : H' a = some (.lst xs) := e.keep _ _ h trivial
theorem okP_ext {H H' : Hp} {p : Addr × Option Str} (h : OkP H p) (e : ∀ b o, H b = some o → H' b = some o) : OkP H' p := by
  obtain ⟨P, q⟩ := p
  cases q with
  | none =>
    obtain ⟨ps, h1, h2⟩ := (show GxR.TabG H P from h)
    exact ⟨ps, e _ _ h1, h2⟩
  | some q => exact LamX.TabS.ext (show LamX.TabS H P q from h) e
/-- the one list at p is changed -/
theorem okP_mut {H : Hp} {p : Addr × Option Str} {a : Addr} {o : HO} {xs : List V} (h : OkP H p) (ha : H a = some (.lst xs)) : OkP (upd H a o) p := by
  have k : ∀ b u, H b = some u → u ≠ .lst xs → upd H a o b = some u := fun b u e n => by
    rw [upd_ne (fun z => n (by rw [z, ha] at e; exact (Option.some.inj e).symm))]
    exact e
  obtain ⟨P, q⟩ := p
  cases q with
  | none =>
    obtain ⟨ps, h1, h2⟩ := (show GxR.TabG H P from h)
    exact ⟨ps, k _ _ h1 (fun z => by cases z), h2⟩
  | some q =>
    obtain ⟨ps, h1, h2, h3⟩ := (show LamX.TabS H P q from h)
    refine ⟨ps, k _ _ h1 (fun z => by cases z), h2, fun pos cv hc => ?_⟩
    obtain ⟨c, e1, e2⟩ := h3 pos cv hc
    exact ⟨c, e1, k _ _ e2 (fun z => by unfold LamX.CodeO at z; cases z)⟩
theorem same_upd {T : Tb} {H : Hp} {p : Addr} {o : HO} (h : H p = none) : Sm T H (upd H p o) := by
  have k : ∀ b x, H b = some x → upd H p o b = some x := fun b x e => by
    rw [upd_ne (ne_of_none e h)]
    exact e
  refine ⟨fun b x e _ => k b x e, fun h q hq => okP_ext (h q hq) k, fun l hl => ?_⟩
  cases q : H l with
  | none => rfl
  | some x => rw [k _ _ q] at hl; cases hl
theorem same_mut {T : Tb} {H H' : Hp} {p : Addr} {o : HO} {xs : List V} (e : Sm T H H') (h : H p = none) (hp : H' p = some (.lst xs)) : Sm T H (upd H' p o) := by
  refine ⟨fun b x q n => ?_, fun hk q hq => okP_mut (e.ok hk q hq) hp, fun l hl => ?_⟩
  · rw [upd_ne (ne_of_none q h)]
    exact e.keep b x q n
  · by_cases z : l = p
    · rw [z]; exact h
    · rw [upd_ne z] at hl
      exact e.free l hl
theorem seq_k {t u : TS} {D : Ends} {σ : L2.St} {H : Hp} (P : L2.St → Hp → Prop) (hu : ∀ σ' H', P σ' H' → u D σ' H') (h : (∀ σ' H', P σ' H' → u D σ' H') → tSeq t u D σ H) : tSeq t u D σ H := h hu
theorem seq_if {c : TT} {t1 t2 u : TS} {D : Ends} {σ : L2.St} {H : Hp} (P : L2.St → Hp → Prop) (hu : ∀ σ' H', P σ' H' → u D σ' H') (h : (∀ σ' H', P σ' H' → u D σ' H') → tSeq (tIfS c t1 t2) u D σ H) : tSeq (tIfS c t1 t2) u D σ H := h hu
theorem seq_as {te : TE} {g : TG} {u : TS} {D : Ends} {σ : L2.St} {H : Hp} (P : L2.St → Hp → Prop) (hu : ∀ σ' H', P σ' H' → u D σ' H') (h : (∀ σ' H', P σ' H' → u D σ' H') → tSeq (tAsg te g) u D σ H) : tSeq (tAsg te g) u D σ H := h hu
theorem sz {n : Nat} (h : n ≤ 10000) : n ≤ sizeLine := Nat.le_trans h (by decide)
theorem szl {n : Nat} (h : n < 10000) : n < sizeLine := Nat.lt_of_lt_of_le h (by decide)
/-! ### data -/
mutual
theorem dp_same {T : Tb} {K : PySem.W.Frag} {H H' : Hp} (e : Sm T H H') : ∀ (d : PyData) (v : V), Dp K H v d → Dp K H' v d
  | .none, _, h => by cases h; exact .non
  | .bool b, _, h => by cases h; exact .bl b
  | .int i, _, h => by cases h; exact .int i
  | .str x, _, h => by cases h; exact .str x
  | .list ds, _, h => by
    cases h with
    | lst hs ha => exact .lst (e.seq hs) (dpa_same e ds _ ha)
  | .tuple ds, _, h => by
    cases h with
    | tup hs ha => exact .tup (same_tup e hs) (dpa_same e ds _ ha)
  | .dict _, _, h => by cases h
theorem dpa_same {T : Tb} {K : PySem.W.Frag} {H H' : Hp} (e : Sm T H H') : ∀ (ds : List PyData) (vs : List V), DpAll K H vs ds → DpAll K H' vs ds
  | [], _, h => by cases h; exact .nil
  | d :: ds, _, h => by
    cases h with
    | cons h1 h2 => exact .cons (dp_same e d _ h1) (dpa_same e ds _ h2)
end
theorem dpa_len {K : PySem.W.Frag} {H : Hp} : ∀ {vs : List V} {ds : List PyData}, DpAll K H vs ds → vs.length = ds.length
  | _, [], h => by cases h; rfl
  | _, _ :: _, h => by
    cases h with
    | cons _ h2 => exact congrArg (· + 1) (dpa_len h2)
theorem dpa_get {K : PySem.W.Frag} {H : Hp} : ∀ {vs : List V} {ds : List PyData}, DpAll K H vs ds → ∀ {i : Nat} {d : PyData}, ds[i]? = some d → ∃ v, vs[i]? = some v ∧ Dp K H v d
  | _, [], h, i, d, e => by simp at e
  | _, d0 :: ds, h, 0, d, e => by
    cases h with
    | cons h1 h2 =>
      obtain rfl : d0 = d := Option.some.inj e
      exact ⟨_, rfl, h1⟩
  | _, d0 :: ds, h, i + 1, d, e => by
    cases h with
    | cons h1 h2 => exact dpa_get h2 (i := i) e
def depOk : Nat → PyData → Bool
  | _, .none => true
  | _, .bool _ => true
  | _, .int _ => true
  | _, .str _ => true
  | n + 1, .list ds => decide (ds.length ≤ 9000) && ds.all (depOk n)
  | n + 1, .tuple ds => decide (ds.length ≤ 9000) && ds.all (depOk n)
  | _, _ => false
def tyD : PyData → String
  | .none => "NoneType"
  | .bool _ => "bool"
  | .int _ => "int"
  | .str _ => "str"
  | .list _ => "list"
  | .tuple _ => "tuple"
  | .dict _ => "dict"
theorem tyx_of {K : PySem.W.Frag} {H : Hp} : ∀ {d : PyData} {v : V}, Dp K H v d → TyX K H v (.type (tyD d))
  | _, _, .non => .base .non
  | _, _, .bl b => .base (.bl b)
  | _, _, .int i => .base (.int i)
  | _, _, .str x => .base (.str x)
  | _, _, .lst (.inl (.inl h)) _ => .base (.lst h)
  | _, _, .lst (.inl (.inr ⟨_, h⟩)) _ => .base (.frz h)
  | _, _, .lst (.inr ⟨_, _, _, h, c, _⟩) _ => .kList h c
  | _, _, .tup (.inl (.inl h)) _ => .base (.tup h)
  | _, _, .tup (.inl (.inr ⟨_, h⟩)) _ => .fTuple h
  | _, _, .tup (.inr ⟨_, _, _, h, c, _⟩) _ => .kTuple h c
theorem rep_all (n : Nat) : (List.replicate n true).all id = true := by
  induction n with
  | zero => rfl
  | succ n ih => rw [List.replicate_succ, List.all_cons, ih]; rfl
def rLen (K : PySem.W.Frag) : List V → Hp → VK → Prop := fun xs H Q => ∃ p ys, xs = [.ref p] ∧ (SqL K H p ys ∨ SqT K H p ys) ∧ Q (.int ys.length) H
def rLst (K : PySem.W.Frag) : List V → Hp → VK → Prop := fun xs H Q => ∃ p ys, xs = [.ref p] ∧ (SqL K H p ys ∨ SqT K H p ys) ∧ ∀ (l : Addr), H l = none → Q (.ref l) (upd H l (.lst ys))
theorem call_list1 {X : Cx} : CallR X (.type "list") (rLst X.K) := call_list_of
theorem call_len1 {X : Cx} : CallR X (.builtin "len") (rLen X.K) := call_len_seq
theorem kb_bool_bool : kitB "bool" "bool" = some true := by decide +kernel
theorem kb_bool_int : kitB "bool" "int" = some true := by decide +kernel
theorem kb_bool_str : kitB "bool" "str" = some false := by decide +kernel
theorem kb_bool_list : kitB "bool" "list" = some false := by decide +kernel
theorem kb_bool_tuple : kitB "bool" "tuple" = some false := by decide +kernel
theorem kb_int_bool : kitB "int" "bool" = some false := by decide +kernel
theorem kb_int_int : kitB "int" "int" = some true := by decide +kernel
theorem kb_int_str : kitB "int" "str" = some false := by decide +kernel
theorem kb_int_list : kitB "int" "list" = some false := by decide +kernel
theorem kb_int_tuple : kitB "int" "tuple" = some false := by decide +kernel
theorem kb_str_bool : kitB "str" "bool" = some false := by decide +kernel
theorem kb_str_int : kitB "str" "int" = some false := by decide +kernel
theorem kb_str_str : kitB "str" "str" = some true := by decide +kernel
theorem kb_str_list : kitB "str" "list" = some false := by decide +kernel
theorem kb_str_tuple : kitB "str" "tuple" = some false := by decide +kernel
theorem kb_list_bool : kitB "list" "bool" = some false := by decide +kernel
theorem kb_list_int : kitB "list" "int" = some false := by decide +kernel
theorem kb_list_str : kitB "list" "str" = some false := by decide +kernel
theorem kb_list_list : kitB "list" "list" = some true := by decide +kernel
theorem kb_list_tuple : kitB "list" "tuple" = some false := by decide +kernel
theorem kb_tuple_bool : kitB "tuple" "bool" = some false := by decide +kernel
theorem kb_tuple_int : kitB "tuple" "int" = some false := by decide +kernel
theorem kb_tuple_str : kitB "tuple" "str" = some false := by decide +kernel
theorem kb_tuple_list : kitB "tuple" "list" = some false := by decide +kernel
theorem kb_tuple_tuple : kitB "tuple" "tuple" = some true := by decide +kernel
theorem kb_NoneType_bool : kitB "NoneType" "bool" = some false := by decide +kernel
theorem kb_NoneType_int : kitB "NoneType" "int" = some false := by decide +kernel
theorem kb_NoneType_str : kitB "NoneType" "str" = some false := by decide +kernel
theorem kb_NoneType_list : kitB "NoneType" "list" = some false := by decide +kernel
theorem kb_NoneType_tuple : kitB "NoneType" "tuple" = some false := by decide +kernel
theorem tyes_t {σ : L2.St} {H : Hp} {Q : Bool → Hp → Prop} (h : Q true H) : tYes σ H Q := h
theorem tyes_i {σ : L2.St} {H : Hp} {A B : Hp → Prop} (h : A H) : tYes σ H (fun b H3 => if b = true then A H3 else B H3) := iteT (A := A H) (B := B H) h
/-! ### draws -/
def Drawn : List Int → List Int → Prop
  | [], [] => True
  | d :: ds, q :: qs => (0 ≤ d ∧ d < q) ∧ Drawn ds qs
  | _, _ => False
theorem Drawn.cons {ds qs : List Int} {q : Int} (h : Drawn ds (q :: qs)) : ∃ d r, ds = d :: r ∧ 0 ≤ d ∧ d < q ∧ Drawn r qs := by
  cases ds with
  | nil => exact h.elim
  | cons d r => exact ⟨d, r, rfl, h.1.1, h.1.2, h.2⟩
theorem Drawn.nil {ds : List Int} (h : Drawn ds []) : ds = [] := by
  cases ds with
  | nil => rfl
  | cons d r => exact h.elim
theorem Drawn.snoc : ∀ {ds qs : List Int} {d q : Int}, Drawn ds qs → 0 ≤ d → d < q → Drawn (ds ++ [d]) (qs ++ [q])
  | [], [], _, _, _, h0, h1 => ⟨⟨h0, h1⟩, trivial⟩
  | [], _ :: _, _, _, h, _, _ => h.elim
  | _ :: _, [], _, _, h, _, _ => h.elim
  | _ :: _, _ :: _, _, _, h, h0, h1 => ⟨h.1, Drawn.snoc h.2 h0 h1⟩
theorem Drawn.length : ∀ {ds qs : List Int}, Drawn ds qs → ds.length = qs.length
  | [], [], _ => rfl
  | [], _ :: _, h => h.elim
  | _ :: _, [], h => h.elim
  | _ :: _, _ :: _, h => congrArg (· + 1) (Drawn.length h.2)
/-! ### amounts -/
abbrev Am := Int × Int
def tv (x : Am) : List V := [.int x.1, .int x.2]
def amt (n d : Int) : Am := ((if d < 0 then -n else n) / (Nat.gcd n.natAbs d.natAbs : Nat), (d.natAbs : Int) / (Nat.gcd n.natAbs d.natAbs : Nat))
theorem amD_dp {K : PySem.W.Frag} {H : Hp} {p : Addr} {x : Am} (h : SqT K H p (tv x)) : Dp K H (.ref p) (.tuple [.int x.1, .int x.2]) := .tup h (.cons (.int _) (.cons (.int _) .nil))
abbrev amD (x : Am) : PyData := .tuple [.int x.1, .int x.2]
theorem tup_dp {K : PySem.W.Frag} {H : Hp} {p : Addr} {x : Am} (h : H p = some (.tup (tv x))) : Dp K H (.ref p) (amD x) := amD_dp (SqT.of h)
theorem pd_at {K : PySem.W.Frag} {H : Hp} {v : V} {x : Am} (h : Dp K H v (amD x)) : ∃ b, v = .ref b ∧ SqT K H b (tv x) := by
  cases h with
  | tup hs ha =>
    cases ha with
    | cons h1 h2 =>
      cases h2 with
      | cons h3 h4 =>
        cases h4
        cases h1
        cases h3
        exact ⟨_, rfl, hs⟩
theorem dpa_app {K : PySem.W.Frag} {H : Hp} : ∀ {vs : List V} {ds : List PyData} {ws : List V} {es : List PyData}, DpAll K H vs ds → DpAll K H ws es → DpAll K H (vs ++ ws) (ds ++ es)
  | _, [], _, _, h, g => by cases h; exact g
  | _, _ :: _, _, _, h, g => by
    cases h with
    | cons h1 h2 => exact .cons h1 (dpa_app h2 g)
theorem dpa_take {K : PySem.W.Frag} {H : Hp} : ∀ {vs : List V} {ds : List PyData} (n : Nat), DpAll K H vs ds → DpAll K H (vs.take n) (ds.take n)
  | _, _, 0, _ => .nil
  | _, [], n + 1, h => by cases h; exact .nil
  | _, _ :: _, n + 1, h => by
    cases h with
    | cons h1 h2 => exact .cons h1 (dpa_take n h2)
theorem dpa_drop {K : PySem.W.Frag} {H : Hp} : ∀ {vs : List V} {ds : List PyData} (n : Nat), DpAll K H vs ds → DpAll K H (vs.drop n) (ds.drop n)
  | _, _, 0, h => h
  | _, [], n + 1, h => by cases h; exact .nil
  | _, _ :: _, n + 1, h => by
    cases h with
    | cons h1 h2 => exact dpa_drop n h2
/-- pairs stay where a list is changed -/
theorem pd_mut {K : PySem.W.Frag} {H : Hp} {v : V} {x : Am} {a : Addr} {o : HO} {xs : List V} (h : Dp K H v (amD x)) (ha : H a = some (.lst xs)) : Dp K (upd H a o) v (amD x) := by
  obtain ⟨b, rfl, hs⟩ := pd_at h
  refine amD_dp ?_
  rcases hs with (hs | ⟨u, hs⟩) | hs
  · exact .inl (.inl (by rw [upd_ne (ne_of hs ha (fun z => by cases z))]; exact hs))
  · exact .inl (.inr ⟨u, by rw [upd_ne (ne_of hs ha (fun z => by cases z))]; exact hs⟩)
  · exact .inr hs
theorem pds_mut {K : PySem.W.Frag} {H : Hp} {a : Addr} {o : HO} {xs : List V} (ha : H a = some (.lst xs)) : ∀ {vs : List V} {qs : List Am}, DpAll K H vs (qs.map amD) → DpAll K (upd H a o) vs (qs.map amD)
  | _, [], h => by cases h; exact .nil
  | _, _ :: _, h => by
    cases h with
    | cons h1 h2 => exact .cons (pd_mut h1 ha) (pds_mut ha h2)
theorem cut_take (xs : List V) (k : Nat) {z : Int} (hz : z = (k : Int)) : cutV xs none (some z) = xs.take k := by
  subst hz
  unfold cutV
  rw [HT.sIx_none, HT.sIx_nat, List.drop_zero, Nat.sub_zero]
  by_cases h : k ≤ xs.length
  · rw [Nat.min_eq_left h]
  · rw [Nat.min_eq_right (by omega), List.take_length, List.take_of_length_le (by omega)]
theorem cut_drop (xs : List V) (k : Nat) {z : Int} (hz : z = (k : Int)) : cutV xs (some z) none = xs.drop k := by
  subst hz
  unfold cutV
  rw [HT.sIx_none, HT.sIx_nat]
  by_cases h : k ≤ xs.length
  · rw [Nat.min_eq_left h, List.take_of_length_le (by rw [List.length_drop]; omega)]
  · rw [Nat.min_eq_right (by omega), List.drop_length, List.drop_of_length_le (by omega), List.take_nil]
theorem dpa_rep {K : PySem.W.Frag} {H : Hp} {vs : List V} {qs : List Am} (h : DpAll K H vs (qs.map amD)) : ∀ n, DpAll K H (List.replicate n vs).flatten (((List.replicate n qs).flatten).map amD)
  | 0 => .nil
  | n + 1 => by
    rw [List.replicate_succ, List.replicate_succ, List.flatten_cons, List.flatten_cons, List.map_append]
    exact dpa_app h (dpa_rep h n)
theorem len_rep {α : Type} (l : List α) : ∀ n, ((List.replicate n l).flatten).length = n * l.length
  | 0 => by simp
  | n + 1 => by rw [List.replicate_succ, List.flatten_cons, List.length_append, len_rep l n, Nat.succ_mul, Nat.add_comm]
/-! ### told tuples in a list that grows -/
def noL : Nat → PyData → Bool
  | _, .none => true
  | _, .bool _ => true
  | _, .int _ => true
  | _, .str _ => true
  | n + 1, .tuple ds => ds.all (noL n)
  | _, _ => false
theorem sqT_mut {K : PySem.W.Frag} {H : Hp} {t a : Addr} {o : HO} {xs ys : List V} (hs : SqT K H t ys) (ha : H a = some (.lst xs)) : SqT K (upd H a o) t ys := by
  rcases hs with (hs | ⟨u, hs⟩) | hs
  · exact .inl (.inl (by rw [upd_ne (ne_of hs ha (fun z => by cases z))]; exact hs))
  · exact .inl (.inr ⟨u, by rw [upd_ne (ne_of hs ha (fun z => by cases z))]; exact hs⟩)
  · exact .inr hs
mutual
theorem noL_mut {K : PySem.W.Frag} {H : Hp} {a : Addr} {o : HO} {xs : List V} (ha : H a = some (.lst xs)) : ∀ (n : Nat) (d : PyData) (v : V), noL n d = true → Dp K H v d → Dp K (upd H a o) v d
  | _, .none, _, _, h => by cases h; exact .non
  | _, .bool b, _, _, h => by cases h; exact .bl b
  | _, .int i, _, _, h => by cases h; exact .int i
  | _, .str x, _, _, h => by cases h; exact .str x
  | 0, .tuple _, _, e, _ => by cases e
  | n + 1, .tuple ds, _, e, h => by
    cases h with
    | tup hs hall => exact .tup (sqT_mut hs ha) (noLs_mut ha n ds _ e hall)
  | 0, .list _, _, e, _ => by cases e
  | _ + 1, .list _, _, e, _ => by cases e
  | 0, .dict _, _, e, _ => by cases e
  | _ + 1, .dict _, _, e, _ => by cases e
theorem noLs_mut {K : PySem.W.Frag} {H : Hp} {a : Addr} {o : HO} {xs : List V} (ha : H a = some (.lst xs)) : ∀ (n : Nat) (ds : List PyData) (vs : List V), ds.all (noL n) = true → DpAll K H vs ds → DpAll K (upd H a o) vs ds
  | _, [], _, _, h => by cases h; exact .nil
  | n, d :: ds, _, e, h => by
    cases h with
    | cons h1 h2 =>
      rw [List.all_cons, Bool.and_eq_true] at e
      exact .cons (noL_mut ha n d _ e.1 h1) (noLs_mut ha n ds _ e.2 h2)
end
/-- the list at fo holds ds -/
def Fd (K : PySem.W.Frag) (H : Hp) (fo : Addr) (ds : List PyData) : Prop := ∃ ts, H fo = some (.lst ts) ∧ DpAll K H ts ds
theorem Fd.keep {T : Tb} {K : PySem.W.Frag} {H H' : Hp} {fo : Addr} {ds : List PyData} (h : Fd K H fo ds) (s : Sm T H H') : Fd K H' fo ds := by
  obtain ⟨ts, h1, h2⟩ := h
  exact ⟨ts, s.k h1, dpa_same s _ _ h2⟩
theorem Fd.push {K : PySem.W.Frag} {H : Hp} {fo : Addr} {ds : List PyData} {ts : List V} {d : PyData} {v : V} (h1 : H fo = some (.lst ts)) (h2 : DpAll K H ts ds) (hv : Dp K H v d) (n1 : ds.all (noL 3) = true := by rfl) (n2 : noL 3 d = true := by rfl) :
    Fd K (upd H fo (.lst (ts ++ [v]))) fo (ds ++ [d]) :=
  ⟨ts ++ [v], upd_same, dpa_app (noLs_mut h1 3 ds _ n1 h2) (.cons (noL_mut h1 3 d v n2 hv) .nil)⟩
theorem Fd.dp {K : PySem.W.Frag} {H : Hp} {fo : Addr} {ds : List PyData} (h : Fd K H fo ds) : Dp K H (.ref fo) (.list ds) := by
  obtain ⟨ts, h1, h2⟩ := h
  exact .lst (SqL.of h1) h2
theorem depOk_ams {qs : List Am} (h : qs.length ≤ 9000) : depOk 5 (.list (qs.map amD)) = true := by
  show (decide ((qs.map amD).length ≤ 9000) && (qs.map amD).all (depOk 4)) = true
  rw [List.length_map, decide_eq_true h, Bool.true_and, List.all_map]
  exact List.all_eq_true.mpr fun q _ => rfl

def topS (i : Nat) : Stmt := PySem.Challenge.pw_pailchain_k53_deeds_as_texts.main.body.getD i (.Pass ⟨0, 0, 0, 0⟩)
abbrev s_l_word : Stmt := topS 22
theorem sc_l_word : FnScope ["_law_asked", "e"] ["_law_asked"] (defScope s_l_word) := ⟨rfl, rfl, rfl, by decide +kernel, rfl, by decide +kernel, by decide +kernel⟩
abbrev s_p_PailError___init__ : Stmt := inClass (topS 1) 0
theorem sc_p_PailError___init__ : FnScope ["self", "word"] ["self", "word"] (defScope s_p_PailError___init__) := ⟨rfl, rfl, rfl, by decide +kernel, rfl, by decide +kernel, by decide +kernel⟩
abbrev s_p_BadText___init__ : Stmt := inClass (topS 2) 0
theorem sc_p_BadText___init__ : FnScope ["self"] ["self"] (defScope s_p_BadText___init__) := ⟨rfl, rfl, rfl, by decide +kernel, rfl, by decide +kernel, by decide +kernel⟩
abbrev s_l_cell : Stmt := topS 17
theorem sc_l_cell : FnScope ["_law_script", "_law_k"] ["_law_script", "_law_k"] (defScope s_l_cell) := ⟨rfl, rfl, rfl, by decide +kernel, rfl, by decide +kernel, by decide +kernel⟩
abbrev s_l_draws : Stmt := topS 18
theorem sc_l_draws : FnScope ["_law_cell_here", "_law_parts", "_law_one", "_law_two", "_law_six", "_law_found", "_law_part"] ["_law_cell_here", "_law_parts"] (defScope s_l_draws) := ⟨rfl, rfl, rfl, by decide +kernel, rfl, by decide +kernel, by decide +kernel⟩
abbrev s_l_many : Stmt := topS 20
theorem sc_l_many : FnScope ["_law_script", "_law_few"] ["_law_script", "_law_few"] (defScope s_l_many) := ⟨rfl, rfl, rfl, by decide +kernel, rfl, by decide +kernel, by decide +kernel⟩
abbrev s_l_split : Stmt := topS 19
theorem sc_l_split : FnScope ["_law_cell_here", "_law_many_here", "_law_found", "_law_big", "_law_k"] ["_law_cell_here", "_law_many_here"] (defScope s_l_split) := ⟨rfl, rfl, rfl, by decide +kernel, rfl, by decide +kernel, by decide +kernel⟩
abbrev s_p_is_name : Stmt := topS 5
theorem sc_p_is_name : FnScope ["text", "sign"] ["text"] (defScope s_p_is_name) := ⟨rfl, rfl, rfl, by decide +kernel, rfl, by decide +kernel, by decide +kernel⟩
abbrev s_l_same : Stmt := topS 21
theorem sc_l_same : FnScope ["_law_found", "_law_due", "_law_k"] ["_law_found", "_law_due"] (defScope s_l_same) := ⟨rfl, rfl, rfl, by decide +kernel, rfl, by decide +kernel, by decide +kernel⟩
abbrev s_p_deed_text : Stmt := topS 9
theorem sc_p_deed_text : FnScope ["deed", "things", "stretch", "part", "thing"] ["deed"] (defScope s_p_deed_text) := ⟨rfl, rfl, rfl, by decide +kernel, rfl, by decide +kernel, by decide +kernel⟩
abbrev s_p_are_figures : Stmt := topS 10
theorem sc_p_are_figures : FnScope ["text", "sign"] ["text"] (defScope s_p_are_figures) := ⟨rfl, rfl, rfl, by decide +kernel, rfl, by decide +kernel, by decide +kernel⟩
abbrev s_p_read_number : Stmt := topS 11
theorem sc_p_read_number : FnScope ["text", "number"] ["text"] (defScope s_p_read_number) := ⟨rfl, rfl, rfl, by decide +kernel, rfl, by decide +kernel, by decide +kernel⟩
abbrev s_p_read_thing : Stmt := topS 12
theorem sc_p_read_thing : FnScope ["kind", "text"] ["kind", "text"] (defScope s_p_read_thing) := ⟨rfl, rfl, rfl, by decide +kernel, rfl, by decide +kernel, by decide +kernel⟩
abbrev s_p_read_things : Stmt := topS 13
theorem sc_p_read_things : FnScope ["form", "texts", "kind", "text"] ["form", "texts"] (defScope s_p_read_things) := ⟨rfl, rfl, rfl, by decide +kernel, rfl, by decide +kernel, by decide +kernel⟩
abbrev s_p_read_way : Stmt := topS 14
theorem sc_p_read_way : FnScope ["texts", "numbers", "text", "at"] ["texts"] (defScope s_p_read_way) := ⟨rfl, rfl, rfl, by decide +kernel, rfl, by decide +kernel, by decide +kernel⟩
abbrev s_p_read_deed : Stmt := topS 15
theorem sc_p_read_deed : FnScope ["text", "parts", "word"] ["text"] (defScope s_p_read_deed) := ⟨rfl, rfl, rfl, by decide +kernel, rfl, by decide +kernel, by decide +kernel⟩
abbrev s_l_deed_text : Stmt := topS 23
theorem sc_l_deed_text : FnScope ["_law_deed", "_law_part", "_law_count", "_law_toil"] ["_law_deed"] (defScope s_l_deed_text) := ⟨rfl, rfl, rfl, by decide +kernel, rfl, by decide +kernel, by decide +kernel⟩
abbrev s_l_any_number : Stmt := topS 24
theorem sc_l_any_number : FnScope ["_law_drawn", "_law_kind", "_law_small", "_law_great"] ["_law_drawn"] (defScope s_l_any_number) := ⟨rfl, rfl, rfl, by decide +kernel, rfl, by decide +kernel, by decide +kernel⟩
abbrev s_l_any_name : Stmt := topS 25
theorem sc_l_any_name : FnScope ["_law_cell_here", "_law_drawn", "_law_one"] ["_law_cell_here"] (defScope s_l_any_name) := ⟨rfl, rfl, rfl, by decide +kernel, rfl, by decide +kernel, by decide +kernel⟩
abbrev s_l_any_deed : Stmt := topS 26
theorem sc_l_any_deed : FnScope ["_law_cell_here", "_law_one", "_law_two", "_law_three", "_law_four", "_law_words", "_law_word_here", "_law_drawn", "_law_first", "_law_second", "_law_name", "_law_many_here", "_law_mixed_kind", "_law_k"] ["_law_cell_here"] (defScope s_l_any_deed) := ⟨rfl, rfl, rfl, by decide +kernel, rfl, by decide +kernel, by decide +kernel⟩
abbrev s_LAW : Stmt := topS 27
theorem sc_LAW : FnScope ["_law_script", "_law_found", "_law_k", "_law_deed"] ["_law_script"] (defScope s_LAW) := ⟨rfl, rfl, rfl, by decide +kernel, rfl, by decide +kernel, by decide +kernel⟩
def tab_FORMS : List (Str × List Str) := [("hire", ["name", "number"]), ("dismiss", ["name"]), ("send", ["name", "number"]), ("call", ["name"]), ("stay", ["name"]), ("swap", ["name"]), ("pace", ["name", "number"]), ("go", ["number", "number"]), ("outs", ["number", "number"])]
structure Bn (mg : Str → Option Value) : Prop where
  ValueError_ : mg "ValueError" = none
  all_ : mg "all" = none
  bool_ : mg "bool" = none
  int_ : mg "int" = none
  isinstance_ : mg "isinstance" = none
  len_ : mg "len" = none
  list_ : mg "list" = none
  max_ : mg "max" = none
  min_ : mg "min" = none
  range_ : mg "range" = none
  str_ : mg "str" = none
  sum_ : mg "sum" = none
  tuple_ : mg "tuple" = none
  zip_ : mg "zip" = none

section
variable {P : Program} {w : World} {K : PySem.W.Frag} {T : Tb} {mg : Str → Option Value} {base : Heap}
/-! ### refusals: own error classes whose __init__ calls the base's -/
/-- C.m(e, ..), m a def read off the own class C -/
theorem pe_clsfn {X : Cx} {x m : Str} {C f : Addr} {mc : Value} {k : Nat} {fd : FuncData} {ps : List Str} {sp : Sp} {e : Expr} {es : List Expr} {t : TA} {p1 p2 pos : Pos} {pl : Sem Bool}
    (r : ClX.CRead X.K C mc) (hat : PySem.W.findCls X.K (.ref C) mc m = some (.val (.ref f))) (F : FnOk X.prog X.w X.K X.mg X.base CX0 k f fd ps sp) (hr : Room k X.A) (hg : Gl X x) (hm : X.mg x = some (.ref C))
    (hk : PySem.W.keepIn X.K (.ref f) = true) (hb : Binds X.K fd ps []) (ha : PA X (e :: es) t)
    (hc : eval (.Call (.Attribute (.Name x p1) m p2) (e :: es) [] pos) X.env = (do
      let ov ← eval (.Name x p1) X.env
      standAt p2.atName
      let (f, first) ← holding [ov] (getMethod ov m pl)
      callWith pos f first (backTo pos (starEach (e :: es) X.env)) (backToKw pos (keywordEach [] X.env))) := by rfl)
    (hdb : (x == ("__debug__" : Str)) = false := by decide) (he : starEach (e :: es) X.env = (false, eval e X.env) :: starEach es X.env := by rfl) (hpl : (backTo pos (starEach es X.env)).any (·.1) = false := by rfl) :
    PE X (.Call (.Attribute (.Name x p1) m p2) (e :: es) [] pos) (tCall sp [] E0 t) := by
  refine ⟨fun pins s σ H Q I h => ?_⟩
  refine PySem.W.methodCall_KW (ld_glob I hg hm ?_ hdb) hc
  refine PySem.W.method_cls I.kIn r.ga (PySem.W.cls_value I.kIn r.rd hat rfl ?_)
  show wpAny _ _ (callWith pos (Value.ref f) [] (backTo pos (starEach (e :: es) X.env)) []) _ _ _
  refine PySem.W.callWith_K (h₀ := X.base) I.ok.mod.kin hk (thn (ha.run pos pins _ σ H _ (I.tok _) h) fun us s1 ⟨vs, H1, I1, r1, q1⟩ => ⟨I1.kIn, ?_⟩) he hpl
  exact run_fn F hr hb .nil pass0 I1 r1 q1
/-- C(), C's own __init__ keeping sp -/
theorem pmk_oex0 {X : Cx} {x : Str} {C fI : Addr} {k : Nat} {fd : FuncData} {ps : List Str} {sp : Sp} {p pos : Pos} (T : OexC X.K C) (iC : PySem.W.findIn X.K (.ref C) "__init__" = some (some (.ref fI))) (tI : PySem.W.typeIn X.K (.ref fI) = some (.type "function"))
    (F1 : FnOk X.prog X.w X.K X.mg X.base CX0 k fI fd ps sp) (hr : Room (k + 1) X.A) (hb : Binds X.K fd ps []) (hg : Gl X x) (hm : X.mg x = some (.ref C)) (hdb : (x == ("__debug__" : Str)) = false := by decide) :
    PMk X (.Call (.Name x p) [] [] pos) (tMkO C sp [] tNil) := by
  intro pins s σ H Q I h
  obtain ⟨nm, q, N, bs, bm, sn, sub, ab, col, dd, k0, k1, k2, k3, k5, hC, hbm⟩ := T.cls
  refine wpAny_Call_Name_kw (ld_glob I hg hm ?_ hdb)
  refine PySem.W.callWith_K0 I.kIn T.kC ?_
  show wpAny _ _ (call (.ref C) []) _ _ _
  obtain ⟨hz, q1⟩ : ([] : List V).length ≤ 1000 ∧ _ := h
  obtain ⟨hp, g, dr, tk, os⟩ := s
  have hsz : hp.objs.size ≤ hp.objs.size + 1 := Nat.le_succ _
  have hn : H (hp.objs.size + 1) = none := I.hok.fresh hsz
  have hq := q1 (hp.objs.size + 1) hn
  have kk : ∀ b o, hp.get? b = some o → ((hp.push (PySem.W.kdv_tup [])).push (PySem.HandSPX.excO C hp.objs.size)).get? b = some o := fun b o e => Heap.get?_push_of_some _ (Heap.get?_push_of_some _ e)
  have hget : ((hp.push (PySem.W.kdv_tup [])).push (PySem.HandSPX.excO C hp.objs.size)).get? (hp.objs.size + 1) = some (PySem.HandSPX.excO C hp.objs.size) := by heap_get
  have I2 : Inv X pins σ (upd H (hp.objs.size + 1) (exo (hp.objs.size + 1) C none)) ⟨(hp.push (PySem.W.kdv_tup [])).push (PySem.HandSPX.excO C hp.objs.size), g, dr, tk, os⟩ :=
    I.laid (t' := tk) (a := hp.objs.size + 1) (o := exo (hp.objs.size + 1) C none) (h' := (hp.push (PySem.W.kdv_tup [])).push (PySem.HandSPX.excO C hp.objs.size)) kk hsz (exo_ok hget)
  have r2 : Vals (V.ref (hp.objs.size + 1) :: ([] ++ [])) ([Value.ref (hp.objs.size + 1)] ++ []) := .cons rfl .nil
  have hl : (Value.ref (hp.objs.size + 1) :: [] ++ []).length = ps.length := by
    have e := r2.length
    rw [F1.len _ _ _ _ hq] at e
    exact e.symm
  have hus : ([] : List Value).length ≤ sizeLine := Nat.zero_le _
  refine wpAny_call (PySem.HandSPX.call_own F.excBase_ValueError (fun Y => PySem.HandSPX.refsVE_contains Y bm hbm) (I.kIn _ _ hC) (PySem.W.looks_findIn I.kIn iC) (fun self => PySem.W.bind_fn I.kIn self tI) hus
    (codeAny_mono (F1.run _ X.stack _ _ ⟨Value.ref (hp.objs.size + 1) :: [], []⟩ ([Value.ref (hp.objs.size + 1)] ++ []) _ _ (fun _ _ _ => False) (hr.make C [] []) (I2.env0.make C [] []) (hb _ (Value.ref (hp.objs.size + 1) :: []) I2.kIn hl) r2 hq) fun r s' hq' => ?_))
  cases r with
  | error er => exact (show False from hq').elim
  | ok fl =>
    cases fl with
    | ret u =>
      obtain ⟨v, H2, os2, bare2, un2, hok2, rv, ev, d, fs, ea, ed, hd1, q2⟩ := hq'
      subst ev
      obtain ⟨h2, g2, d2, t2, os'⟩ := s'
      exact ⟨rv, mk_end (raises_own T.exC T.tyC) I hsz kk un2 hok2 os2 bare2 ea ed hd1 q2⟩
    | next => exact False.elim hq'
    | brk => exact False.elim hq'
    | cont => exact False.elim hq'
/-- what stands of a refusal that flies: its word -/
def Rf (K : PySem.W.Frag) (CP : Addr) (word : Str) (cls : Value) (d : Option Addr) (H' : Hp) : Prop :=
  ∃ C dd, cls = .ref C ∧ d = some dd ∧ XfC K C ∧ PySem.W.findIn K (.ref C) "word" = some none ∧ PySem.W.exmOne K (.ref C) (.ref CP) = some true ∧ H' dd = some (.xd [(("word" : Str), .str word)])
theorem Rf.keep {T : Tb} {K : PySem.W.Frag} {CP : Addr} {word : Str} {cls : Value} {d : Option Addr} {H H' : Hp} (h : Rf K CP word cls d H) (s : Sm T H H') : Rf K CP word cls d H' := by
  obtain ⟨C, dd, h1, h2, h3, h4, h5, h6⟩ := h
  exact ⟨C, dd, h1, h2, h3, h4, h5, s.k h6⟩
/-- the promise of PailError.__init__ and of those under it -/
def spInit2 (K : PySem.W.Frag) : Sp := fun vs H Q _ => ∃ (a C : Addr) (w : Str), vs = [.ref a, .str w] ∧ OexC K C ∧ PySem.W.findIn K (.ref C) "word" = some none ∧ H a = some (exo a C none) ∧
  ∀ dx, H dx = none → dx ≠ a → Q .non (upd (upd H dx (exd dx [(("word" : Str), .str w)])) a (exo a C (some dx)))
def spInit (w : Str) (K : PySem.W.Frag) : Sp := fun vs H Q _ => ∃ (a C : Addr), vs = [.ref a] ∧ OexC K C ∧ PySem.W.findIn K (.ref C) "word" = some none ∧ H a = some (exo a C none) ∧
  ∀ dx, H dx = none → dx ≠ a → Q .non (upd (upd H dx (exd dx [(("word" : Str), .str w)])) a (exo a C (some dx)))
/-- the error class by the name x, its word -/
structure Err (P : Program) (w : World) (K : PySem.W.Frag) (mg : Str → Option Value) (base : Heap) (CP : Addr) (x word : Str) : Prop where
  ex : ∃ (C fI : Addr) (fd : FuncData), mg x = some (.ref C) ∧ OexC K C ∧ XfC K C ∧ PySem.W.findIn K (.ref C) "word" = some none ∧ PySem.W.exmOne K (.ref C) (.ref CP) = some true ∧
    PySem.W.findIn K (.ref C) "__init__" = some (some (.ref fI)) ∧ PySem.W.typeIn K (.ref fI) = some (.type "function") ∧ FnOk P w K mg base CX0 2 fI fd ["self"] (spInit word K) ∧ Binds K fd ["self"] []
def tErr (K : PySem.W.Frag) (CP : Addr) (word : Str) : L2.St → Hp → XK → Prop := fun _ H Q => ∀ cls dd, H dd = none → Rf K CP word cls (some dd) (upd H dd (.xd [(("word" : Str), .str word)])) → Q cls (some dd) (upd H dd (.xd [(("word" : Str), .str word)]))
theorem pmk_err {X : Cx} {CP : Addr} {x word : Str} {p pos : Pos} (R : Err X.prog X.w X.K X.mg X.base CP x word) (hr : Room 3 X.A) (hg : Gl X x) (hdb : (x == ("__debug__" : Str)) = false := by decide) :
    PMk X (.Call (.Name x p) [] [] pos) (tErr X.K CP word) := by
  obtain ⟨C, fI, fd, g, oc, xf, nw, ex, iC, tI, F, b⟩ := R.ex
  intro pins s σ H Q I h
  refine pmk_oex0 (k := 2) oc iC tI F hr b hg g hdb pins s σ H Q I ⟨Nat.zero_le _, fun a ha => ⟨a, C, rfl, oc, nw, upd_same, fun dx hdx hne => ⟨rfl, dx, [(("word" : Str), .str word)], upd_same, ?_, ?_, ?_⟩⟩⟩
  · rw [upd_ne hne, upd_same]
  · rw [upd_ne hne] at hdx
    exact hdx
  · have hd : H dx = none := by
      rw [upd_ne hne] at hdx
      exact hdx
    have e : upd (L2.del (upd (upd (upd H a (exo a C none)) dx (exd dx [(("word" : Str), .str word)])) a (exo a C (some dx))) a) dx (.xd [(("word" : Str), .str word)]) = upd H dx (.xd [(("word" : Str), .str word)]) := by
      funext c
      by_cases h1 : c = dx
      · rw [h1, upd_same, upd_same]
      · rw [upd_ne h1, upd_ne h1]
        by_cases h2 : c = a
        · rw [h2, L2.del_same, ha]
        · rw [L2.del_ne h2, upd_ne h2, upd_ne h1, upd_ne h2]
    rw [e]
    exact h (.ref C) dx hd ⟨C, dx, rfl, rfl, xf, nw, ex, upd_same⟩
/-- e.word, e the refusal that the suite holds -/
def tXw (K : PySem.W.Frag) (a : Addr) (cls : Value) (d : Option Addr) (te : TE) : TE := fun σ H Q => te σ H fun x H1 => x = .ref a ∧ ∃ (C dd : Addr) (v : V), cls = .ref C ∧ XfC K C ∧ PySem.W.findIn K (.ref C) "word" = some none ∧ d = some dd ∧ H1 dd = some (.xd [(("word" : Str), v)]) ∧ Q v H1
theorem pe_xw {X : Cx} {a : Addr} {oe : Obj} {cls : Value} {d : Option Addr} {pn : List (Addr × Obj)} {e : Expr} {te : TE} {pos : Pos}
    (hz : Zc cls d oe) (hf : ∃ vs, oe.data = .fields vs) (he : PE (X.suite a ((a, oe) :: pn)) e te) (hb : attributeBase e "word" X.env (eval e X.env) = eval e X.env := by rfl) :
    PE (X.suite a ((a, oe) :: pn)) (.Attribute e "word" pos) (tXw X.K a cls d te) := by
  refine ⟨fun pins s σ H Q I h => ?_⟩
  refine attr_of hb (thn (he.run pins s σ H _ I h) fun u s1 hh => ?_)
  obtain ⟨x, H1, I1, rx, ex, C, dd, v, ec, T, hno, ed, ea, q⟩ := hh
  subst ex
  obtain rfl : u = Value.ref a := rx
  subst ec
  subst ed
  obtain ⟨ha, _⟩ := I1.pin (a, oe) (List.mem_append_left _ List.mem_cons_self)
  obtain ⟨vs, hd⟩ := hf
  have hx : ObjOk X.prog X.w H1 s1.heap dd (.xd [(("word" : Str), v)]) := I1.hok dd _ ea
  obtain ⟨mA, hns, hr⟩ := hx
  obtain ⟨od, ho, hl⟩ := lookIn_ns hns
  have l : List.lookup ("word" : Str) [(("word" : Str), v)] = some v := by simp [List.lookup]
  obtain ⟨u, hu, ru⟩ := RelO.some_of (v := v) (o := mA "word") (by rw [← l]; exact hr "word")
  have J : PySem.W.InstAt s1.heap a oe C (some od) := ⟨ha, hz.1, by unfold PySem.W.notCls; rw [hd] <;> rfl, by rw [hz.2]; exact ho⟩
  exact HandSPX.exc_get I1.kIn J T.ga T.gg T.exC (PySem.W.findObj_own T.hdC hno rfl (by rw [hl, hu])) (handed_of ru) ⟨v, H1, I1.tok _, ru, q⟩
/-! ### a def that may raise, ready to be called -/
structure Fx (P : Program) (w : World) (K : PySem.W.Frag) (mg : Str → Option Value) (base : Heap) (k : Nat) (x : Str) (ps : List Str) (sp : Sp) : Prop where
  ex : ∃ f fd, FnOk P w K mg base (L2.CX P w) k f fd ps sp ∧ mg x = some (.ref f) ∧ PySem.W.keepIn K (.ref f) = true ∧ Binds K fd ps []
theorem Fx.mk' {P : Program} {w : World} {K : PySem.W.Frag} {mg : Str → Option Value} {base : Heap} {k : Nat} {x : Str} {ps : List Str} {sp : Sp} {f : Addr} {fd : FuncData}
    (h : FnOk P w K mg base (L2.CX P w) k f fd ps sp) (g : mg x = some (.ref f)) (kp : PySem.W.keepIn K (.ref f) = true) (b : Binds K fd ps []) : Fx P w K mg base k x ps sp := ⟨⟨f, fd, h, g, kp, b⟩⟩
theorem pe_fx {X : Cx} {k : Nat} {x : Str} {ps : List Str} {sp : Sp} {e : Expr} {es : List Expr} {t : TA} {p pos : Pos} {E : XK} (F : Fx X.prog X.w X.K X.mg X.base k x ps sp) (hr : Room k X.A) (tk : Takes X (fun cls d _ H => E cls d H)) (ha : PA X (e :: es) t) (hg : Gl X x := by rfl) (hdb : (x == ("__debug__" : Str)) = false := by decide)
    (he : starEach (e :: es) X.env = (false, eval e X.env) :: starEach es X.env := by rfl) (hpl : (backTo pos (starEach es X.env)).any (·.1) = false := by rfl) :
    PE X (.Call (.Name x p) (e :: es) [] pos) (tCall sp [] E t) := by
  obtain ⟨f, fd, h, g, kp, b⟩ := F.ex
  exact pe_call h hr hg g kp b .nil (passes_call tk fun _ _ _ _ h => h) ha hdb he hpl
/-- .. where nothing is to be let out -/
theorem pe_fx0 {X : Cx} {k : Nat} {x : Str} {ps : List Str} {sp : Sp} {e : Expr} {es : List Expr} {t : TA} {p pos : Pos} (F : Fx X.prog X.w X.K X.mg X.base k x ps sp) (hr : Room k X.A) (ha : PA X (e :: es) t) (hg : Gl X x := by rfl) (hdb : (x == ("__debug__" : Str)) = false := by decide)
    (he : starEach (e :: es) X.env = (false, eval e X.env) :: starEach es X.env := by rfl) (hpl : (backTo pos (starEach es X.env)).any (·.1) = false := by rfl) :
    PE X (.Call (.Name x p) (e :: es) [] pos) (tCall sp [] E0 t) := by
  obtain ⟨f, fd, h, g, kp, b⟩ := F.ex
  exact pe_call h hr hg g kp b .nil passL ha hdb he hpl
/-! ### a def whose code object is told -/
structure FunC (K : PySem.W.Frag) (x qual : Str) (st : Stmt) (f : Addr) (fd : FuncData) (c : Addr) : Prop where
  ex : ∃ (oc : Value) (od : Option Addr) (kV doc pm : Value) (an : Option Addr) (ct : Value) (osl : Array (Option Value)),
    fd = PySem.W.fnOf x qual (defArgs st) (defBody st) (defScope st) .none kV doc pm an (.ref c) ct ∧ K.lookup f = some ⟨oc, od, .func fd, osl⟩ ∧ PySem.W.codeIn K (.ref c) qual = true
  kp : PySem.W.keepIn K (.ref f) = true
theorem FunC.ok {P : Program} {w : World} {K : PySem.W.Frag} {mg : Str → Option Value} {base : Heap} {x qual : Str} {st : Stmt} {f c : Addr} {fd : FuncData} {N ps : List Str} {k : Nat} {sp : Sp} (F : FunC K x qual st f fd c) (S : FnScope N ps (defScope st)) (len : ∀ vs H Q E, sp vs H Q E → vs.length = ps.length)
    (hbody : ∀ (A : Around) (outer : List Env) (s : Shared) (H : Hp) (vs : List V) (Q : VK) (E : XK), Room k (A.deeper (envOfC qual (defScope st) s.heap.objs.size f (.ref c))) → sp vs H Q E →
      ∃ t, PSs (cxOf CX0 P w K mg base N qual (defScope st) f (.ref c) A outer s H E).nox (defBody st) t ∧ t { nx := fun _ H' => Q .non H', rt := Q } (start N vs) H) : FnOk P w K mg base CX0 (k + 1) f fd ps sp := by
  obtain ⟨oc, od, kV, doc, pm, an, ct, osl, rfl, lk, hcd⟩ := F.ex
  refine fn_of lk hcd S len fun A outer s H vs Q E hr hsp => ?_
  obtain ⟨t, h, q⟩ := hbody A outer s H vs Q E hr hsp
  exact ⟨t, h.nox, q⟩
theorem FunC.okX {P : Program} {w : World} {K : PySem.W.Frag} {mg : Str → Option Value} {base : Heap} {x qual : Str} {st : Stmt} {f c : Addr} {fd : FuncData} {N ps : List Str} {k : Nat} {sp : Sp} (F : FunC K x qual st f fd c) (S : FnScope N ps (defScope st)) (len : ∀ vs H Q E, sp vs H Q E → vs.length = ps.length)
    (hbody : ∀ (A : Around) (outer : List Env) (s : Shared) (H : Hp) (vs : List V) (Q : VK) (E : XK), Room k (A.deeper (envOfC qual (defScope st) s.heap.objs.size f (.ref c))) → sp vs H Q E →
      ∃ t, PSs (cxOf (L2.CX P w) P w K mg base N qual (defScope st) f (.ref c) A outer s H E) (defBody st) t ∧ t { nx := fun _ H' => Q .non H', rt := Q } (start N vs) H) : FnOk P w K mg base (L2.CX P w) (k + 1) f fd ps sp := by
  obtain ⟨oc, od, kV, doc, pm, an, ct, osl, rfl, lk, hcd⟩ := F.ex
  exact fn_of lk hcd S len fun A outer s H vs Q E hr hsp => hbody A outer s H vs Q E hr hsp
theorem FunC.binds {K : PySem.W.Frag} {x qual : Str} {st : Stmt} {f c : Addr} {fd : FuncData} {ps : List Str} (F : FunC K x qual st f fd c)
    (h : ∀ (kV doc pm : Value) (an : Option Addr) (ct : Value) (us : List Value), us.length = ps.length → bindArgs (PySem.W.fnOf x qual (defArgs st) (defBody st) (defScope st) .none kV doc pm an (.ref c) ct) ⟨us, []⟩ = pure (ps.zip us)) : Binds K fd ps [] := by
  obtain ⟨oc, od, kV, doc, pm, an, ct, osl, rfl, lk, hcd⟩ := F.ex
  exact .all (h kV doc pm an ct)
theorem exm_of {K : PySem.W.Frag} {C S : Addr} (h1 : PySem.W.subIn K (.ref S) (.type "BaseException") = some true) (h2 : PySem.W.isClsIn K S = true) (h3 : PySem.W.typeIn K (.ref S) = some (.type "type")) (h4 : PySem.W.subIn K (.ref C) (.ref S) = some true) :
    PySem.W.exmOne K (.ref C) (.ref S) = some true := by
  have e1 : (PySem.W.subIn K (.ref S) (.type "BaseException") == some true) = true := by rw [h1] <;> rfl
  have e2 : ((PySem.W.clsIn K S).isSome && PySem.W.typeIn K (.ref S) == some (.type "type")) = true := by
    have h2' : (PySem.W.clsIn K S).isSome = true := h2
    rw [h2', h3] <;> rfl
  show (if (PySem.W.subIn K (.ref S) (.type "BaseException") == some true) = true then (if ((PySem.W.clsIn K S).isSome && PySem.W.typeIn K (.ref S) == some (.type "type")) = true then PySem.W.subIn K (.ref C) (.ref S) else none) else none) = some true
  rw [if_pos e1, if_pos e2]
  exact h4

/-! ### generator expressions -/
theorem sm_tabbed {T : Tb} {H H' : Hp} {P : Addr} (hn : (T.map (·.1)).Nodup) (hP : (P, (none : Option Str)) ∈ T) (ht : GxR.TabG H P) (h : GxR.Tabbed P H H') : Sm T H H' := by
  obtain ⟨ps, e, _⟩ := ht
  have ne : ∀ b o, H b = some o → nTbl o → b ≠ P := fun b o q n z => by
    rw [z, e] at q
    cases q
    exact n
  refine ⟨fun b o q n => by rw [h.2 b (ne b o q n)]; exact q, fun k p hp => ?_, fun l hl => ?_⟩
  · by_cases hb : p.1 = P
    · have ep : p = (P, none) := by
        obtain ⟨i, hi, e1⟩ := List.getElem_of_mem hp
        obtain ⟨j, hj, e2⟩ := List.getElem_of_mem hP
        have hij : i = j := by
          have a1 : (T.map (·.1))[i]? = some P := by rw [List.getElem?_map, List.getElem?_eq_getElem hi, e1]; exact congrArg some hb
          have a2 : (T.map (·.1))[j]? = some P := by rw [List.getElem?_map, List.getElem?_eq_getElem hj, e2]; rfl
          exact nd_ix hn a1 a2
        subst hij
        rw [← e1, e2]
      rw [ep]
      exact h.1
    · have q := k p hp
      obtain ⟨P', w⟩ := p
      have hb : P' ≠ P := hb
      cases w with
      | none =>
        obtain ⟨ps', a1, a2⟩ := (show GxR.TabG H P' from q)
        exact ⟨ps', by rw [h.2 _ hb]; exact a1, a2⟩
      | some w =>
        obtain ⟨ps', a1, a2, a3⟩ := (show LamX.TabS H P' w from q)
        refine ⟨ps', by rw [h.2 _ hb]; exact a1, a2, fun pos cv hc => ?_⟩
        obtain ⟨c, e1, e2⟩ := a3 pos cv hc
        refine ⟨c, e1, ?_⟩
        rw [h.2 c (ne c _ e2 (by unfold LamX.CodeO; trivial))]
        exact e2
  · by_cases z : l = P
    · obtain ⟨ps', a1, _⟩ := h.1
      rw [z, a1] at hl
      cases hl
    · rw [← h.2 l z]
      exact hl
/-- the element of a generator over ints, in the generator's frame -/
def EltI (X : Cx) (scope : Scope) (x : Str) (elt : Expr) (F : Int → Value → Prop) : Prop :=
  ∀ (cenv : Env) (A' : Around) (E' : Value → Shared → Prop) (i : Int) (t : Tok) (s₂ : Shared) (m₂ : Str → Option Value), cenv.scope = scope → cenv.globals = X.env.globals → cenv.builtins = builtinsNs → A'.handled = none → A'.depth ≤ X.A.depth + 1 → A'.units ≤ X.A.units + 8 →
    X.K.In s₂.heap → s₂.heap.NoLimit → s₂.heap.Ns mainGlobals X.mg → (∃ mb, s₂.heap.Ns builtinsNs mb ∧ ∀ y : Str, y ≠ "__name__" → mb y = bootBuiltins y) → s₂.heap.Ns cenv.locals m₂ → m₂ x = some (.int i t) →
    wpAny (model X.prog X.w) A' (eval elt cenv) (fun y s₃ => F i y ∧ Keeps s₂ s₃) E' s₂
/-- over pairs of ints -/
def EltP (X : Cx) (scope : Scope) (xa xb : Str) (elt : Expr) (f : Int → Int → Int) : Prop :=
  ∀ (cenv : Env) (A' : Around) (E' : Value → Shared → Prop) (i j : Int) (t u : Tok) (s₂ : Shared) (m₂ : Str → Option Value), cenv.scope = scope → A'.handled = none →
    (-(2 ^ 64) < i ∧ i < 2 ^ 64) → s₂.heap.Ns cenv.locals m₂ → m₂ xa = some (.int i t) → m₂ xb = some (.int j u) →
    wpAny (model X.prog X.w) A' (eval elt cenv) (fun y s₃ => (∃ v, y = .int (f i j) v) ∧ Keeps s₂ s₃) E' s₂
section
variable {X : Cx} {pins : List (Addr × Obj)} {σ : L2.St} {H : Hp} {s : Shared}
theorem gen_tup {c P : Addr} {elt iter : Expr} {x : Str} {px gpos : Pos} {scope : Scope} {pb : Int → Bool} {te : TE} {k : Nat} {Q' : Value → Shared → Prop} {R : List Int → Hp → Prop}
    (hr : Room k X.A) (TB : GxR.TabB X.base X.mg c P) (hcode : X.env.code = .ref c) (S : GxR.GenS X.env scope x) (hi : PE X iter te) (hel : EltI X scope x elt (fun i y => y = .bool (pb i)))
    (hs : ∀ v, genFold iter X.env v = pure v) (I : Inv X pins σ H s) (h : te σ H fun v H1 => ∃ (a : Addr) (ns : List Int), v = .ref a ∧ SqT X.K H1 a (ns.map V.int) ∧ GxR.TabG H1 P ∧ R ns H1)
    (hQ : ∀ ns H1 g s5, R ns H1 → (∃ (fp wr : List Addr) (G : Array GenState → Array GenState → Prop) (F : Nat → Value → Prop) (St : Nat → Shared → Prop),
      WalksS X.prog X.w X.A.in1 g fp wr G ns.length F St ∧ St 0 s5 ∧ TruthOf X.prog X.w X.A.in1 F (fun j => (ns.map pb).getD j false) ∧ ∀ s', Moved wr G s5 s' → ∃ H2, GxR.Tabbed P H1 H2 ∧ Inv X pins σ H2 s') → Q' (.ref g) s5) :
    wpAny (model X.prog X.w) X.A (eval (.GeneratorExp elt [⟨.Name x px, iter, [], 0⟩] scope gpos) X.env) Q' X.xe s := by
  refine wpAny_GeneratorExp_walksQD hr.hd S.co (closure_ok S.free) S.cell S.dot S.loc S.kind (by have := hr.dp; omega) ?_ hs
  refine thn (hi.run pins s σ H _ I h) fun xv s1 ⟨v, H1, I1, r1, q1⟩ => ?_
  obtain ⟨a, ns, rfl, hS, ⟨ps, hP, ht⟩, q1⟩ := q1
  cases r1
  obtain ⟨its, rv, hTup, hz⟩ := I1.tuple hS
  have hT : s1.heap.IsTuple a its.toArray := let ⟨o, ho, hc, n, hd⟩ := hTup; ⟨o, ho, hc, n, hd⟩
  have hlt : a < s1.heap.objs.size := by obtain ⟨_, e, _⟩ := hT; exact Heap.lt_size e
  refine wpAny_pyIter_tuple hT ?_
  have hPs : s1.heap.get? P = some { cls := .none, data := .fields ps } := I1.hok P _ hP
  have hPlt : P < s1.heap.objs.size := Heap.lt_size hPs
  let o : Obj := { cls := .type "tuple_iterator", data := .fields #[.ref a, .int 0 0] }
  show (s1.heap.push o).NoLimit ∧ _
  have hP2 : (s1.heap.push o).get? P = some { cls := .none, data := .fields ps } := Heap.get?_push_of_some _ hPs
  have cd : PySem.W.CodeHd (s1.heap.push o) c P := TB.code.keeps fun b u e => Heap.get?_push_of_some _ (I1.bk b u e)
  have lim2 : (s1.heap.push o).NoLimit := I1.nolimit.push o
  have hni : ∀ (i : Nat) (v : Value), its.toArray[i]? = some v → ∃ (z : Int) (t : Tok), ns[i]? = some z ∧ v = .int z t := fun i v hv => by
    have hv' : its[i]? = some v := by simpa using hv
    have hl : i < (ns.map V.int).length := by
      rw [rv.length]
      exact (List.getElem?_eq_some_iff.mp hv').1
    obtain ⟨u, hu, ru⟩ := rv.get (List.getElem?_eq_getElem hl)
    rw [hv'] at hu
    cases hu
    rw [List.length_map] at hl
    rw [List.getElem_map] at ru
    obtain ⟨t, e⟩ := ru
    exact ⟨ns[i], t, List.getElem?_eq_getElem hl, e⟩
  have cont : ∀ (code : Value) (h3 : Heap) (tk : Nat) (ps' : Array Value), Heap.ExtBut P (s1.heap.push o) h3 → (s1.heap.push o).objs.size ≤ h3.objs.size → h3.get? P = some { cls := .none, data := .fields ps' } → (∃ more, ps' = ps ++ more) → TriplesOk ps'.toList →
      wpAny (model X.prog X.w) X.A (builtinsFor X.env.globals X.env.builtins) (fun bi s₄ =>
        ∃ Ia fp wr n₀ Pf St₀ pz F, Value.ref s1.heap.objs.size = .ref Ia ∧ (∀ A' : Around, A'.handled = none → Walks X.prog X.w A' Ia fp wr n₀ Pf St₀) ∧ St₀ 0 s₄.heap ∧ (∀ b ∈ fp, b < s₄.heap.objs.size) ∧ s₄.heap.NoLimit ∧ cStatics ∉ wr ∧
          (∀ href : Heap, (∀ b o, s₄.heap.get? b = some o → href.get? b = some o) →
            QuietGenD X.prog X.w (genEnv scope (cloFrom X.env.cells scope.names []) s₄.heap.objs.size code bi X.env) x [] elt (List.range s₄.heap.objs.size) wr Pf pz F href (X.A.depth + 1) (X.A.units + 8)) ∧
          (∀ a h₅ tk gs, gs.bare = true → s₄.heap.objs.size < a → h₅.objs.size = a + 1 → (∀ b o, s₄.heap.get? b = some o → h₅.get? b = some o) →
            WalksS X.prog X.w X.A.in4 a (a :: s₄.heap.objs.size :: List.range s₄.heap.objs.size) (s₄.heap.objs.size :: wr) (GenOnlyQ s₄.gens.size) (passing pz n₀ 0).length
              (fun j y => ∃ i, (passing pz n₀ 0)[j]? = some i ∧ F i y) (GenAt X.prog X.w X.A.in4 a s₄.gens.size s₄.heap.objs.size (List.range s₄.heap.objs.size) wr pz n₀ F) →
            GenAt X.prog X.w X.A.in4 a s₄.gens.size s₄.heap.objs.size (List.range s₄.heap.objs.size) wr pz n₀ F 0 { s₄ with gens := s₄.gens.push gs, toks := tk, heap := h₅ } →
            Q' (.ref a) { s₄ with gens := s₄.gens.push gs, toks := tk, heap := h₅ })) X.xe { s1 with heap := h3, toks := tk } := by
    intro code h3 tk ps' hx hsz hP3 hmore ht3
    obtain ⟨bm, ob, e1, e2, e3, e4, e5, e6, e7, e8⟩ := TB.bm
    have hcP : cStatics ≠ P := fun e => by
      obtain ⟨_, hns, _⟩ := I1.nolimit
      obtain ⟨o', es, ep, ho, hd, _⟩ := hns
      rw [e, hPs] at ho
      cases ho
      cases hd
    have hcl : cStatics < s1.heap.objs.size := let ⟨_, hns, _⟩ := I1.nolimit; hns.lt
    have sz2 : (s1.heap.push o).objs.size = s1.heap.objs.size + 1 := Heap.size_push ..
    have keep3 : ∀ b u, b ≠ P → s1.heap.get? b = some u → h3.get? b = some u := fun b u hb e => hx b u hb (Heap.get?_push_of_some _ e)
    have glob3 : h3.Ns X.env.globals X.mg := by rw [I1.ok.glob]; exact ((I1.mod.glob.keeps I1.bk).push o).extBut hx TB.gP
    refine wpAny_builtinsFor (m := X.mg) glob3 e1 e2 (keep3 _ _ e4 (I1.bk _ _ e5)) e6 e7 e8 ?_
    have haP : a ≠ P := fun e => by
      obtain ⟨o', ho', hc', _⟩ := hT
      rw [e, hPs] at ho'
      cases ho'
      cases hc'
    refine ⟨s1.heap.objs.size, [s1.heap.objs.size, a], [s1.heap.objs.size], its.toArray.size, (fun i v => its.toArray[i]? = some v), (fun i h => h.IsTupleIter s1.heap.objs.size a i ∧ h.IsTuple a its.toArray), (fun _ => true), (fun i y => ∃ z, ns[i]? = some z ∧ y = .bool (pb z)), rfl, fun A' hA => Walks.tuple hA _ _ (Nat.ne_of_lt hlt) its.toArray, ?_, ?_, lim2.extBut hx hcP, ?_, ?_, ?_⟩
    · have h0 : (s1.heap.push o).IsTupleIter s1.heap.objs.size a 0 ∧ (s1.heap.push o).IsTuple a its.toArray := ⟨⟨_, Heap.get?_push_size _ rfl, rfl, rfl⟩, hT.push _⟩
      refine (Walks.tuple (prog := X.prog) (w := X.w) hr.hd _ _ (Nat.ne_of_lt hlt) its.toArray).frame _ _ _ h0 fun b hb u e => hx b u (fun z => ?_) e
      rcases List.mem_cons.mp hb with z2 | z2
      · exact Nat.ne_of_lt hPlt (z.symm.trans z2)
      · rcases List.mem_cons.mp z2 with z2 | z2
        · exact haP (z2.symm.trans z)
        · cases z2
    · intro b hb
      show b < h3.objs.size
      have sz3 : s1.heap.objs.size + 1 ≤ h3.objs.size := by rw [← sz2]; exact hsz
      rcases List.mem_cons.mp hb with z | z
      · rw [z]
        exact sz3
      · rcases List.mem_cons.mp z with z | z
        · rw [z]
          exact Nat.lt_trans hlt sz3
        · cases z
    · intro z
      rcases List.mem_cons.mp z with z | z
      · exact Nat.ne_of_lt hcl z
      · cases z
    · intro href hhref
      have up : ∀ (s₂ : Shared), (∀ b ∈ List.range h3.objs.size, b ∉ [s1.heap.objs.size] → ∀ o, href.get? b = some o → s₂.heap.get? b = some o) → ∀ b u, b ≠ P → s1.heap.get? b = some u → s₂.heap.get? b = some u := fun s₂ hk b u hb e => by
        have h1 := keep3 b u hb e
        refine hk b (List.mem_range.mpr (Heap.lt_size h1)) (fun z => ?_) u (hhref b u h1)
        rcases List.mem_cons.mp z with z | z
        · rw [z] at e
          exact Nat.lt_irrefl _ (Heap.lt_size e)
        · cases z
      refine ⟨fun A' E' i v s₂ m₂ hA _ _ hPv hn hm hk => ?_, fun A' E' i v s₂ m₂ hA hD hU hPv hp hn hm hk => ?_⟩
      · simp only [List.forIn_nil]
        exact wpAny_pure ⟨rfl, GxR.keeps_refl _⟩
      · obtain ⟨z, t, hz1, rfl⟩ := hni i v hPv
        have u2 := up s₂ hk
        have baseK : ∀ b u, X.base.get? b = some u → b ≠ P → s₂.heap.get? b = some u := fun b u e hb => u2 b u hb (I1.bk b u e)
        have nP : X.base.get? P = none := by
          cases q : X.base.get? P with
          | none => rfl
          | some u =>
            have := (I1.bs P u q).2
            rw [hP] at this
            cases this
        have baseA : ∀ b u, X.base.get? b = some u → s₂.heap.get? b = some u := fun b u e => baseK b u e (fun z => by rw [z, nP] at e; cases e)
        obtain ⟨mb, hb1, hb2⟩ := I1.mod.blt
        exact wpAny_mono (hel _ A' E' z t s₂ m₂ rfl rfl rfl hA hD hU (I1.ok.mod.kin.keeps baseA) (I1.ok.mod.nolimit.keeps baseA) (I1.mod.glob.keeps baseA) ⟨mb, hb1.keeps baseA, hb2⟩ hn hm) (fun y s3 r => ⟨⟨z, hz1, r.1⟩, r.2⟩) fun _ _ e => e
    · intro g h5 tk5 gs hgb hag hsz5 hk5 W5 hat
      simp only [GxR.passing_true, List.length_range] at W5
      have hsize : its.toArray.size = ns.length := by
        have := rv.length
        rw [List.length_map] at this
        rw [List.size_toArray]
        exact this.symm
      rw [hsize] at W5 hat
      refine hQ ns H1 g _ q1 ⟨_, _, _, _, _, W5.in4_1, hat, ?_, fun s' hm => ?_⟩
      · intro j y sj Qj Ej hy hQj
        obtain ⟨i, hij, z, hz1, rfl⟩ := hy
        obtain ⟨hj, ej⟩ := List.getElem?_eq_some_iff.mp hij
        rw [List.getElem_range] at ej
        subst ej
        have e9 : (ns.map pb).getD j false = pb z := by rw [List.getD_eq_getElem?_getD, List.getElem?_map, hz1]; rfl
        have hQ2 : Qj ((ns.map pb).getD j false) sj := hQj
        rw [e9] at hQ2
        exact wpAny_truthy_bool hQ2
      · obtain ⟨more, em⟩ := hmore
        have nwr : ∀ b u, s1.heap.get? b = some u → b ∉ h3.objs.size :: [s1.heap.objs.size] := fun b u e hb => by
          have hl := Heap.lt_size e
          rcases List.mem_cons.mp hb with z | z
          · rw [z] at hl
            have h9 : (h3.objs.size : Nat) < s1.heap.objs.size := hl
            omega
          · rcases List.mem_cons.mp z with z | z
            · rw [z] at hl
              exact Nat.lt_irrefl _ hl
            · cases z
        have J := GxR.inv_tab (more := more) (h' := s'.heap) (g' := s'.gens) (d' := s'.drawn) (t' := s'.toks) I1 hP (fun b u hb e => hm.heap b u (nwr b u e) (hk5 b u (keep3 b u hb e)))
          (by rw [← em]; exact hm.heap P _ (nwr P _ hPs) (hk5 P _ hP3)) (AllBare.movedS (I1.bare.push hgb) hm)
        rw [GxR.sh_eta s1 s' hm.os] at J
        refine ⟨upd H1 P (.tbl (ps ++ more)), ⟨⟨ps ++ more, upd_same, by rw [← em]; exact ht3⟩, fun b hb => upd_ne hb⟩, J⟩
  refine ⟨lim2, ?_⟩
  cases hf : codeAmong gpos ps.toList with
  | none =>
    refine wpAny_genexprCodeX hcode (cd.code hP2 ht) (cd.tab hP2) hf fun c' h' tk hx hge hlt hco' _ htab' _ => ?_
    obtain ⟨o1, vs, f1, tf, fl, tg, inF, tx, tt, op, _, _, _, _, _, _, _, _, _, htr, _⟩ := hco'
    exact cont _ h' tk _ hx (Nat.le_trans hge (Nat.le_of_lt hlt)) htab'.2 ⟨_, rfl⟩ htr
  | some cv =>
    refine wpAny_genexprCode_hit hcode (cd.code hP2 ht) hf ?_
    exact cont cv (s1.heap.push o) s1.toks ps (Heap.ExtBut.refl _ _) (Nat.le_refl _) hP2 ⟨#[], by simp⟩ ht
theorem all_getD (ns : List Int) (pb : Int → Bool) : (List.range ns.length).all (fun j => (ns.map pb).getD j false) = ns.all pb := by
  rw [Bool.eq_iff_iff, List.all_eq_true, List.all_eq_true]
  constructor
  · intro h z hz
    obtain ⟨j, hj, e⟩ := List.getElem_of_mem hz
    have q := h j (List.mem_range.mpr hj)
    rw [List.getD_eq_getElem?_getD, List.getElem?_map, List.getElem?_eq_getElem hj] at q
    rw [← e]
    exact q
  · intro h j hj
    have hj' := List.mem_range.mp hj
    rw [List.getD_eq_getElem?_getD, List.getElem?_map, List.getElem?_eq_getElem hj']
    exact h _ (List.getElem_mem hj')
/-- all(test for x in e), e a tuple of ints -/
def tAllI (K : PySem.W.Frag) (T : Tb) (P : Addr) (pb : Int → Bool) (te : TE) : TE := fun σ H Q => te σ H fun v H1 => ∃ (a : Addr) (ns : List Int), v = .ref a ∧ SqT K H1 a (ns.map V.int) ∧ GxR.TabG H1 P ∧ (Ok T H1 ∧ ∀ H2, Sm T H1 H2 → Q (.bl (ns.all pb)) H2)
theorem pe_allI {T : Tb} {c P : Addr} {elt iter : Expr} {x : Str} {px p pos gpos : Pos} {scope : Scope} {pb : Int → Bool} {te : TE} {k : Nat} (hn : (T.map (·.1)).Nodup) (hPT : (P, (none : Option Str)) ∈ T)
    (hr : Room k X.A) (hg : Gl X "all") (hm : X.mg "all" = none) (hb : bootBuiltins "all" = some (.builtin "all")) (TB : GxR.TabB X.base X.mg c P) (hcode : X.env.code = .ref c) (S : GxR.GenS X.env scope x) (hi : PE X iter te) (hel : EltI X scope x elt (fun i y => y = .bool (pb i)))
    (hs : ∀ v, genFold iter X.env v = pure v)
    (he : starEach [.GeneratorExp elt [⟨.Name x px, iter, [], 0⟩] scope gpos] X.env = (false, eval (.GeneratorExp elt [⟨.Name x px, iter, [], 0⟩] scope gpos) X.env) :: starEach [] X.env := by rfl) :
    PE X (.Call (.Name "all" p) [.GeneratorExp elt [⟨.Name x px, iter, [], 0⟩] scope gpos] [] pos) (tAllI X.K T P pb te) := by
  refine ⟨fun pins s σ H Q I h => ?_⟩
  refine wpAny_Call_Name_kw (ld_blt I hg hm hb ?_)
  refine PyProof.Rows.callWith_builtin1 ?_ he (by rfl)
  rw [he]
  show wpAny _ _ (spliced ((false, eval (.GeneratorExp elt [⟨.Name x px, iter, [], 0⟩] scope gpos) X.env) :: backTo pos (starEach [] X.env))) _ _ s
  refine Calls.spliced_cons (gen_tup (R := fun ns H1 => Ok T H1 ∧ ∀ H2, Sm T H1 H2 → Q (.bl (ns.all pb)) H2) hr TB hcode S hi hel hs I h fun ns H1 g s5 hR hG => ?_)
  obtain ⟨fp, wr, G, F, St, W, hst, htr, hI⟩ := hG
  refine Calls.spliced_nil ?_
  refine call_all_walkS (W.self 0 _ _ _ hst ⟨g, fp, wr, G, _, F, St, _, rfl, W, hst, htr, fun s' hmv => ?_⟩)
  obtain ⟨H2, hT, J⟩ := hI s' hmv
  refine ⟨.bl _, H2, J, rfl, ?_⟩
  rw [all_getD ns pb]
  exact hR.2 H2 (sm_tabbed hn hPT (hR.1 _ hPT) hT)
end
section
variable {X : Cx} {pins : List (Addr × Obj)} {σ : L2.St} {H : Hp} {s : Shared}
/-- a list of pairs of ints -/
def Pairs (K : PySem.W.Frag) (H : Hp) (a : Addr) (ps : List (Int × Int)) : Prop := ∃ vs : List V, SqL K H a vs ∧ vs.length = ps.length ∧ ∀ (i : Nat) (p : Int × Int), ps[i]? = some p → ∃ b, vs[i]? = some (.ref b) ∧ SqT K H b [.int p.1, .int p.2]
theorem Pairs.keep {T : Tb} {K : PySem.W.Frag} {H H' : Hp} {a : Addr} {ps : List (Int × Int)} (h : Pairs K H a ps) (s : Sm T H H') : Pairs K H' a ps := by
  obtain ⟨vs, h1, h2, h3⟩ := h
  refine ⟨vs, s.seq h1, h2, fun i p e => ?_⟩
  obtain ⟨b, e1, e2⟩ := h3 i p e
  exact ⟨b, e1, same_tup s e2⟩
theorem gen_pairs {c P : Addr} {elt iter : Expr} {xa xb : Str} {pa pb pt gpos : Pos} {kt : Nat} {scope : Scope} {f : Int → Int → Int} {te : TE} {k : Nat} {Q' : Value → Shared → Prop} {R : List (Int × Int) → Hp → Prop}
    (hr : Room k X.A) (TB : GxR.TabB X.base X.mg c P) (hcode : X.env.code = .ref c) (S : GxR.GenS X.env scope xa) (hxb : scope.names.lookup xb = some .local) (hab : xa ≠ xb) (hi : PE X iter te) (hel : EltP X scope xa xb elt f)
    (hs : ∀ v, genFold iter X.env v = pure v) (I : Inv X pins σ H s) (h : te σ H fun v H1 => ∃ (a : Addr) (qs : List (Int × Int)), v = .ref a ∧ Pairs X.K H1 a qs ∧ (∀ q ∈ qs, -(2 ^ 64) < q.1 ∧ q.1 < 2 ^ 64) ∧ GxR.TabG H1 P ∧ R qs H1)
    (hQ : ∀ qs H1 g s5, R qs H1 → (∃ (fp wr : List Addr) (G : Array GenState → Array GenState → Prop) (F : Nat → Value → Prop) (St : Nat → Shared → Prop),
      WalksS X.prog X.w X.A.in1 g fp wr G qs.length F St ∧ St 0 s5 ∧ (∀ b ∈ fp, b < s5.heap.objs.size) ∧ (∀ i v, F i v → ∃ t, v = .int ((qs.map fun (q : Int × Int) => f q.1 q.2).getD i 0) t) ∧ ∀ s', Moved wr G s5 s' → ∃ H2, GxR.Tabbed P H1 H2 ∧ Inv X pins σ H2 s') → Q' (.ref g) s5) :
    wpAny (model X.prog X.w) X.A (eval (.GeneratorExp elt [⟨.Tuple [.Name xa pa, .Name xb pb] kt pt, iter, [], 0⟩] scope gpos) X.env) Q' X.xe s := by
  refine wpAny_GeneratorExp_walksQT hr.hd S.co (closure_ok S.free) S.cell S.dot S.loc hxb hab S.kind (by have := hr.dp; omega) ?_ hs
  refine thn (hi.run pins s σ H _ I h) fun xv s1 ⟨v, H1, I1, r1, q1⟩ => ?_
  obtain ⟨a, qs, rfl, ⟨vs, hS, hvl, hvp⟩, hbd, ⟨ps, hP, ht⟩, q1⟩ := q1
  cases r1
  obtain ⟨its, rv, ⟨o0, n0, ho0, hc0, _, hd0⟩, hz⟩ := I1.list hS
  have hL : s1.heap.IsList a its.toArray := ⟨o0, ho0, hc0, n0, hd0⟩
  have hlt : a < s1.heap.objs.size := Heap.lt_size ho0
  have hlen : its.toArray.size = qs.length := by rw [List.size_toArray, ← rv.length, hvl]
  have hpair : ∀ j, j < its.toArray.size → ∃ (b : Addr) (t u : Tok) (q : Int × Int), qs[j]? = some q ∧ its.toArray[j]? = some (.ref b) ∧ s1.heap.IsTuple b #[.int q.1 t, .int q.2 u] := fun j hj => by
    have hj' : j < qs.length := by rw [← hlen]; exact hj
    obtain ⟨b, e1, e2⟩ := hvp j _ (List.getElem?_eq_getElem hj')
    obtain ⟨u', hu, ru⟩ := rv.get e1
    obtain rfl : u' = Value.ref b := ru
    obtain ⟨its2, rv2, ⟨o2, ho2, hc2, n2, hd2⟩, _⟩ := I1.tuple e2
    cases rv2 with
    | cons r1 rr =>
      cases rr with
      | cons r2 rn =>
        cases rn
        obtain ⟨t1, rfl⟩ := r1
        obtain ⟨t2, rfl⟩ := r2
        exact ⟨b, t1, t2, qs[j], List.getElem?_eq_getElem hj', by simpa using hu, ⟨o2, ho2, hc2, n2, hd2⟩⟩
  refine wpAny_pyIter_list hL ?_
  have hPs : s1.heap.get? P = some { cls := .none, data := .fields ps } := I1.hok P _ hP
  have hPlt : P < s1.heap.objs.size := Heap.lt_size hPs
  let o : Obj := { cls := .type "list_iterator", data := .fields #[.ref a, .int 0 0] }
  show (s1.heap.push o).NoLimit ∧ _
  have hP2 : (s1.heap.push o).get? P = some { cls := .none, data := .fields ps } := Heap.get?_push_of_some _ hPs
  have cd : PySem.W.CodeHd (s1.heap.push o) c P := TB.code.keeps fun b u e => Heap.get?_push_of_some _ (I1.bk b u e)
  have lim2 : (s1.heap.push o).NoLimit := I1.nolimit.push o
  let Ts : Nat → Addr := fun j => match its.toArray[j]? with | some (.ref b) => b | _ => 0
  have hTs : ∀ j, j < its.toArray.size → its.toArray[j]? = some (.ref (Ts j)) := fun j hj => by
    obtain ⟨b, t, u, q, _, e, _⟩ := hpair j hj
    show _ = some (Value.ref (match its.toArray[j]? with | some (.ref b) => b | _ => 0))
    rw [e]
  have hvals : ∃ vals : Nat → Array Value, ∀ j, j < its.toArray.size → s1.heap.IsTuple (Ts j) (vals j) ∧ ∃ (t u : Tok) (q : Int × Int), qs[j]? = some q ∧ vals j = #[.int q.1 t, .int q.2 u] := by
    have : ∀ j, ∃ va : Array Value, j < its.toArray.size → s1.heap.IsTuple (Ts j) va ∧ ∃ (t u : Tok) (q : Int × Int), qs[j]? = some q ∧ va = #[.int q.1 t, .int q.2 u] := fun j => by
      by_cases hj : j < its.toArray.size
      · obtain ⟨b, t, u, q, e1, e, e2⟩ := hpair j hj
        have eb : Ts j = b := by
          have := hTs j hj
          rw [e] at this
          cases this
          rfl
        exact ⟨_, fun _ => ⟨by rw [eb]; exact e2, t, u, q, e1, rfl⟩⟩
      · exact ⟨#[], fun z => absurd z hj⟩
    exact ⟨fun j => Classical.choose (this j), fun j hj => Classical.choose_spec (this j) hj⟩
  obtain ⟨vals, hvals⟩ := hvals
  have hTlt : ∀ j, j < its.toArray.size → Ts j < s1.heap.objs.size := fun j hj => by
    obtain ⟨⟨o', ho', _⟩, _⟩ := hvals j hj
    exact Heap.lt_size ho'
  have W : ∀ A' : Around, A'.handled = none → WalksU X.prog X.w A' s1.heap.objs.size (s1.heap.objs.size :: a :: (List.range its.toArray.size).map Ts) [s1.heap.objs.size] its.toArray.size (fun j v => j < its.toArray.size ∧ v = vals j) _ _ :=
    fun A' hA => (WalksU.listOfTuples (prog := X.prog) (w := X.w) hA s1.heap.objs.size a (Nat.ne_of_lt hlt) its.toArray Ts vals hTs (fun j hj => Nat.ne_of_lt (hTlt j hj))).bound
  have notP : ∀ b, b ∈ s1.heap.objs.size :: a :: (List.range its.toArray.size).map Ts → b ≠ P := fun b hb z => by
    rcases List.mem_cons.mp hb with z2 | z2
    · exact Nat.ne_of_lt hPlt (z.symm.trans z2)
    · rcases List.mem_cons.mp z2 with z2 | z2
      · rw [← z, z2, ho0] at hPs
        cases hPs
        cases hc0
      · obtain ⟨j, hj, e⟩ := List.mem_map.mp z2
        obtain ⟨⟨o', ho', hc', _⟩, _⟩ := hvals j (List.mem_range.mp hj)
        rw [e, z, hPs] at ho'
        cases ho'
        cases hc'
  have cont : ∀ (code : Value) (h3 : Heap) (tk : Nat) (ps' : Array Value), Heap.ExtBut P (s1.heap.push o) h3 → (s1.heap.push o).objs.size ≤ h3.objs.size → h3.get? P = some { cls := .none, data := .fields ps' } → (∃ more, ps' = ps ++ more) → TriplesOk ps'.toList →
      wpAny (model X.prog X.w) X.A (builtinsFor X.env.globals X.env.builtins) (fun bi s₄ =>
        ∃ Ia fp wr n₀ Pt St₀ Mid pz F, Value.ref s1.heap.objs.size = .ref Ia ∧ (∀ A' : Around, A'.handled = none → WalksU X.prog X.w A' Ia fp wr n₀ Pt St₀ Mid) ∧ (∀ i vals, Pt i vals → ∃ va vb, vals = #[va, vb]) ∧ St₀ 0 s₄.heap ∧ (∀ b ∈ fp, b < s₄.heap.objs.size) ∧ s₄.heap.NoLimit ∧ cStatics ∉ wr ∧
          (∀ href : Heap, (∀ b o, s₄.heap.get? b = some o → href.get? b = some o) →
            QuietGenT X.prog X.w (genEnv scope (cloFrom X.env.cells scope.names []) s₄.heap.objs.size code bi X.env) xa xb [] elt (List.range s₄.heap.objs.size) wr Pt pz F href) ∧
          (∀ a h₅ tk gs, gs.bare = true → s₄.heap.objs.size < a → h₅.objs.size = a + 1 → (∀ b o, s₄.heap.get? b = some o → h₅.get? b = some o) →
            WalksS X.prog X.w X.A.in4 a (a :: s₄.heap.objs.size :: List.range s₄.heap.objs.size) (s₄.heap.objs.size :: wr) (GenOnlyQ s₄.gens.size) (passing pz n₀ 0).length
              (fun j y => ∃ i, (passing pz n₀ 0)[j]? = some i ∧ F i y) (GenAt X.prog X.w X.A.in4 a s₄.gens.size s₄.heap.objs.size (List.range s₄.heap.objs.size) wr pz n₀ F) →
            GenAt X.prog X.w X.A.in4 a s₄.gens.size s₄.heap.objs.size (List.range s₄.heap.objs.size) wr pz n₀ F 0 { s₄ with gens := s₄.gens.push gs, toks := tk, heap := h₅ } →
            Q' (.ref a) { s₄ with gens := s₄.gens.push gs, toks := tk, heap := h₅ })) X.xe { s1 with heap := h3, toks := tk } := by
    intro code h3 tk ps' hx hsz hP3 hmore ht3
    obtain ⟨bm, ob, e1, e2, e3, e4, e5, e6, e7, e8⟩ := TB.bm
    have hcP : cStatics ≠ P := fun e => by
      obtain ⟨_, hns, _⟩ := I1.nolimit
      obtain ⟨o', es, ep, ho, hd, _⟩ := hns
      rw [e, hPs] at ho
      cases ho
      cases hd
    have hcl : cStatics < s1.heap.objs.size := let ⟨_, hns, _⟩ := I1.nolimit; hns.lt
    have sz2 : (s1.heap.push o).objs.size = s1.heap.objs.size + 1 := Heap.size_push ..
    have sz3 : s1.heap.objs.size + 1 ≤ h3.objs.size := by rw [← sz2]; exact hsz
    have keep3 : ∀ b u, b ≠ P → s1.heap.get? b = some u → h3.get? b = some u := fun b u hb e => hx b u hb (Heap.get?_push_of_some _ e)
    have glob3 : h3.Ns X.env.globals X.mg := by rw [I1.ok.glob]; exact ((I1.mod.glob.keeps I1.bk).push o).extBut hx TB.gP
    refine wpAny_builtinsFor (m := X.mg) glob3 e1 e2 (keep3 _ _ e4 (I1.bk _ _ e5)) e6 e7 e8 ?_
    refine ⟨s1.heap.objs.size, _, [s1.heap.objs.size], its.toArray.size, _, _, _, (fun _ => true), (fun i y => ∃ q t, qs[i]? = some q ∧ y = .int (f q.1 q.2) t), rfl, W, ?_, ?_, ?_, lim2.extBut hx hcP, ?_, ?_, ?_⟩
    · rintro i va ⟨hi', rfl⟩
      obtain ⟨_, t, u, q, _, e⟩ := hvals i hi'
      exact ⟨_, _, e⟩
    · have h0 : (s1.heap.push o).IsListIter s1.heap.objs.size a 0 ∧ (s1.heap.push o).IsList a its.toArray ∧ ∀ k, k < its.toArray.size → (s1.heap.push o).IsTuple (Ts k) (vals k) :=
        ⟨⟨_, Heap.get?_push_size _ rfl, rfl, rfl⟩, hL.push _, fun k hk => (hvals k hk).1.push _⟩
      exact (W X.A hr.hd).frame _ _ _ h0 fun b hb u e => hx b u (notP b hb) e
    · intro b hb
      show b < h3.objs.size
      rcases List.mem_cons.mp hb with z | z
      · rw [z]
        exact sz3
      · rcases List.mem_cons.mp z with z | z
        · rw [z]
          exact Nat.lt_trans hlt sz3
        · obtain ⟨j, hj, e⟩ := List.mem_map.mp z
          rw [← e]
          exact Nat.lt_trans (hTlt j (List.mem_range.mp hj)) sz3
    · intro z
      rcases List.mem_cons.mp z with z | z
      · exact Nat.ne_of_lt hcl z
      · cases z
    · intro href hhref
      refine ⟨fun A' E' i va vb s₂ m₂ hA hPv hn hma hmb hk => ?_, fun A' E' i va vb s₂ m₂ hA hPv hp hn hma hmb hk => ?_⟩
      · simp only [List.forIn_nil]
        exact wpAny_pure ⟨rfl, GxR.keeps_refl _⟩
      · obtain ⟨hi', ev⟩ := hPv
        obtain ⟨_, t, u, q, hq, e⟩ := hvals i hi'
        rw [e] at ev
        obtain ⟨rfl, rfl⟩ : va = .int q.1 t ∧ vb = .int q.2 u := by simpa using congrArg Array.toList ev
        exact wpAny_mono (hel _ A' E' q.1 q.2 t u s₂ m₂ rfl hA (hbd q (List.mem_of_getElem? hq)) hn hma hmb) (fun y s3 r => ⟨let ⟨v, hv⟩ := r.1; ⟨q, v, hq, hv⟩, r.2⟩) fun _ _ e => e
    · intro g h5 tk5 gs hgb hag hsz5 hk5 W5 hat
      simp only [GxR.passing_true, List.length_range] at W5
      rw [hlen] at W5 hat
      refine hQ qs H1 g _ q1 ⟨_, _, _, _, _, W5.in4_1, hat, ?_, ?_, fun s' hm => ?_⟩
      · intro b hb
        show b < h5.objs.size
        have hag' : h3.objs.size < g := hag
        rcases List.mem_cons.mp hb with z | z
        · rw [z, hsz5]
          exact Nat.lt_succ_self _
        · rcases List.mem_cons.mp z with z | z
          · rw [z, hsz5]
            exact Nat.lt_succ_of_lt hag'
          · rw [hsz5]
            exact Nat.lt_succ_of_lt (Nat.lt_trans (List.mem_range.mp z) hag')
      · intro j y hy
        obtain ⟨i, hij, q, t, hq, rfl⟩ := hy
        obtain ⟨hj, ej⟩ := List.getElem?_eq_some_iff.mp hij
        rw [List.getElem_range] at ej
        subst ej
        exact ⟨t, by rw [List.getD_eq_getElem?_getD, List.getElem?_map, hq]; rfl⟩
      · obtain ⟨more, em⟩ := hmore
        have nwr : ∀ b u, s1.heap.get? b = some u → b ∉ h3.objs.size :: [s1.heap.objs.size] := fun b u e hb => by
          have hl := Heap.lt_size e
          rcases List.mem_cons.mp hb with z | z
          · rw [z] at hl
            have h9 : (h3.objs.size : Nat) < s1.heap.objs.size := hl
            omega
          · rcases List.mem_cons.mp z with z | z
            · rw [z] at hl
              exact Nat.lt_irrefl _ hl
            · cases z
        have J := GxR.inv_tab (more := more) (h' := s'.heap) (g' := s'.gens) (d' := s'.drawn) (t' := s'.toks) I1 hP (fun b u hb e => hm.heap b u (nwr b u e) (hk5 b u (keep3 b u hb e)))
          (by rw [← em]; exact hm.heap P _ (nwr P _ hPs) (hk5 P _ hP3)) (AllBare.movedS (I1.bare.push hgb) hm)
        rw [GxR.sh_eta s1 s' hm.os] at J
        refine ⟨upd H1 P (.tbl (ps ++ more)), ⟨⟨ps ++ more, upd_same, by rw [← em]; exact ht3⟩, fun b hb => upd_ne hb⟩, J⟩
  refine ⟨lim2, ?_⟩
  cases hf : codeAmong gpos ps.toList with
  | none =>
    refine wpAny_genexprCodeX hcode (cd.code hP2 ht) (cd.tab hP2) hf fun c' h' tk hx hge hlt hco' _ htab' _ => ?_
    obtain ⟨o1, vs, f1, tf, fl, tg, inF, tx, tt, op, _, _, _, _, _, _, _, _, _, htr, _⟩ := hco'
    exact cont _ h' tk _ hx (Nat.le_trans hge (Nat.le_of_lt hlt)) htab'.2 ⟨_, rfl⟩ htr
  | some cv =>
    refine wpAny_genexprCode_hit hcode (cd.code hP2 ht) hf ?_
    exact cont cv (s1.heap.push o) s1.toks ps (Heap.ExtBut.refl _ _) (Nat.le_refl _) hP2 ⟨#[], by simp⟩ ht
/-- sum(elt for a, b in e), e a list of pairs of ints -/
def tSumP (K : PySem.W.Frag) (T : Tb) (P : Addr) (f : Int → Int → Int) (te : TE) : TE := fun σ H Q => te σ H fun v H1 => ∃ (a : Addr) (qs : List (Int × Int)), v = .ref a ∧ Pairs K H1 a qs ∧ (∀ q ∈ qs, -(2 ^ 64) < q.1 ∧ q.1 < 2 ^ 64) ∧ GxR.TabG H1 P ∧
  ((Ok T H1 ∧ ∀ j, j < qs.length → InLong ((qs.map fun (q : Int × Int) => f q.1 q.2).getD j 0) ∧ InLong (((qs.map fun (q : Int × Int) => f q.1 q.2).take (j + 1)).sum)) ∧ ∀ H2, Sm T H1 H2 → Q (.int (qs.map fun (q : Int × Int) => f q.1 q.2).sum) H2)
theorem pe_sumP {T : Tb} {c P : Addr} {elt iter : Expr} {xa xb : Str} {pa pb pt p pos gpos : Pos} {kt : Nat} {scope : Scope} {f : Int → Int → Int} {te : TE} {k : Nat} (hn : (T.map (·.1)).Nodup) (hPT : (P, (none : Option Str)) ∈ T)
    (hr : Room k X.A) (hg : Gl X "sum") (hm : X.mg "sum" = none) (hb : bootBuiltins "sum" = some (.builtin "sum")) (TB : GxR.TabB X.base X.mg c P) (hcode : X.env.code = .ref c) (S : GxR.GenS X.env scope xa) (hxb : scope.names.lookup xb = some .local) (hab : xa ≠ xb) (hi : PE X iter te) (hel : EltP X scope xa xb elt f)
    (hs : ∀ v, genFold iter X.env v = pure v)
    (he : starEach [.GeneratorExp elt [⟨.Tuple [.Name xa pa, .Name xb pb] kt pt, iter, [], 0⟩] scope gpos] X.env = (false, eval (.GeneratorExp elt [⟨.Tuple [.Name xa pa, .Name xb pb] kt pt, iter, [], 0⟩] scope gpos) X.env) :: starEach [] X.env := by rfl) :
    PE X (.Call (.Name "sum" p) [.GeneratorExp elt [⟨.Tuple [.Name xa pa, .Name xb pb] kt pt, iter, [], 0⟩] scope gpos] [] pos) (tSumP X.K T P f te) := by
  refine ⟨fun pins s σ H Q I h => ?_⟩
  refine wpAny_Call_Name_kw (ld_blt I hg hm hb ?_)
  refine PyProof.Rows.callWith_builtin1 ?_ he (by rfl)
  rw [he]
  show wpAny _ _ (spliced ((false, eval (.GeneratorExp elt [⟨.Tuple [.Name xa pa, .Name xb pb] kt pt, iter, [], 0⟩] scope gpos) X.env) :: backTo pos (starEach [] X.env))) _ _ s
  refine Calls.spliced_cons (gen_pairs (R := fun qs H1 => (Ok T H1 ∧ ∀ j, j < qs.length → InLong ((qs.map fun (q : Int × Int) => f q.1 q.2).getD j 0) ∧ InLong (((qs.map fun (q : Int × Int) => f q.1 q.2).take (j + 1)).sum)) ∧ ∀ H2, Sm T H1 H2 → Q (.int (qs.map fun (q : Int × Int) => f q.1 q.2).sum) H2) hr TB hcode S hxb hab hi hel hs I h fun qs H1 g s5 hR hG => ?_)
  obtain ⟨fp, wr, G, F, St, W, hst, hfp, hval, hI⟩ := hG
  refine Calls.spliced_nil ?_
  refine call_sum_walkS (W.self 0 _ _ _ hst ⟨g, fp, wr, G, _, F, St, (fun i => (qs.map fun (q : Int × Int) => f q.1 q.2).getD i 0), rfl, W, hst, hfp, hval, fun j hj => ⟨(hR.1.2 j hj).1, by rw [preSum_getD]; exact (hR.1.2 j hj).2⟩, fun s' t' hmv => ?_⟩)
  obtain ⟨H2, hT, J⟩ := hI s' hmv
  refine ⟨.int _, H2, J, ⟨t', rfl⟩, ?_⟩
  rw [preSum_getD, show qs.length = (qs.map fun (q : Int × Int) => f q.1 q.2).length by rw [List.length_map], List.take_length]
  exact hR.2 H2 (sm_tabbed hn hPT (hR.1.1 _ hPT) hT)
end
def genB (scope : Scope) (x : Str) : Bool := decide (scope.kind = .function) && !scope.isCoroutine && (scope.names.all fun y => !decide (y.2 = .cell) && !decide (y.2 = .free)) && decide (scope.names.lookup (".0" : Str) = some .local) && decide (scope.names.lookup x = some .local)
theorem gens_by {env : Env} {scope : Scope} {x : Str} (h : genB scope x = true) : GxR.GenS env scope x := by
  unfold genB at h
  simp only [Bool.and_eq_true, Bool.not_eq_true', decide_eq_true_eq, decide_eq_false_iff_not, List.all_eq_true] at h
  obtain ⟨⟨⟨⟨h1, h2⟩, h3⟩, h4⟩, h5⟩ := h
  exact ⟨h1, h2, fun y hy => (h3 y hy).1, h4, h5, fun y hy e => absurd e (h3 y hy).2⟩

/-! ### elements of generator expressions, in the model's own words -/
section
variable {X : Cx} {scope : Scope} {xa xb : Str} {p1 p2 p3 : Pos}
theorem ldl {M : Model} {s : Shared} {env : Env} {m : Str → Option Value} {x : Str} {pos : Pos} {v : Value} {Q : Value → Shared → Prop} {A : Around} {E : Value → Shared → Prop} (hk : env.scope.kind = .function) (hl : env.kindOf x = some .local) (hn : s.heap.Ns env.locals m) (hv : m x = some v) (h : Q v s)
    (hd : (x == ("__debug__" : Str)) = false := by decide) : wpAny M A (eval (.Name x pos) env) Q E s := wpAny_Name (wpAny_loadName_local hk hl hn hv h) hd
theorem elt_first (hk : scope.kind = .function) (hl : scope.names.lookup xa = some .local) (hd : (xa == ("__debug__" : Str)) = false := by decide) : EltP X scope xa xb (.Name xa p1) (fun i _ => i) := by
  intro cenv A' E' i j t u s₂ m₂ hs hA hb hn hma hmb
  exact ldl (by rw [hs]; exact hk) (show cenv.scope.names.lookup xa = some .local by rw [hs]; exact hl) hn hma ⟨⟨t, rfl⟩, GxR.keeps_refl _⟩ hd
theorem elt_mul (hk : scope.kind = .function) (hl : scope.names.lookup xa = some .local) (hl2 : scope.names.lookup xb = some .local) (hd : (xa == ("__debug__" : Str)) = false := by decide) (hd2 : (xb == ("__debug__" : Str)) = false := by decide) :
    EltP X scope xa xb (.BinOp (.Name xa p1) .Mult (.Name xb p2) p3) (fun i j => i * j) := by
  intro cenv A' E' i j t u s₂ m₂ hs hA hb hn hma hmb
  refine wpAny_BinOp ?_
  refine ldl (by rw [hs]; exact hk) (show cenv.scope.names.lookup xa = some .local by rw [hs]; exact hl) hn hma ?_ hd
  refine ldl (by rw [hs]; exact hk) (show cenv.scope.names.lookup xb = some .local by rw [hs]; exact hl2) hn hmb ?_ hd2
  exact mul_int ⟨⟨_, rfl⟩, GxR.keeps_tok _ _⟩ (show CMul i j from .inl hb).ok
end
/-- isinstance(x, T) of an int at the name x -/
theorem isi_int {prog : Program} {w : World} {K : PySem.W.Frag} {A : Around} {E : Value → Shared → Prop} {s : Shared} {env : Env} {m mg mb : Str → Option Value} {x T : Str} {Ts : String} {i : Int} {t : Tok} {b : Bool} {q1 q2 q3 q4 : Pos} {Q : Value → Shared → Prop}
    (KX : K.In s.heap) (hk : env.scope.kind = .function) (hl : env.kindOf x = some .local) (hn : s.heap.Ns env.locals m) (hv : m x = some (.int i t)) (hg : s.heap.Ns env.globals mg) (hb : s.heap.Ns env.builtins mb) (hbb : ∀ y : Str, y ≠ "__name__" → mb y = bootBuiltins y)
    (gi : env.kindOf "isinstance" = some .globalImplicit) (gT : env.kindOf T = some .globalImplicit) (mi : mg "isinstance" = none) (mT : mg T = none) (hT : bootBuiltins T = some (.type Ts)) (hTn : T ≠ "__name__") (kt : kitB "int" Ts = some b)
    (h : ∀ tk, Q (.bool b) { s with toks := tk }) (hd : (x == ("__debug__" : Str)) = false) (hdT : (T == ("__debug__" : Str)) = false)
    (he1 : starEach [.Name x q2, .Name T q3] env = (false, eval (.Name x q2) env) :: starEach [.Name T q3] env := by rfl) (he2 : starEach [.Name T q3] env = [(false, eval (.Name T q3) env)] := by rfl) :
    wpAny (model prog w) A (eval (.Call (.Name "isinstance" q1) [.Name x q2, .Name T q3] [] q4) env) Q E s := by
  refine wpAny_Call_Name_kw (Calls.Name_function_global hk gi (Calls.loadGlobal_builtin hg mi hb ((hbb "isinstance" (by decide)).trans (by decide +kernel : bootBuiltins "isinstance" = some (.builtin "isinstance"))) ?_))
  refine PyProof.Rows.callWith_builtin1 ?_ he1 (by rw [he2]; rfl)
  rw [he1, he2]
  show wpAny _ _ (spliced ((false, eval (.Name x q2) env) :: (false, eval (.Name T q3) env) :: [])) _ _ s
  refine Calls.spliced_cons (ldl hk hl hn hv (Calls.spliced_cons (Calls.Name_function_global hk gT (Calls.loadGlobal_builtin hg mT hb ((hbb T hTn).trans hT) (Calls.spliced_nil ?_)) hdT)) hd)
  exact PySem.W.kia_one PySem.W.kitx_int KX True.intro (kit_ty kt) (fun z => nomatch z) h
/-- the text of is_number -/
def numBody (n0 n1 n2 n3 n4 n5 n6 n7 n8 n9 n10 : Pos) : List Stmt := [.Return (some (.BoolOp .And [.Call (.Name "isinstance" n0) [.Name "thing" n1, .Name "int" n2] [] n3, .UnaryOp .Not (.Call (.Name "isinstance" n4) [.Name "thing" n5, .Name "bool" n6] [] n7) n8] n9)) n10]
def numArgs (p : Pos) : Arguments := { posonlyargs := [], args := [{ arg := "thing", annotation := none, pos := p }], vararg := none, kwonlyargs := [], kw_defaults := [], kwarg := none, defaults := [] }
def numScope : Scope := { kind := .function, names := [(PySem.Str.ofString "thing", .local), (PySem.Str.ofString "isinstance", .globalImplicit), (PySem.Str.ofString "int", .globalImplicit), (PySem.Str.ofString "bool", .globalImplicit)], isGenerator := false, isCoroutine := false, more := [] }
/-- what of is_number's text the walk needs -/
def NumAt (K : PySem.W.Frag) (f : Addr) : Prop := ∃ (oc : Value) (od : Option Addr) (kV doc pm : Value) (an : Option Addr) (cdv ct : Value) (osl : Array (Option Value)) (p n0 n1 n2 n3 n4 n5 n6 n7 n8 n9 n10 : Pos),
  K.lookup f = some ⟨oc, od, .func (PySem.W.fnOf "is_number" "is_number" (numArgs p) (numBody n0 n1 n2 n3 n4 n5 n6 n7 n8 n9 n10) numScope .none kV doc pm an cdv ct), osl⟩ ∧ PySem.W.codeIn K cdv "is_number" = true
theorem num_call {prog : Program} {w : World} {K : PySem.W.Frag} {mg mb : Str → Option Value} {A : Around} {E : Value → Shared → Prop} {s : Shared} {f : Addr} {i : Int} {t : Tok} {Q : Value → Shared → Prop} (N : NumAt K f) (KX : K.In s.heap) (hlim : s.heap.NoLimit) (hg : s.heap.Ns mainGlobals mg)
    (hb : s.heap.Ns builtinsNs mb) (hbb : ∀ y : Str, y ≠ "__name__" → mb y = bootBuiltins y) (mi : mg "isinstance" = none) (m1 : mg "int" = none) (m2 : mg "bool" = none) (hroom : A.depth < recursionLimit) (hq : ∀ s', Keeps s s' → Q (.bool true) s') :
    wpAny (model prog w) A (call (.ref f) [.int i t]) Q E s := by
  obtain ⟨oc, od, kV, doc, pm, an, cdv, ct, osl, p, n0, n1, n2, n3, n4, n5, n6, n7, n8, n9, n10, lk, hcd⟩ := N
  refine wpAny_call ?_
  refine Att.call_fn (binds := [("thing", .int i t)]) KX hlim lk hcd hroom (BindsTo.of_eq (by first | rfl | with_unfolding_all rfl)) (by first | rfl | decide | with_unfolding_all rfl) (fun s₁ IC => ?_) rfl rfl rfl
  obtain ⟨h₁, tk₁, rfl⟩ := IC.toInCall.same
  have kp : ∀ b o, s.heap.get? b = some o → h₁.get? b = some o := IC.toInCall.keep
  have hn := IC.toInCall.ns
  show wpAny _ _ (execs _ _) _ _ _
  refine wpAny_execs_cons (wpAny_Return_some ?_)
  refine BoolOp_and ?_
  refine isi_int (mg := mg) (mb := mb) (b := true) (KX.keeps kp) rfl rfl hn (by first | rfl | with_unfolding_all rfl | kernel_rfl) (hg.keeps kp) (hb.keeps kp) hbb rfl rfl mi m1 (by decide +kernel : bootBuiltins "int" = some (.type "int")) (by decide) kb_int_int (fun tk => ?_) (by decide) (by decide)
  refine wpAny_truthy_bool ?_
  show wpAny _ _ (eval (.BoolOp .And [.UnaryOp .Not (.Call (.Name "isinstance" n4) [.Name "thing" n5, .Name "bool" n6] [] n7) n8] n9) _) _ _ _
  refine BoolOp_one (UnaryOp_ ?_)
  refine isi_int (mg := mg) (mb := mb) (b := false) (KX.keeps kp) rfl rfl hn (by first | rfl | with_unfolding_all rfl | kernel_rfl) (hg.keeps kp) (hb.keeps kp) hbb rfl rfl mi m2 (by decide +kernel : bootBuiltins "bool" = some (.type "bool")) (by decide) kb_int_bool (fun tk => ?_) (by decide) (by decide)
  refine not_of (wpAny_truthy_bool ?_)
  exact hq _ ⟨h₁, tk, rfl, kp⟩
/-- the text of is_within -/
def withBody (n0 n1 n2 n3 n4 n5 n6 n7 n8 : Pos) : List Stmt := [.Return (some (.BoolOp .And [.Call (.Name "is_number" n0) [.Name "thing" n1] [] n2, .Compare (.Name "least" n3) [.LtE, .LtE] [.Name "thing" n4, .Name "most" n5] n6] n7)) n8]
def withArgs (p1 p2 p3 : Pos) : Arguments := { posonlyargs := [], args := [{ arg := "thing", annotation := none, pos := p1 }, { arg := "least", annotation := none, pos := p2 }, { arg := "most", annotation := none, pos := p3 }], vararg := none, kwonlyargs := [], kw_defaults := [], kwarg := none, defaults := [] }
def withScope : Scope := { kind := .function, names := [(PySem.Str.ofString "thing", .local), (PySem.Str.ofString "least", .local), (PySem.Str.ofString "most", .local), (PySem.Str.ofString "is_number", .globalImplicit)], isGenerator := false, isCoroutine := false, more := [] }
def WithAt (K : PySem.W.Frag) (f : Addr) : Prop := ∃ (oc : Value) (od : Option Addr) (kV doc pm : Value) (an : Option Addr) (cdv ct : Value) (osl : Array (Option Value)) (p1 p2 p3 n0 n1 n2 n3 n4 n5 n6 n7 n8 : Pos),
  K.lookup f = some ⟨oc, od, .func (PySem.W.fnOf "is_within" "is_within" (withArgs p1 p2 p3) (withBody n0 n1 n2 n3 n4 n5 n6 n7 n8) withScope .none kV doc pm an cdv ct), osl⟩ ∧ PySem.W.codeIn K cdv "is_within" = true
theorem with_call {prog : Program} {w : World} {K : PySem.W.Frag} {mg mb : Str → Option Value} {A : Around} {E : Value → Shared → Prop} {s : Shared} {f fn : Addr} {i l n : Int} {t tl tn : Tok} {Q : Value → Shared → Prop} (Wt : WithAt K f) (N : NumAt K fn) (kN : PySem.W.keepIn K (.ref fn) = true) (gN : mg "is_number" = some (.ref fn)) (KX : K.In s.heap) (hlim : s.heap.NoLimit) (hg : s.heap.Ns mainGlobals mg)
    (hb : s.heap.Ns builtinsNs mb) (hbb : ∀ y : Str, y ≠ "__name__" → mb y = bootBuiltins y) (mi : mg "isinstance" = none) (m1 : mg "int" = none) (m2 : mg "bool" = none) (hroom : A.depth + 1 < recursionLimit) (hq : ∀ s', Keeps s s' → Q (.bool (decide (l ≤ i) && decide (i ≤ n))) s') :
    wpAny (model prog w) A (call (.ref f) [.int i t, .int l tl, .int n tn]) Q E s := by
  obtain ⟨oc, od, kV, doc, pm, an, cdv, ct, osl, p1, p2, p3, n0, n1, n2, n3, n4, n5, n6, n7, n8, lk, hcd⟩ := Wt
  refine wpAny_call ?_
  refine Att.call_fn (binds := [("thing", .int i t), ("least", .int l tl), ("most", .int n tn)]) KX hlim lk hcd (by omega) (BindsTo.of_eq (by first | rfl | with_unfolding_all rfl)) (by first | rfl | decide | with_unfolding_all rfl) (fun s₁ IC => ?_) rfl rfl rfl
  obtain ⟨h₁, tk₁, rfl⟩ := IC.toInCall.same
  have kp : ∀ b o, s.heap.get? b = some o → h₁.get? b = some o := IC.toInCall.keep
  have hn := IC.toInCall.ns
  have hlim1 : h₁.NoLimit := hlim.keeps kp
  have hg1 := hg.keeps kp
  show wpAny _ _ (execs _ _) _ _ _
  refine wpAny_execs_cons (wpAny_Return_some ?_)
  refine BoolOp_and ?_
  refine wpAny_Call_Name_kw (Calls.Name_function_global rfl rfl (Calls.loadGlobal_global hg1 gN ?_))
  refine PySem.W.callWith_K (h₀ := h₁) (KX.keeps kp) kN ?_ (by rfl) (by rfl)
  show wpAny _ _ (spliced ((false, eval (.Name "thing" n1) _) :: [])) _ _ _
  refine Calls.spliced_cons (ldl (v := .int i t) rfl rfl hn (by first | rfl | with_unfolding_all rfl | kernel_rfl) (Calls.spliced_nil ⟨KX.keeps kp, ?_⟩) (by decide))
  refine num_call N (KX.keeps kp) hlim1 hg1 (hb.keeps kp) hbb mi m1 m2 (by show A.depth + 1 < _; omega) (fun s' hks => ?_)
  obtain ⟨h', tk', rfl, hkp⟩ := hks
  refine wpAny_truthy_bool ?_
  show wpAny _ _ (eval (.BoolOp .And [.Compare (.Name "least" n3) [.LtE, .LtE] [.Name "thing" n4, .Name "most" n5] n6] n7) _) _ _ _
  refine BoolOp_one ?_
  have kp2 : ∀ b o, s.heap.get? b = some o → h'.get? b = some o := fun b o e => hkp b o (kp b o e)
  refine Compare_chain (ldl (v := .int l tl) rfl rfl (hn.keeps hkp) (by first | rfl | with_unfolding_all rfl | kernel_rfl) (chain_link (ldl (v := .int i t) rfl rfl (hn.keeps hkp) (by first | rfl | with_unfolding_all rfl | kernel_rfl) (le_int (wpAny_truthy_bool ?_)) (by decide))) (by decide)) (by with_unfolding_all rfl)
  by_cases h1 : l ≤ i
  · rw [if_pos (decide_eq_true h1)]
    refine chain_last (ldl (v := .int n tn) rfl rfl (hn.keeps hkp) (by first | rfl | with_unfolding_all rfl | kernel_rfl) ?_ (by decide))
    refine le_int ?_
    have := hq ⟨h', s.gens, s.drawn, tk', s.os⟩ ⟨h', tk', rfl, kp2⟩
    rw [decide_eq_true h1, Bool.true_and] at this
    exact this
  · rw [if_neg (fun z => h1 (of_decide_eq_true z))]
    have := hq ⟨h', s.gens, s.drawn, tk', s.os⟩ ⟨h', tk', rfl, kp2⟩
    rw [decide_eq_false h1, Bool.false_and] at this
    show _
    rw [decide_eq_false h1]
    exact this
/-- is_within(x, 1, MOST) -/
theorem elt_num {X : Cx} {scope : Scope} {x M : Str} {f fn : Addr} {n : Int} {tn : Tok} {q0 q1 q2 q3 q4 : Pos} {k : Nat} (hr : Room k X.A) (Wt : WithAt X.K f) (kW : PySem.W.keepIn X.K (.ref f) = true) (gW : X.mg "is_within" = some (.ref f)) (N : NumAt X.K fn) (kp : PySem.W.keepIn X.K (.ref fn) = true) (gf : X.mg "is_number" = some (.ref fn)) (gM : X.mg M = some (.int n tn)) (hglob : X.env.globals = mainGlobals)
    (mi : X.mg "isinstance" = none) (m1 : X.mg "int" = none) (m2 : X.mg "bool" = none) (hk : scope.kind = .function) (hl : scope.names.lookup x = some .local) (hf : scope.names.lookup ("is_within" : Str) = some .globalImplicit) (hM : scope.names.lookup M = some .globalImplicit)
    (hd : (x == ("__debug__" : Str)) = false := by decide) (hdM : (M == ("__debug__" : Str)) = false := by decide) :
    EltI X scope x (.Call (.Name "is_within" q0) [.Name x q1, .Constant (.int 1) 0 q2, .Name M q3] [] q4) (fun i y => y = .bool (decide (1 ≤ i) && decide (i ≤ n))) := by
  intro cenv A' E' i t s₂ m₂ hs hG hB hA hD hU KX hlim hg hbl hn hm
  obtain ⟨mb, hb, hbb⟩ := hbl
  have hk' : cenv.scope.kind = .function := by rw [hs]; exact hk
  have hl' : cenv.kindOf x = some .local := show cenv.scope.names.lookup x = some .local by rw [hs]; exact hl
  have hf' : cenv.kindOf "is_within" = some .globalImplicit := show cenv.scope.names.lookup ("is_within" : Str) = _ by rw [hs]; exact hf
  have hM' : cenv.kindOf M = some .globalImplicit := show cenv.scope.names.lookup M = _ by rw [hs]; exact hM
  have hg' : s₂.heap.Ns cenv.globals X.mg := by rw [hG, hglob]; exact hg
  refine wpAny_Call_Name_kw (Calls.Name_function_global hk' hf' (Calls.loadGlobal_global hg' gW ?_))
  refine PySem.W.callWith_K (h₀ := s₂.heap) KX kW ?_ (by rfl) (by rfl)
  show wpAny _ _ (spliced ((false, eval (.Name x q1) cenv) :: (false, eval (.Constant (.int 1) 0 q2) cenv) :: (false, eval (.Name M q3) cenv) :: [])) _ _ s₂
  refine Calls.spliced_cons (ldl hk' hl' hn hm (Calls.spliced_cons (wpAny_Constant_int (Calls.spliced_cons (Calls.Name_function_global hk' hM' (Calls.loadGlobal_global hg' gM (Calls.spliced_nil ⟨KX, ?_⟩)) hdM)))) hd)
  exact with_call Wt N kp gf KX hlim hg hb hbb mi m1 m2 (by have := hr.dp; omega) (fun s' hks => ⟨rfl, hks⟩)

/-! ### x(lambda: body), the tables kept -/
theorem sm_lam {T : Tb} {H H' : Hp} {P : Addr} {q : Str} (hn : (T.map (·.1)).Nodup) (hP : (P, some q) ∈ T) (ht : LamX.TabS H P q) (h1 : LamX.TabS H' P q) (h2 : ∀ b o, b ≠ P → H b = some o → H' b = some o) : Sm T H H' := by
  obtain ⟨ps, e, _⟩ := ht
  have ne : ∀ b o, H b = some o → nTbl o → b ≠ P := fun b o q n z => by
    rw [z, e] at q
    cases q
    exact n
  refine ⟨fun b o q n => h2 b o (ne b o q n) q, fun k p hp => ?_, fun l hl => ?_⟩
  · by_cases hb : p.1 = P
    · have ep : p = (P, some q) := by
        obtain ⟨i, hi, e1⟩ := List.getElem_of_mem hp
        obtain ⟨j, hj, e2⟩ := List.getElem_of_mem hP
        have hij : i = j := by
          have a1 : (T.map (·.1))[i]? = some P := by rw [List.getElem?_map, List.getElem?_eq_getElem hi, e1]; exact congrArg some hb
          have a2 : (T.map (·.1))[j]? = some P := by rw [List.getElem?_map, List.getElem?_eq_getElem hj, e2]; rfl
          exact nd_ix hn a1 a2
        subst hij
        rw [← e1, e2]
      rw [ep]
      exact h1
    · have z := k p hp
      obtain ⟨P', w⟩ := p
      have hb : P' ≠ P := hb
      cases w with
      | none =>
        obtain ⟨ps', a1, a2⟩ := (show GxR.TabG H P' from z)
        exact ⟨ps', h2 _ _ hb a1, a2⟩
      | some w =>
        obtain ⟨ps', a1, a2, a3⟩ := (show LamX.TabS H P' w from z)
        refine ⟨ps', h2 _ _ hb a1, a2, fun pos cv hc => ?_⟩
        obtain ⟨c, e1, e2⟩ := a3 pos cv hc
        exact ⟨c, e1, h2 c _ (ne c _ e2 (by unfold LamX.CodeO; trivial)) e2⟩
  · by_cases z : l = P
    · obtain ⟨ps', a1, _⟩ := h1
      rw [z, a1] at hl
      cases hl
    · cases q' : H l with
      | none => rfl
      | some o =>
        rw [h2 l o z q'] at hl
        cases hl
section
variable {X : Cx} {pins : List (Addr × Obj)} {σ : L2.St} {H : Hp} {s : Shared}
/-- the lambda is made: its code object is new, or found in the table; all else stays -/
theorem lam_make3 {c P : Addr} {params : Arguments} {body : Expr} {scope : Scope} {pos : Pos} {E : Value → Shared → Prop} {Q : Value → Shared → Prop} (I : Inv X pins σ H s) (TB : LamX.TabB X.base X.mg c P) (hcode : X.env.code = .ref c)
    (hT : LamX.TabS H P (X.env.qual ++ "<lambda>")) (hdef : defaultsOf params X.env = ([], [])) (hfree : ∀ y ∈ scope.names, y.2 = .free → ∃ c, X.env.cells.lookup y.1 = some c)
    (h : ∀ (f c' : Addr) (pm ctv : Value) (H1 : Hp) (s' : Shared), Inv X pins σ H1 s' → (∀ b o, b ≠ P → H b = some o → H1 b = some o) → LamX.TabS H1 P (X.env.qual ++ "<lambda>") →
      s'.heap.get? f = some (PySem.W.kla_obj "<lambda>" (X.env.qual ++ "<lambda>") params body scope (cloFrom X.env.cells scope.names []) pm c' ctv) → H1 f = none → f ∉ frs X.stack → H1 c' = some (LamX.CodeO c' (X.env.qual ++ "<lambda>")) → Q (.ref f) s') :
    wpAny (model X.prog X.w) X.A (eval (.Lambda params body scope pos) X.env) Q E s := by
  obtain ⟨ps, hP, ht, ha⟩ := hT
  refine PySem.W.kla_eval hdef ?_
  have bP : s.heap.BuiltinsAt X.mg P := TB.bm.keeps I.bk
  have hP' : s.heap.get? P = some { cls := .none, data := .fields ps } := I.hok P _ hP
  have nofr : ∀ f, s.heap.objs.size ≤ f → f ∉ frs X.stack := fun f hf z => by
    rcases List.mem_cons.mp (I.stkSub _ z) with e | e
    · have h1 := I.lt
      rw [← e] at h1
      exact Nat.lt_irrefl _ (Nat.lt_of_lt_of_le h1 hf)
    · exact I.nofs hf e
  cases hc : codeAmong pos ps.toList with
  | none =>
    refine PySem.W.kla_makeFunction (mg := X.mg) (c := c) (P := P) (ps := ps) (closure_ok hfree) I.ok.glob (I.mod.glob.keeps I.bk) hcode (TB.code.keeps I.bk) hP' ht hc TB.gP bP fun c' ctv h' tk hx hge hlt hrec htb => ?_
    obtain ⟨c2, oc, vs, t, e2, hoc, hd, hv⟩ := hrec
    cases e2
    have hsz : s.heap.objs.size ≤ h'.objs.size := Nat.le_trans hge (Nat.le_of_lt hlt)
    have nC : H c' = none := I.hok.fresh hge
    have I1 := LamX.inv_table (t' := tk) (more := #[rawInt pos.line, rawInt pos.col, .ref c']) (h' := h'.push (PySem.W.kla_obj "<lambda>" (X.env.qual ++ "<lambda>") params body scope (cloFrom X.env.cells scope.names []) ((X.mg "__name__").getD .none) c' ctv)) I hP
      (fun b o hb e => Heap.get?_push_of_some _ (hx b o hb e)) (Heap.get?_push_of_some _ htb) hge ⟨oc, vs, t, Heap.get?_push_of_some _ hoc, hd, hv⟩
    have hE : ∀ b o, b ≠ P → H b = some o → upd (upd H P (.tbl (ps ++ #[rawInt pos.line, rawInt pos.col, .ref c']))) c' (LamX.CodeO c' (X.env.qual ++ "<lambda>")) b = some o := fun b o hb e => by
      rw [upd_ne (ne_of_none e nC), upd_ne hb]
      exact e
    have eL : (ps ++ #[rawInt pos.line, rawInt pos.col, .ref c']).toList = ps.toList ++ [rawInt pos.line, rawInt pos.col, .ref c'] := by simp
    refine h h'.objs.size c' ((X.mg "__name__").getD .none) ctv _ _ I1 hE ?_ (Heap.get?_push_size _ rfl) ?_ (nofr _ hsz) upd_same
    · refine ⟨_, by rw [upd_ne (ne_of_none hP nC), upd_same], by rw [eL]; exact PySem.TriplesOk_snoc _ _ _ _ ht, fun p' cv hcv => ?_⟩
      rw [eL] at hcv
      rcases LamX.among_app _ ht hcv with z | z
      · obtain ⟨c0, e1, e2⟩ := ha p' cv z
        refine ⟨c0, e1, hE _ _ (fun z => ?_) e2⟩
        rw [z, hP] at e2
        unfold LamX.CodeO at e2
        cases e2
      · exact ⟨c', z, upd_same⟩
    · have n1 : h'.objs.size ≠ c' := Nat.ne_of_gt hlt
      have n2 : h'.objs.size ≠ P := Nat.ne_of_gt (Nat.lt_of_lt_of_le (Heap.lt_size hP') hsz)
      rw [upd_ne n1, upd_ne n2]
      exact I.hok.fresh hsz
  | some cv =>
    obtain ⟨c', e, hco⟩ := ha pos cv hc
    subst e
    refine PySem.W.kla_makeFunctionHit (mg := X.mg) (c := c) (P := P) (ps := ps) (closure_ok hfree) I.ok.glob (I.mod.glob.keeps I.bk) hcode (TB.code.keeps I.bk) hP' ht hc bP fun ctv h' tk hx hsz => ?_
    have I1 : Inv X pins σ H { s with heap := h'.push (PySem.W.kla_obj "<lambda>" (X.env.qual ++ "<lambda>") params body scope (cloFrom X.env.cells scope.names []) ((X.mg "__name__").getD .none) c' ctv), toks := tk } := I.kept fun b o e => Heap.get?_push_of_some _ (hx b o e)
    exact h h'.objs.size c' ((X.mg "__name__").getD .none) ctv H _ I1 (fun _ _ _ e => e) ⟨ps, hP, ht, ha⟩ (Heap.get?_push_size _ rfl) (I.hok.fresh hsz) (nofr _ hsz) hco
/-- the def that is given the lambda: as LamX.GivesTo -/
def tLm (T : Tb) (P : Addr) (q : Str) (TT : (XK → Hp → VK → Prop) → Hp → VK → Prop) (t : XK → TE) : TE := fun σ H Q => LamX.TabS H P q ∧ ∀ H1, Sm T H H1 → TT (fun E H' Q' => t E σ H' Q') H1 Q
theorem pe_lam {T : Tb} {TT : (XK → Hp → VK → Prop) → Hp → VK → Prop} {x a : Str} {g c P : Addr} {k : Nat} {pg : Arguments} {bg : List Stmt} {sg : Scope} {dV kV doc pm cdv ct oc : Value} {an od : Option Addr} {osl : Array (Option Value)} {Ng : List Str}
    {params : Arguments} {body : Expr} {scope : Scope} {t : XK → TE} {p lpos pos : Pos} (hn : (T.map (·.1)).Nodup) (hg : Gl X x) (hm : X.mg x = some (.ref g)) (hk : PySem.W.keepIn X.K (.ref g) = true)
    (lk : X.K.lookup g = some ⟨oc, od, .func (PySem.W.fnOf x x pg bg sg dV kV doc pm an cdv ct), osl⟩) (hcg : PySem.W.codeIn X.K cdv x = true) (hb : L2.Binds X.K (PySem.W.fnOf x x pg bg sg dV kV doc pm an cdv ct) [a] []) (Sg : FnScope Ng [a] sg) (hNg : Ng[0]? = some a) (hva : Vis sg a)
    (hG : LamX.GivesTo X Ng x sg g cdv bg a (X.env.qual ++ "<lambda>") TT)
    (TB : LamX.TabB X.base X.mg c P) (hcode : X.env.code = .ref c) (hmT : (P, some (X.env.qual ++ "<lambda>")) ∈ T) (hr : Room (k + 2) X.A) (L : LamX.LamS X.env.scope scope) (hdef : defaultsOf params X.env = ([], []))
    (hbind : ∀ (q : Str) (cl : List (Str × Addr)) (pm cv ctv : Value), bindArgs (PySem.W.kla_fn "<lambda>" q params body scope cl pm cv ctv) ⟨[], []⟩ = pure [])
    (hbody : ∀ (A : Around) (outer : List Env) (s : Shared) (H : Hp) (E : XK) (f c' : Addr), Room k (A.deeper (LamX.lamEnv X scope s.heap.objs.size f c')) → PE (LamX.lamCx X A outer s H E scope f c') body (t E))
    (hdb : (x == ("__debug__" : Str)) = false := by decide) (hd : (a == ("__debug__" : Str)) = false := by decide) (hcd : (a == ("__classdict__" : Str)) = false := by decide) :
    PE X (.Call (.Name x p) [.Lambda params body scope lpos] [] pos) (tLm T P (X.env.qual ++ "<lambda>") TT t) := by
  refine ⟨fun pins s σ H Q I h => ?_⟩
  obtain ⟨hT, h⟩ := h
  refine wpAny_Call_Name_kw (ld_glob I hg hm ?_ hdb)
  refine PySem.W.callWith_K (h₀ := X.base) I.ok.mod.kin hk ?_ (by rfl) (by rfl)
  show wpAny _ _ (spliced ((false, eval (.Lambda params body scope lpos) X.env) :: backTo pos (starEach [] X.env))) _ _ s
  refine Calls.spliced_cons (lam_make3 I TB hcode hT hdef (L.has I.ok) fun f c' pm' ctv H1 s' I1 eN T1 hf hfn hfr hco => ?_)
  refine Calls.spliced_nil ⟨I1.kIn, ?_⟩
  have rc : codeAny (model X.prog X.w) X.A (.call (.ref g) ⟨[.ref f], []⟩) (CR C8.CX0 X.stack X.prog X.w H1 s' Q C8.E0) s' := by
    refine LamX.run_ofS (N := Ng) (ps := [a]) (us := [.ref f]) (vs := [.ref f]) lk hcg Sg hr I1.env0 (hb s' [.ref f] I1.kIn rfl) (.cons rfl .nil) rfl fun hr' => ?_
    obtain ⟨t', ht', hq'⟩ := hG f c' s' H1 Q (fun E H' Q' => t E σ H' Q') (fun W pn xe E p1 p2 tk hW => LamX.pe_act (i := 0) I1 L hf hfn hfr (hbind _ _ _ _ _) tk hW hr' (fun A outer s H hr2 => hbody A outer s H E f c' hr2) hNg hva hd hcd) hco (h H1 (sm_lam hn hmT hT T1 eN))
    exact ⟨t', ht'.nox, hq'⟩
  refine wpAny_call (codeAny_mono rc fun r s2 hq => ?_)
  cases r with
  | error e => exact (show False from hq).elim
  | ok fl =>
    cases fl with
    | ret u => exact I1.after hq
    | next => exact False.elim hq
    | brk => exact False.elim hq
    | cont => exact False.elim hq
/-- word(asked): try: return ("told", asked()) / except PailError as e: return (e.word,) -/
def TTw (K : PySem.W.Frag) (CP : Addr) : (XK → Hp → VK → Prop) → Hp → VK → Prop := fun tl H Q =>
  tl (fun cls d H' => ∃ word, Rf K CP word cls d H' ∧ ∀ p, H' p = none → Q (.ref p) (upd H' p (.tup [.str word]))) H (fun v H' => ([V.str "told", v] : List V).length ≤ sizeLine ∧ ∀ p, H' p = none → Q (.ref p) (upd H' p (.tup [.str "told", v])))
theorem word_gives {x a e n q : Str} {sg : Scope} {g CP : Addr} {cdg : Value} {Ng : List Str} {i j0 j1 j2 : Nat} {p1 p2 p3 p4 p5 p6 p7 p8 p9 q1 q2 q3 : Pos} (hnd : Ng.Nodup) (hi : Ng[i]? = some n) (hln : sg.names.lookup n = some .local) (hge : sg.names.lookup e = some .globalImplicit) (hme : X.mg e = some (.ref CP)) (hde : (e == ("__debug__" : Str)) = false)
    (hdn : (n == ("__debug__" : Str)) = false) (hcn : (n == ("__classdict__" : Str)) = false) (hlen : ∀ f : Addr, (L2.start Ng [V.ref f])[0]? = some (some (V.ref f))) :
    LamX.GivesTo X Ng x sg g cdg [.Try [.Return (some (.Tuple [.Constant (.str "told") j0 p1, .Call (.Name a p2) [] [] p3] j1 p4)) p5] [.ExceptHandler (some (.Name e p6)) (some n) [.Return (some (.Tuple [.Attribute (.Name n q1) "word" q2] j2 q3)) p7] p8] [] [] p9] a q (TTw X.K CP) := by
  intro f c' s H Q tl act hc h
  have hgl : Gl (cxOf C8.CX0 X.prog X.w X.K X.mg X.base Ng x sg g cdg X.A X.stack s H C8.E0).nox e := hge
  refine ⟨_, pss_one (ps_try_as (X := (cxOf C8.CX0 X.prog X.w X.K X.mg X.base Ng x sg g cdg X.A X.stack s H C8.E0).nox) (i := i) (c := .ref CP)
      (tb := fun W D σ H => ∃ Ech : XK, (∀ cls d (σ' : L2.St) H', Ech cls d H' → σ'.length = Ng.length → W cls d σ' H') ∧ σ[0]? = some (some (.ref f)) ∧ H c' = some (LamX.CodeO c' q) ∧ tl Ech H (fun v H' => ([V.str "told", v] : List V).length ≤ sizeLine ∧ ∀ p, H' p = none → D.rt (.ref p) (upd H' p (.tup [.str "told", v]))))
      (ts := fun b cls d => tRet (tTup (tCons (tXw X.K b cls d (tVar i)) tNil)))
      rfl rfl hnd hi hln ⟨hgl, hde, .inl hme⟩ LamX.takes0 (fun W pn xe tk _ => ?_) (fun b oe cls d pn hz hf => pss_one (ps_ret (pe_tup (pa_cons (pe_xw hz hf (pe_var hi (.inl hln) hdn hcn)) pa_nil))))), ?_⟩
  · refine ⟨fun pins s' σ H' D I h' => ?_⟩
    obtain ⟨Ech, hW, h1, h2, h3⟩ := h'
    have tk2 : Takes ((cxOf C8.CX0 X.prog X.w X.K X.mg X.base Ng x sg g cdg X.A X.stack s H C8.E0).tr pn xe) (fun cls d σ' H' => σ'.length = Ng.length → W cls d σ' H') :=
      fun u s' ⟨a, B, sI, pins, σ, H, cls, d, e, I, nb, up, sky, na, os, ag, w⟩ => tk u s' ⟨a, B, sI, pins, σ, H, cls, d, e, I, nb, up, sky, na, os, ag, w I.len⟩
    have hp := act _ pn xe Ech p2 p3 tk2 (fun cls d σ' H' he hl => hW cls d σ' H' he hl)
    have hq := pss_one (ps_ret (pos := p5) (pe_tup (x1 := j1) (pos := p4) (pa_cons (pe_str (x := "told") (j := j0) (pos := p1)) (pa_cons hp pa_nil))))
    exact hq.run pins s' σ H' D I ⟨h1, h2, h3⟩
  · refine ⟨fun cls d H' => ∃ word, Rf X.K CP word cls d H' ∧ ∀ p, H' p = none → Q (.ref p) (upd H' p (.tup [.str word])), fun cls d σ' H' hE hl => ?_, hlen f, hc, h⟩
    obtain ⟨word, ⟨C, dd, rfl, rfl, xf, nw, ex, hdd⟩, hq⟩ := hE
    refine ⟨true, ex, fun _ b hb => ?_, fun z => by cases z⟩
    have hil : i < σ'.length := by
      rw [hl]
      exact (List.getElem?_eq_some_iff.mp hi).1
    exact ⟨.ref b, List.getElem?_set_self hil, rfl, C, dd, .str word, rfl, xf, nw, rfl, hdd, by show 1 ≤ sizeLine; decide, fun p hp => hq p hp⟩
end
/-- the law's own word: what a call tells, or the word of its refusal -/
structure Word (K : PySem.W.Frag) (mg : Str → Option Value) (CP : Addr) : Prop where
  ex : ∃ (g : Addr) (fd : FuncData), Fun K "_law_word" "_law_word" s_l_word g fd ∧ mg "_law_word" = some (.ref g) ∧ Binds K fd ["_law_asked"] [] ∧ mg "PailError" = some (.ref CP)
theorem pe_word {X : Cx} {T : Tb} {CP c P : Addr} {k : Nat} {params : Arguments} {body : Expr} {scope : Scope} {t : XK → TE} {p lpos pos : Pos} (W : Word X.K X.mg CP) (hn : (T.map (·.1)).Nodup) (hg : Gl X "_law_word") (TB : LamX.TabB X.base X.mg c P) (hcode : X.env.code = .ref c)
    (hmT : (P, some (X.env.qual ++ "<lambda>")) ∈ T) (hr : Room (k + 2) X.A) (L : LamX.LamS X.env.scope scope) (hdef : defaultsOf params X.env = ([], []))
    (hbind : ∀ (q : Str) (cl : List (Str × Addr)) (pm cv ctv : Value), bindArgs (PySem.W.kla_fn "<lambda>" q params body scope cl pm cv ctv) ⟨[], []⟩ = pure [])
    (hbody : ∀ (A : Around) (outer : List Env) (s : Shared) (H : Hp) (E : XK) (f c' : Addr), Room k (A.deeper (LamX.lamEnv X scope s.heap.objs.size f c')) → PE (LamX.lamCx X A outer s H E scope f c') body (t E)) :
    PE X (.Call (.Name "_law_word" p) [.Lambda params body scope lpos] [] pos) (tLm T P (X.env.qual ++ "<lambda>") (TTw X.K CP) t) := by
  obtain ⟨g, fd, F, hm, hb, hP⟩ := W.ex
  have kp := F.kp
  obtain ⟨oc, od, kV, doc, pm, an, cdv, ct, osl, rfl, lk, hcg⟩ := F.ex
  exact pe_lam hn hg hm kp lk hcg hb sc_l_word rfl (.inl rfl) (word_gives (i := 1) (n := "e") (e := "PailError") (a := "_law_asked") sc_l_word.nd rfl rfl rfl hP (by decide) (by decide) (by decide) (fun _ => rfl)) TB hcode hmT hr L hdef hbind hbody

/-! ### zip of a tuple and a list -/
def ItM (K : PySem.W.Frag) (a b : Addr) : It :=
  ⟨fun i H => ∃ (us vs : List V) (x y : V), (SqT K H a us ∧ SqL K H b vs) ∧ us[i]? = some x ∧ vs[i]? = some y,
    fun i H v H' => ∃ Tt x y, v = .ref Tt ∧ H Tt = none ∧ H' = upd H Tt (.tup [x, y]) ∧ (∀ us, SqT K H a us → us[i]? = some x) ∧ ∀ vs, SqL K H b vs → vs[i]? = some y,
    fun i H => ∃ us vs : List V, SqT K H a us ∧ SqL K H b vs ∧ min us.length vs.length = i⟩
theorem turnM {P : Program} {w : World} {K : PySem.W.Frag} {elts : List Expr} {kk : Nat} {tpos : Pos} {a b z TI TO j1 j2 : Addr} (S : ZipSep2 z TI TO j1 j2 [j1, a] [j2, b]) (ha : a ≠ j1) (hb : b ≠ j2) :
    Turn P w K (.Tuple elts kk tpos) (ItM K a b) [z, TI, TO, j1, j2] z (fun i h => IsZip h z TI TO .none ∧ IsTupOf2 h TI (.ref j1) (.ref j2) ∧ (∃ x y, IsTupOf2 h TO x y) ∧ h.IsTupleIter j1 a i ∧ h.IsListIter j2 b i) where
  mem := by simp
  obj := fun i h st d hd => by
    obtain ⟨hz, hTI, ⟨x, y, hTO⟩, ⟨o1, e1, _, d1⟩, ⟨o2, e2, _, d2⟩⟩ := st
    have e' : d = z ∨ d = TI ∨ d = TO ∨ d = j1 ∨ d = j2 := by simpa using hd
    rcases e' with rfl | rfl | rfl | rfl | rfl
    · exact ⟨_, hz, fun v q => nomatch q⟩
    · exact ⟨_, hTI, fun v q => nomatch q⟩
    · exact ⟨_, hTO, fun v q => nomatch q⟩
    · exact ⟨o1, e1, fun v q => by rw [d1] at q; cases q⟩
    · exact ⟨o2, e2, fun v q => by rw [d2] at q; cases q⟩
  keep := fun i h h' st k => by
    obtain ⟨hz, hTI, ⟨x, y, hTO⟩, ⟨o1, e1, c1, d1⟩, h2⟩ := st
    exact ⟨k z (by simp) _ hz, k TI (by simp) _ hTI, ⟨x, y, k TO (by simp) _ hTO⟩, ⟨o1, k j1 (by simp) o1 e1, c1, d1⟩, h2.at fun o q => k j2 (by simp) o q⟩
  item := by
    intro X hP hw hK hc i pins s σ H E I hf st hg
    subst hP hw hK
    obtain ⟨hz, hTI, hTO, h1, h2⟩ := st
    obtain ⟨us, vs, x, y, ⟨hqx, hqy⟩, hx, hy⟩ := hg
    obtain ⟨its1, rv1, p1, _⟩ := I.tuple hqx
    obtain ⟨its2, rv2, p2, _⟩ := I.list hqy
    have t1 : s.heap.IsTuple a its1.toArray := let ⟨o, ho, hc, n, hd⟩ := p1; ⟨o, ho, hc, n, hd⟩
    obtain ⟨m1, g1, r1⟩ := rv1.get hx
    obtain ⟨m2, g2, r2⟩ := rv2.get hy
    have hh : X.A.in1.handled = none := I.ok.hd hc
    have W := WalksT.zipD2 (prog := X.prog) (w := X.w) (A := X.A) S (Draws.tuple hh j1 a ha its1.toArray) (Draws.list hh j2 b hb its2.toArray)
    have lt1 : i < its1.length := (List.getElem?_eq_some_iff.mp g1).1
    have lt2 : i < its2.length := (List.getElem?_eq_some_iff.mp g2).1
    refine W.item i s _ _ (by simp only [List.size_toArray]; omega) ⟨hz, hTI, hTO, ⟨h1, t1⟩, ⟨h2, p2.isList⟩⟩ fun Tt vals h' tk hPt hge hT hM hk => ⟨_, rfl, W.go elts kk tpos i Tt _ _ _ hM fun h'' hSt hk2 => ?_⟩
    obtain ⟨n1, n2, f1, f2, rfl⟩ := hPt
    have q1 : n1 = m1 := by have f : its1[i]? = some n1 := by simpa using f1
                            rw [g1] at f; exact (Option.some.inj f).symm
    have q2 : n2 = m2 := by have f : its2[i]? = some n2 := by simpa using f2
                            rw [g2] at f; exact (Option.some.inj f).symm
    subst q1 q2
    have hT2 := hT.at fun o e => hk2 Tt o (W.apart _ _ _ hM) e
    have new : ObjOk X.prog X.w (upd H Tt (.tup [x, y])) h'' Tt (.tup [x, y]) := ⟨by show 2 ≤ sizeLine; decide, [n1, n2], .cons r1 (.cons r2 .nil), hT2⟩
    have nin : ∀ d, d ∉ [z, TI, TO, j1, j2] → d ∉ [z, TO, j1, j2] := fun d hd hm => hd (by
      have : d = z ∨ d = TO ∨ d = j1 ∨ d = j2 := by simpa using hm
      rcases this with rfl | rfl | rfl | rfl <;> simp)
    have I1 := I.turnedNew (t' := tk) (h' := h'') (ch := [z, TI, TO, j1, j2]) (fun d o hd q => hk2 d o (nin d hd) (hk d o (nin d hd) q)) hf hge new
    obtain ⟨s1, s2, s3, s4, s5⟩ := hSt
    refine ⟨.ref Tt, _, I1, rfl, ⟨Tt, x, y, rfl, I.hok.fresh hge, rfl, fun l hl => by rw [I.tuple_inj hl hqx]; exact hx, fun l hl => by rw [I.list_inj hl hqy]; exact hy⟩, ⟨s1, s2, s3, s4.1, s5.1⟩, fun d hd => ?_⟩
    have hlt : d < s.heap.objs.size := by
      have e' : d = z ∨ d = TI ∨ d = TO ∨ d = j1 ∨ d = j2 := by simpa using hd
      obtain ⟨x0, y0, hTO⟩ := hTO
      rcases e' with rfl | rfl | rfl | rfl | rfl
      · exact Heap.lt_size hz
      · exact Heap.lt_size hTI
      · exact Heap.lt_size hTO
      · obtain ⟨_, e1, _⟩ := h1; exact Heap.lt_size e1
      · obtain ⟨_, e1, _⟩ := h2; exact Heap.lt_size e1
    rw [upd_ne (Nat.ne_of_lt (Nat.lt_of_lt_of_le hlt hge))]
    exact (hf d hd).1
  done := by
    intro X hP hw hK hc i pins s σ H E I hf st hg
    subst hP hw hK
    obtain ⟨hz, hTI, hTO, h1, h2⟩ := st
    obtain ⟨us, vs, hqx, hqy, hend⟩ := hg
    obtain ⟨its1, rv1, p1, _⟩ := I.tuple hqx
    obtain ⟨its2, rv2, p2, _⟩ := I.list hqy
    have t1 : s.heap.IsTuple a its1.toArray := let ⟨o, ho, hc, n, hd⟩ := p1; ⟨o, ho, hc, n, hd⟩
    have hh : X.A.in1.handled = none := I.ok.hd hc
    have W := WalksT.zipD2 (prog := X.prog) (w := X.w) (A := X.A) S (Draws.tuple hh j1 a ha its1.toArray) (Draws.list hh j2 b hb its2.toArray)
    have l1 := rv1.length
    have l2 := rv2.length
    have en : min its1.toArray.size its2.toArray.size = i := by simp only [List.size_toArray]; omega
    refine W.done s _ _ (by rw [en]; exact ⟨hz, hTI, hTO, ⟨h1, t1⟩, ⟨h2, p2.isList⟩⟩) fun h' tk hk => ⟨rfl, I.turnedL (t' := tk) (ch := [z, TI, TO, j1, j2]) (fun d o hd q => hk d o (fun hm => hd ?_) q) hf⟩
    have : d = z ∨ d = TO ∨ d = j1 ∨ d = j2 := by simpa using hm
    rcases this with rfl | rfl | rfl | rfl <;> simp
  self := fun A i s Q E st h => wpAny_pyIter_zip st.1 h
def iZipM (K : PySem.W.Frag) (ta : TA) : TI := fun σ H R => ta σ H fun xs H1 => ∃ a b us vs, xs = [.ref a, .ref b] ∧ SqT K H1 a us ∧ SqL K H1 b vs ∧ R (ItM K a b) H1
theorem pi_zipM {X : Cx} {e e2 : Expr} {ta : TA} {p pos tpos : Pos} {elts : List Expr} {kk : Nat} (hg : Gl X "zip") (hm : X.mg "zip" = none) (ha : PA X [e, e2] ta)
    (hs : starEach [e, e2] X.env = (false, eval e X.env) :: starEach [e2] X.env := by rfl) (hpl : (backTo pos (starEach [e2] X.env)).any (·.1) = false := by rfl) :
    PI X (.Tuple elts kk tpos) (.Call (.Name "zip" p) [e, e2] [] pos) (iZipM X.K ta) := by
  refine ⟨fun pins s σ H R I h => Call_ (ld_blt I hg hm PyProof.Rows.boot_zip (PyProof.Rows.callWith_type1 (thn (ha.run pos pins s σ H _ I h) fun us s1 ⟨vs, H1, I1, r1, q1⟩ => ?_) hs hpl))⟩
  obtain ⟨a, b, as, bs, ex, hqx, hqy, q⟩ := q1
  subst ex
  cases r1 with
  | cons r rr =>
    cases rr with
    | cons r' rr =>
      cases rr
      cases r
      cases r'
      obtain ⟨its1, rv1, p1, _⟩ := I1.tuple hqx
      obtain ⟨its2, rv2, p2, _⟩ := I1.list hqy
      have t1 : s1.heap.IsTuple a its1.toArray := let ⟨o, ho, hc, n, hd⟩ := p1; ⟨o, ho, hc, n, hd⟩
      have la : a < s1.heap.objs.size := by obtain ⟨_, e, _⟩ := t1; exact Heap.lt_size e
      have lb : b < s1.heap.objs.size := p2.lt
      refine zip_begins2 (begins_tuple a its1.toArray) (begins_list b its2.toArray) t1 p2.isList fun h' hz hTI hTO h1 h2 hsz hk => wpAny_pyIter_zip hz ?_
      have I2 : Inv X pins σ H1 { s1 with heap := h' } := I1.kept (t' := s1.toks) hk
      have one : ∀ d : Addr, d < s1.heap.objs.size → ∀ e ∈ [d], e < s1.heap.objs.size := fun d hd e he => by rw [List.mem_singleton.mp he]; exact hd
      refine ⟨_, [s1.heap.objs.size + 4, s1.heap.objs.size + 2, s1.heap.objs.size + 3, s1.heap.objs.size, s1.heap.objs.size + 1], _, _, H1, rfl, I2, turnM (zip_sep2 (one a la) (one b lb)) (Nat.ne_of_lt la) (Nat.ne_of_lt (Nat.lt_succ_of_lt lb)), ⟨hz, hTI, ⟨_, _, hTO⟩, ⟨_, h1, rfl, rfl⟩, ⟨_, h2, rfl, rfl⟩⟩, fun d hd => ?_, q⟩
      have hle : s1.heap.objs.size ≤ d := by
        have e' : d = s1.heap.objs.size + 4 ∨ d = s1.heap.objs.size + 2 ∨ d = s1.heap.objs.size + 3 ∨ d = s1.heap.objs.size ∨ d = s1.heap.objs.size + 1 := by simpa using hd
        rcases e' with z | z | z | z | z <;> rw [z] <;> first | exact Nat.le_refl _ | exact Nat.le_add_right _ _
      exact I1.fpOk hle (I1.hok.fresh hle)
/-- each turn's two in a new tuple -/
def YDuo (us vs : List V) : Nat → Hp → V → Hp → Prop := fun i H v H' => ∃ Tt x y, v = .ref Tt ∧ H Tt = none ∧ H' = upd H Tt (.tup [x, y]) ∧ us[i]? = some x ∧ vs[i]? = some y
theorem walk_zipM {K : PySem.W.Frag} {a b : Addr} {us vs : List V} {n : Nat} (hn : n = min us.length vs.length) : Walk (ItM K a b) n (fun H => SqT K H a us ∧ SqL K H b vs) (YDuo us vs) := by
  subst hn
  refine ⟨fun i _ hi q => ?_, fun _ q => ⟨us, vs, q.1, q.2, rfl⟩, fun i H v H' _ q y => ?_⟩
  · have h1 : i < us.length := by omega
    have h2 : i < vs.length := by omega
    exact ⟨us, vs, us[i], vs[i], q, by simp [h1], by simp [h2]⟩
  · obtain ⟨Tt, x, z, h1, h2, h3, h4, h5⟩ := y
    exact ⟨Tt, x, z, h1, h2, h3, h4 us q.1, h5 vs q.2⟩

theorem ok_PailError {f : Addr} {fd : FuncData} (F : Fun K "__init__" "PailError.__init__" s_p_PailError___init__ f fd) (mV : mg "ValueError" = none) (vV : PySem.W.findCls K (.type "ValueError") (.type "type") "__init__" = some (.val (.builtin "ValueError.__init__"))) :
    FnOk P w K mg base CX0 1 f fd ["self", "word"] (spInit2 K) := by
  refine F.ok sc_p_PailError___init__ (fun vs H Q E h => ?_) (fun cdv A outer s H vs Q E hr h => ?_)
  · obtain ⟨a, C, w, rfl, _⟩ := h
    rfl
  · obtain ⟨a, C, w, rfl, oc, nw, ea, q⟩ := h
    refine ⟨_, (pss_cons (ps_expr (pe_veinit (by rfl) mV vV (pa_cons (pv 0) (pa_cons (pv 1) pa_nil))))
      (pss_one (ps_ost (pv 0) (pv 1)))), ?_⟩
    refine ⟨_, rfl, _, rfl, a, C, [.str w], rfl, by show 1 ≤ 1000; decide, oc, ea, ?_⟩
    exact ⟨_, rfl, _, rfl, a, C, rfl, oc, nw, .inl ⟨ea, fun dx n ne => q dx n ne⟩⟩
theorem ok_BadText {f fP CP : Addr} {fd fdP : FuncData} {mc : Value} (F : Fun K "__init__" "BadText.__init__" s_p_BadText___init__ f fd) (cr : ClX.CRead K CP mc) (hat : PySem.W.findCls K (.ref CP) mc "__init__" = some (.val (.ref fP))) (FP : FnOk P w K mg base CX0 1 fP fdP ["self", "word"] (spInit2 K))
    (gP : mg "PailError" = some (.ref CP)) (kP : PySem.W.keepIn K (.ref fP) = true) (bP : Binds K fdP ["self", "word"] []) : FnOk P w K mg base CX0 2 f fd ["self"] (spInit "bad text" K) := by
  refine F.ok sc_p_BadText___init__ (fun vs H Q E h => ?_) (fun cdv A outer s H vs Q E hr h => ?_)
  · obtain ⟨a, C, rfl, _⟩ := h
    rfl
  · obtain ⟨a, C, rfl, oc, nw, ea, q⟩ := h
    refine ⟨_, (pss_one (ps_expr (pe_clsfn cr hat FP hr (by rfl) gP kP bP (pa_cons (pv 0) (pa_cons pe_str pa_nil))))), ?_⟩
    exact ⟨_, rfl, a, C, "bad text", rfl, oc, nw, ea, q⟩

def sp_l_cell (K : PySem.W.Frag) (T : Tb) : Sp := fun vs H Q _ => ∃ (a : Addr) (ns : List Int) (k : Int), vs = [.ref a, .int k] ∧ SqL K H a (ns.map V.int) ∧ 0 ≤ k ∧ ∀ z : Int, Q (.int z) H
theorem ok_l_cell {f : Addr} {fd : FuncData} (F : Fun K "_law_cell" "_law_cell" s_l_cell f fd) (B : Bn mg) : FnOk P w K mg base CX0 1 f fd ["_law_script", "_law_k"] (sp_l_cell K T) := by
  refine F.ok sc_l_cell (fun vs H Q E h => ?_) (fun cdv A outer s H vs Q E hr h => ?_)
  · obtain ⟨a, ns, k, rfl, _⟩ := h
    rfl
  · obtain ⟨a, ns, k, rfl, hS, hk, q⟩ := h
    refine ⟨_, (pss_cons (ps_if (pt_cmpR op_lt (pv 1) (pe_callB call_len_seq (by rfl) B.len_ (by decide +kernel) (pa_cons (pv 0) pa_nil)) (nomark _)) (pss_one (ps_ret (pe_ix ix_list (pv 0) (pv 1) (fun _ _ => rfl)))) pss_nil)
      (pss_one (ps_ret (pe_op op_add (pe_op op_add (pe_op op_mul (pe_op op_mod (pe_callB (cr_sum rfl) (by rfl) B.sum_ (by decide +kernel) (pa_cons (pv 0) pa_nil)) pe_int) pe_int) (pe_op op_mul (pe_callB call_len_seq (by rfl) B.len_ (by decide +kernel) (pa_cons (pv 0) pa_nil)) pe_int)) (pe_op op_mul (pv 1) pe_int))))), ?_⟩
    refine ⟨_, rfl, _, rfl, a, _, rfl, .inl hS, _, _, rfl, rfl, _, rfl, ite2 (fun e => ?_) (fun e => ?_)⟩
    · have e' : k < ((ns.map V.int).length : Int) := of_decide_eq_true e
      rw [List.length_map] at e'
      obtain ⟨j, rfl⟩ : ∃ j : Nat, k = (j : Int) := ⟨k.toNat, by omega⟩
      have hj : j < ns.length := by omega
      refine ⟨_, rfl, _, rfl, a, _, _, .int ns[j], rfl, rfl, hS, atI_nat (by rw [List.getElem?_map, List.getElem?_eq_getElem hj]; rfl), q _⟩
    · refine ⟨_, rfl, a, ns, rfl, hS, ?_⟩
      refine ⟨_, _, rfl, rfl, (by show (0 : Int) < 1000003; decide), _, _, rfl, rfl, .inr ⟨by decide, by decide⟩, ?_⟩
      refine ⟨_, rfl, a, _, rfl, .inl hS, _, _, rfl, rfl, .inr ⟨by decide, by decide⟩, _, _, rfl, rfl, ?_⟩
      refine ⟨_, rfl, _, _, rfl, rfl, .inr ⟨by decide, by decide⟩, _, _, rfl, rfl, q _⟩

def sp_l_draws (K : PySem.W.Frag) (T : Tb) : Sp := fun vs H Q _ => ∃ (c : Int) (a : Addr) (qs : List Int), vs = [.int c, .ref a] ∧ SqL K H a (qs.map V.int) ∧ qs.length ≤ 1000 ∧ (∀ q ∈ qs, 0 < q ∧ q.natAbs < 2 ^ 100) ∧
  ∀ p H' (ds : List Int), Sm T H H' → H p = none → H' p = some (.lst (ds.map V.int)) → Drawn ds qs → Q (.ref p) H'
theorem ok_l_draws {f : Addr} {fd : FuncData} (F : Fun K "_law_draws" "_law_draws" s_l_draws f fd) : FnOk P w K mg base CX0 1 f fd ["_law_cell_here", "_law_parts"] (sp_l_draws K T) := by
  refine F.ok sc_l_draws (fun vs H Q E h => ?_) (fun cdv A outer s H vs Q E hr h => ?_)
  · obtain ⟨c, a, qs, rfl, _⟩ := h
    rfl
  · obtain ⟨c, a, qs, rfl, hS, hlen, hpos, q⟩ := h
    refine ⟨_, (pss_cons (ps_if (pt_cmpR op_lt (pv 0) (pe_op op_pow pe_int pe_int) (nomark _)) (pss_cons (ps_set (i := 2) sc_l_draws.nd rfl (.inl rfl) (pe_op op_mod (pe_op op_add (pe_op op_mul (pv 0) pe_int) pe_int) pe_int))
      (pss_cons (ps_set (i := 3) sc_l_draws.nd rfl (.inl rfl) (pe_op op_mod (pe_op op_add (pe_op op_add (pe_op op_mul (pv 2) (pv 2)) (pe_op op_mul pe_int (pv 2))) (pv 0)) pe_int))
      (pss_cons (ps_set (i := 4) sc_l_draws.nd rfl (.inl rfl) (pe_op op_mod (pe_op op_add (pe_op op_mul (pv 3) pe_int) (pv 2)) pe_int))
      (pss_one (ps_set (i := 0) sc_l_draws.nd rfl (.inl rfl) (pe_op op_add (pv 3) (pe_op op_mul pe_int (pe_op op_add (pv 4) (pe_op op_mul pe_int (pv 2)))))))))) (pss_one (ps_set (i := 0) sc_l_draws.nd rfl (.inl rfl) (pe_op op_sub (pv 0) (pe_op op_pow pe_int pe_int)))))
      (pss_cons (ps_set (i := 5) sc_l_draws.nd rfl (.inl rfl) (pe_lst pa_nil))
      (pss_cons (ps_for PassesOwn.never rfl (pi_list (pv 1)) (pg_name (i := 6) sc_l_draws.nd rfl (.inl rfl))
      (pss_cons (ps_expr (pe_bm PySem.F.plainAttrs_list PySem.F.slot_list_append PySem.F.type_list_append mt_append (pv 5) (pa_cons (pe_op op_mod (pv 0) (pv 6)) pa_nil)))
      (pss_one (ps_set (i := 0) sc_l_draws.nd rfl (.inl rfl) (pe_op op_fdivW (pv 0) (pv 6))))))
      (pss_one (ps_ret (pv 5)))))), ?_⟩
    refine seq_if (fun σ' H' => H' = H ∧ ∃ (c : Int) (x2 x3 x4 : Option V), σ' = [some (.int c), some (.ref a), x2, x3, x4, none, none]) (fun σ' H' p => ?_) (fun k => ?_)
    · obtain ⟨rfl, c, x2, x3, x4, rfl⟩ := p
      refine ⟨Nat.zero_le _, fun o no => ?_⟩
      refine ⟨_, rfl, a, rfl, ⟨_, (same_upd (T := T) no).seq hS⟩, for_list (K := K) (a := a) (xs := qs.map V.int)
        (fun i σ H3 => ∃ (c : Int) (x6 : Option V) (ds : List Int), σ = [some (.int c), some (.ref a), x2, x3, x4, some (.ref o), x6] ∧ Sm T H' H3 ∧ H3 o = some (.lst (ds.map V.int)) ∧ Drawn ds (qs.take i))
        ⟨c, none, [], rfl, same_upd no, upd_same, trivial⟩ (fun i σ H3 _ ⟨_, _, _, _, sm, _⟩ => sm.seq hS) ?_ ?_⟩
      · rintro i y σ H3 hi ⟨c, x6, ds, rfl, sm, eo, hd⟩
        rw [List.getElem?_map] at hi
        obtain ⟨qi, hq, rfl⟩ : ∃ qi, qs[i]? = some qi ∧ V.int qi = y := Option.map_eq_some_iff.mp hi
        have hqm := hpos qi (List.mem_of_getElem? hq)
        have hil : i < qs.length := (List.getElem?_eq_some_iff.mp hq).1
        refine ⟨_, rfl, .inl ⟨rfl, _, SqL.of eo⟩, _, rfl, _, rfl, _, _, rfl, rfl, hqm.1, o, _, _, rfl, rfl, eo, ?_, ?_⟩
        · rw [List.length_map, hd.length, List.length_take]
          exact szl (by omega)
        · refine ⟨_, rfl, _, rfl, _, _, rfl, rfl, wide_div hqm.1 hqm.2 (by decide) (by decide), ?_⟩
          refine ⟨_, _, ds ++ [c % qi], rfl, same_mut sm no eo, ?_, ?_⟩
          · rw [upd_same, List.map_append]
            rfl
          · rw [List.take_add_one, hq]
            exact hd.snoc (Int.emod_nonneg _ (by omega)) (Int.emod_lt_of_pos _ hqm.1)
      · rintro σ H3 ⟨c, x6, ds, rfl, sm, eo, hd⟩
        rw [List.length_map, List.take_length] at hd
        exact ⟨_, rfl, q o H3 ds sm no eo hd⟩
    · have b1 := Int.emod_nonneg (c * 48271 + 11) (show (2147483647 : Int) ≠ 0 by decide)
      have b2 := Int.emod_lt_of_pos (c * 48271 + 11) (show (0 : Int) < 2147483647 by decide)
      refine ⟨_, rfl, _, _, rfl, rfl, ⟨by decide, by decide, by decide⟩, _, _, rfl, rfl, _, rfl, ite2 (fun e => ?_) (fun e => ?_)⟩
      · refine ⟨_, rfl, _, _, rfl, rfl, .inr ⟨by decide, by decide⟩, _, _, rfl, rfl, _, _, rfl, rfl, (by show (0 : Int) < 2147483647; decide), ?_⟩
        refine ⟨_, rfl, _, rfl, _, _, rfl, rfl, .inl ⟨by omega, by omega⟩, ?_⟩
        refine ⟨_, rfl, _, _, rfl, rfl, .inl ⟨by decide, by decide⟩, _, _, rfl, rfl, _, rfl, _, _, rfl, rfl, _, _, rfl, rfl, (by show (0 : Int) < 2147483399; decide), ?_⟩
        refine ⟨_, rfl, _, _, rfl, rfl, .inr ⟨by decide, by decide⟩, _, rfl, _, _, rfl, rfl, _, _, rfl, rfl, (by show (0 : Int) < 1000000007; decide), ?_⟩
        refine ⟨_, rfl, _, rfl, _, rfl, _, _, rfl, rfl, .inl ⟨by decide, by decide⟩, _, _, rfl, rfl, _, _, rfl, rfl, .inl ⟨by decide, by decide⟩, _, _, rfl, rfl, ?_⟩
        exact k _ _ ⟨rfl, _, _, _, _, rfl⟩
      · refine ⟨_, rfl, _, _, rfl, rfl, ⟨by decide, by decide, by decide⟩, _, _, rfl, rfl, ?_⟩
        exact k _ _ ⟨rfl, _, _, _, _, rfl⟩

def sp_l_many (K : PySem.W.Frag) (T : Tb) : Sp := fun vs H Q _ => ∃ (a : Addr) (ns : List Int) (k : Int), vs = [.ref a, .int k] ∧ SqL K H a (ns.map V.int) ∧ 0 ≤ k ∧ k ≤ 63 ∧ ∀ m : Nat, m ≤ 63 → Q (.int m) H
theorem ok_l_many {f : Addr} {fd : FuncData} (F : Fun K "_law_many" "_law_many" s_l_many f fd) (B : Bn mg) : FnOk P w K mg base CX0 1 f fd ["_law_script", "_law_few"] (sp_l_many K T) := by
  refine F.ok sc_l_many (fun vs H Q E h => ?_) (fun cdv A outer s H vs Q E hr h => ?_)
  · obtain ⟨a, ns, k, rfl, _⟩ := h
    rfl
  · obtain ⟨a, ns, k, rfl, hS, h0, h1, q⟩ := h
    refine ⟨_, (pss_one (ps_ret (pe_callB (call_max2 rfl) (by rfl) B.max_ (by decide +kernel) (pa_cons (pv 1) (pa_cons (pe_callB (call_min2 rfl) (by rfl) B.min_ (by decide +kernel) (pa_cons (pe_callB call_len_seq (by rfl) B.len_ (by decide +kernel) (pa_cons (pv 0) pa_nil)) (pa_cons pe_int pa_nil))) pa_nil))))), ?_⟩
    refine ⟨_, rfl, _, rfl, a, _, rfl, .inl hS, _, _, rfl, _, _, rfl, ?_⟩
    rw [List.length_map]
    have e : ∃ m : Nat, m ≤ 63 ∧ (if (if (63 : Int) < (ns.length : Int) then 63 else (ns.length : Int)) > k then (if (63 : Int) < (ns.length : Int) then 63 else (ns.length : Int)) else k) = (m : Int) := by
      refine ⟨(if (if (63 : Int) < (ns.length : Int) then 63 else (ns.length : Int)) > k then (if (63 : Int) < (ns.length : Int) then 63 else (ns.length : Int)) else k).toNat, ?_, ?_⟩ <;> (split <;> (try split) <;> omega)
    obtain ⟨m, hm, em⟩ := e
    rw [em]
    exact q m hm

def sp_l_split (K : PySem.W.Frag) (T : Tb) : Sp := fun vs H Q _ => ∃ (c : Int) (n : Nat), vs = [.int c, .int n] ∧ n ≤ 100 ∧
  ∀ p H' (zs : List Int), Sm T H H' → H p = none → H' p = some (.lst (zs.map V.int)) → zs.length = n → Q (.ref p) H'
theorem ok_l_split {f : Addr} {fd : FuncData} (F : Fun K "_law_split" "_law_split" s_l_split f fd) (B : Bn mg) : FnOk P w K mg base CX0 1 f fd ["_law_cell_here", "_law_many_here"] (sp_l_split K T) := by
  refine F.ok sc_l_split (fun vs H Q E h => ?_) (fun cdv A outer s H vs Q E hr h => ?_)
  · obtain ⟨c, n, rfl, _⟩ := h
    rfl
  · obtain ⟨c, n, rfl, hn, q⟩ := h
    refine ⟨_, (pss_cons (ps_set (i := 2) sc_l_split.nd rfl (.inl rfl) (pe_lst pa_nil))
      (pss_cons (ps_set (i := 3) sc_l_split.nd rfl (.inl rfl) (pe_cmpR op_ge (pv 0) (pe_op op_pow pe_int pe_int) (nomark _)))
      (pss_cons (ps_for PassesOwn.never rfl (pi_range1 (by rfl) B.range_ (pa_cons (pv 1) pa_nil)) (pg_name (i := 4) sc_l_split.nd rfl (.inl rfl))
      (pss_one (ps_if (pt_val (pv 3)) (pss_cons (ps_expr (pe_bm PySem.F.plainAttrs_list PySem.F.slot_list_append PySem.F.type_list_append mt_append (pv 2) (pa_cons (pe_op op_add (pe_op op_pow pe_int pe_int) (pe_op op_mod (pv 0) (pe_op op_pow pe_int pe_int))) pa_nil)))
      (pss_one (ps_set (i := 0) sc_l_split.nd rfl (.inl rfl) (pe_op op_fdivW (pv 0) (pe_op op_pow pe_int pe_int))))) (pss_one (ps_expr (pe_bm PySem.F.plainAttrs_list PySem.F.slot_list_append PySem.F.type_list_append mt_append (pv 2) (pa_cons (pe_op op_add (pe_op op_mul (pv 0) (pe_op op_add (pe_op op_mul pe_int (pv 4)) pe_int)) (pe_op op_mul pe_int (pv 4))) pa_nil)))))))
      (pss_one (ps_ret (pv 2)))))), ?_⟩
    refine ⟨Nat.zero_le _, fun o no => ?_⟩
    refine ⟨_, rfl, _, _, rfl, rfl, ⟨by decide, by decide, by decide⟩, _, _, rfl, rfl, ?_⟩
    refine ⟨_, rfl, n, rfl, by omega, by omega, for_range (lo := 0) (n := n)
      (fun i σ H3 => ∃ (c : Int) (b : Bool) (x4 : Option V) (zs : List Int), σ = [some (.int c), some (.int n), some (.ref o), some (.bl b), x4] ∧ Sm T H H3 ∧ H3 o = some (.lst (zs.map V.int)) ∧ zs.length = i)
      ⟨c, _, none, [], rfl, same_upd no, upd_same, rfl⟩ ?_ ?_⟩
    · rintro i σ H3 hi ⟨c, b, x4, zs, rfl, sm, eo, hl⟩
      have hs : (zs.map V.int).length < sizeLine := by
        rw [List.length_map]
        exact szl (by omega)
      refine ⟨_, rfl, _, rfl, ?_⟩
      cases b with
      | true =>
        refine iteT ?_
        refine ⟨_, rfl, .inl ⟨rfl, _, SqL.of eo⟩, _, _, rfl, rfl, ⟨by decide, by decide, by decide⟩, _, rfl, _, _, rfl, rfl, ⟨by decide, by decide, by decide⟩, _, _, rfl, rfl, (by show (0 : Int) < 10 ^ 30; decide), _, _, rfl, rfl, o, _, _, rfl, rfl, eo, hs, ?_⟩
        refine ⟨_, rfl, _, _, rfl, rfl, ⟨by decide, by decide, by decide⟩, _, _, rfl, rfl, wide_div (b := 200) (by show (0 : Int) < 10 ^ 30; decide) (by decide) (by decide) (by decide), ?_⟩
        refine ⟨_, true, _, zs ++ [10 ^ (18 : Int).toNat + c % 10 ^ (30 : Int).toNat], rfl, same_mut sm no eo, ?_, ?_⟩
        · rw [upd_same, List.map_append]
          rfl
        · rw [List.length_append, hl]
          rfl
      | false =>
        refine iteF ?_
        refine ⟨_, rfl, .inl ⟨rfl, _, SqL.of eo⟩, _, rfl, _, rfl, _, _, rfl, rfl, .inl ⟨by decide, by decide⟩, _, _, rfl, rfl, _, _, rfl, rfl, .inr ⟨by omega, by omega⟩, _, rfl, _, _, rfl, rfl, .inl ⟨by decide, by decide⟩, _, _, rfl, rfl, o, _, _, rfl, rfl, eo, hs, ?_⟩
        refine ⟨_, false, _, zs ++ [c * (2 * (0 + (i : Int)) + 3) + 7919 * (0 + (i : Int))], rfl, same_mut sm no eo, ?_, ?_⟩
        · rw [upd_same, List.map_append]
          rfl
        · rw [List.length_append, hl]
          rfl
    · rintro σ H3 ⟨c, b, x4, zs, rfl, sm, eo, hl⟩
      exact ⟨_, rfl, q o H3 zs sm no eo hl⟩

theorem elt_rng {prog : Program} {w : World} {scope : Scope} {x lo hi : Str} {j1 j2 : Nat} {p1 p2 p3 p4 : Pos} (hk : scope.kind = .function) (hl : scope.names.lookup x = some .local) (hd : (x == ("__debug__" : Str)) = false := by decide) :
    GxR.EltP prog w scope x (.Compare (.Constant (.str lo) j1 p1) [.LtE, .LtE] [.Name x p2, .Constant (.str hi) j2 p3] p4) (fun c => !decide ([c] < lo.cps.toList) && !decide (hi.cps.toList < [c])) := by
  intro cenv A' E' c t s₂ m₂ hs hn hm
  refine Compare_chain ?_ (by with_unfolding_all rfl)
  refine Calls.Constant_str (chain_link ?_)
  refine wpAny_Name (wpAny_loadName_local (by rw [hs]; exact hk) (show cenv.scope.names.lookup x = some .local by rw [hs]; exact hl) (hn.keeps fun _ _ e => e) hm ?_) hd
  refine PySem.P.le_str (wpAny_truthy_bool ?_)
  show (if (!decide ([c] < lo.cps.toList)) = true then _ else _)
  cases h1 : (!decide ([c] < lo.cps.toList)) with
  | false =>
    refine ite_ff ⟨?_, GxR.keeps_tok _ _⟩
    show Value.bool false = Value.bool (!decide ([c] < lo.cps.toList) && !decide (hi.cps.toList < [c]))
    rw [h1, Bool.false_and]
  | true =>
    refine ite_tt (chain_last (Calls.Constant_str (PySem.P.le_str ⟨?_, GxR.keeps_tok _ _⟩)))
    show Value.bool (!decide (hi.cps.toList < [c])) = Value.bool (!decide ([c] < lo.cps.toList) && !decide (hi.cps.toList < [c]))
    rw [h1, Bool.true_and]
def letB (c : Nat) : Bool := !decide ([c] < (("a" : Str)).cps.toList) && !decide ((("z" : Str)).cps.toList < [c])
def nameB (n : Str) : Bool := (decide (1 ≤ n.length) && decide (n.length ≤ 8)) && n.cps.toList.all letB
def sp_p_is_name (K : PySem.W.Frag) (T : Tb) : Sp := fun vs H Q _ => ∃ n : Str, vs = [.str n] ∧ n.length ≤ sizeLine ∧ Ok T H ∧ ∀ H', Sm T H H' → Q (.bl (nameB n)) H'
theorem ok_p_is_name {f : Addr} {fd : FuncData} {u_MOST_LETTERS : Value} {c PT : Addr} (F : FunC K "is_name" "is_name" s_p_is_name f fd c) (hnT : (T.map (·.1)).Nodup) (hPT : (PT, (none : Option Str)) ∈ T) (TB : GxR.TabB base mg c PT) (B : Bn mg) (C_MOST_LETTERS : RelV (.int 8) u_MOST_LETTERS ∧ mg "MOST_LETTERS" = some u_MOST_LETTERS) : FnOk P w K mg base CX0 1 f fd ["text"] (sp_p_is_name K T) := by
  obtain ⟨⟨tM, rfl⟩, gM⟩ := id C_MOST_LETTERS
  refine F.ok sc_p_is_name (fun vs H Q E h => ?_) (fun A outer s H vs Q E hr h => ?_)
  · obtain ⟨n, rfl, _⟩ := h
    rfl
  · obtain ⟨n, rfl, hsz, hok, q⟩ := h
    refine ⟨_, (pss_one (ps_ret (pe_and (pe_chain op_le op_le pe_int (pe_callB call_len_str (by rfl) B.len_ (by decide +kernel) (pa_cons (pv 0) pa_nil)) (pe_glob (by rfl) C_MOST_LETTERS.2 C_MOST_LETTERS.1)) (pe_one (GxR.pe_allS hr (by rfl) B.all_ (by decide +kernel) TB rfl (gens_by (by decide +kernel)) (pv 0) (elt_rng rfl rfl) (fun _ => rfl)))))), ?_⟩
    refine ⟨_, rfl, n, rfl, hsz, _, _, rfl, rfl, _, rfl, ?_⟩
    have q0 := fun H' (s : Sm T H H') => q H' s
    unfold nameB at q0
    by_cases h1 : 1 ≤ n.length
    · rw [decide_eq_true (show (1 : Int) ≤ (n.length : Int) by omega)]
      refine iteT ⟨_, _, rfl, rfl, _, rfl, ?_⟩
      by_cases h2 : n.length ≤ 8
      · rw [decide_eq_true (show (n.length : Int) ≤ 8 by omega)]
        refine iteT ⟨_, rfl, n, rfl, hok _ hPT, fun H2 ht => ?_⟩
        have r := q0 H2 (sm_tabbed hnT hPT (hok _ hPT) ht)
        rw [decide_eq_true h1, decide_eq_true h2, Bool.true_and, Bool.true_and] at r
        exact r
      · rw [decide_eq_false (show ¬ (n.length : Int) ≤ 8 by omega)]
        have r := q0 H Sm.refl
        rw [decide_eq_false h2, Bool.and_false, Bool.false_and] at r
        exact iteF r
    · rw [decide_eq_false (show ¬ (1 : Int) ≤ (n.length : Int) by omega)]
      have r := q0 H Sm.refl
      rw [decide_eq_false h1, Bool.false_and, Bool.false_and] at r
      exact iteF ⟨_, rfl, iteF r⟩

def sp_l_same_n (n : Nat) (K : PySem.W.Frag) (T : Tb) : Sp := fun vs H Q _ => ∃ x y d, vs = [x, y] ∧ Dp K H x d ∧ Dp K H y d ∧ depOk n d = true ∧ ∀ H', Sm T H H' → Q (.bl true) H'
abbrev sp_l_same (K : PySem.W.Frag) (T : Tb) : Sp := sp_l_same_n 5 K T
theorem ok_l_same_n {f : Addr} {fd : FuncData} (F : Fun K "_law_same" "_law_same" s_l_same f fd) (B : Bn mg) (g : mg "_law_same" = some (.ref f)) (b : Binds K fd ["_law_found", "_law_due"] []) :
    ∀ n, FnOk P w K mg base CX0 (n + 1) f fd ["_law_found", "_law_due"] (sp_l_same_n n K T)
  | 0 => by
    refine F.ok sc_l_same (fun vs H Q E h => ?_) (fun cdv A outer s H vs Q E hr h => ?_)
    · obtain ⟨x, y, d, rfl, _⟩ := h
      rfl
    · obtain ⟨x, y, d, rfl, hx, hy, hd, q⟩ := h
      have tx := tyx_of hx
      have ty := tyx_of hy
      have q0 := q H Sm.refl
      refine ⟨_, (pss_cons (ps_if (pt_cmpR op_isN (pv 1) pe_non (nomark _)) (pss_one (ps_ret (pe_cmpR op_isN (pv 0) pe_non (nomark _)))) pss_nil)
      (pss_cons (ps_if (PW.pt (pw_or (pt_val (pe_callB call_isi (by rfl) B.isinstance_ (by decide +kernel) (pa_cons (pv 1) (pa_cons (pe_bltn (v := .ty "bool") (by rfl) B.bool_ (by decide +kernel) rfl) pa_nil)))) (pw_or1 (pt_val (pe_callB call_isi (by rfl) B.isinstance_ (by decide +kernel) (pa_cons (pv 0) (pa_cons (pe_bltn (v := .ty "bool") (by rfl) B.bool_ (by decide +kernel) rfl) pa_nil))))))) (pss_one (ps_ret (pe_and (pe_callB call_isi (by rfl) B.isinstance_ (by decide +kernel) (pa_cons (pv 1) (pa_cons (pe_bltn (v := .ty "bool") (by rfl) B.bool_ (by decide +kernel) rfl) pa_nil))) (pe_and (pe_callB call_isi (by rfl) B.isinstance_ (by decide +kernel) (pa_cons (pv 0) (pa_cons (pe_bltn (v := .ty "bool") (by rfl) B.bool_ (by decide +kernel) rfl) pa_nil))) (pe_one (pe_cmpR op_eq (pv 0) (pv 1) (nomark _))))))) pss_nil)
      (pss_cons (ps_if (pt_val (pe_callB call_isi (by rfl) B.isinstance_ (by decide +kernel) (pa_cons (pv 1) (pa_cons (pe_bltn (v := .ty "int") (by rfl) B.int_ (by decide +kernel) rfl) pa_nil)))) (pss_one (ps_ret (pe_and (pe_callB call_isi (by rfl) B.isinstance_ (by decide +kernel) (pa_cons (pv 0) (pa_cons (pe_bltn (v := .ty "int") (by rfl) B.int_ (by decide +kernel) rfl) pa_nil))) (pe_one (pe_cmpR op_eq (pv 0) (pv 1) (nomark _)))))) pss_nil)
      (pss_cons (ps_if (pt_val (pe_callB call_isi (by rfl) B.isinstance_ (by decide +kernel) (pa_cons (pv 1) (pa_cons (pe_bltn (v := .ty "str") (by rfl) B.str_ (by decide +kernel) rfl) pa_nil)))) (pss_one (ps_ret (pe_and (pe_callB call_isi (by rfl) B.isinstance_ (by decide +kernel) (pa_cons (pv 0) (pa_cons (pe_bltn (v := .ty "str") (by rfl) B.str_ (by decide +kernel) rfl) pa_nil))) (pe_one (pe_cmpR op_eq (pv 0) (pv 1) (nomark _)))))) pss_nil)
      (pss_cons (ps_if (PW.pt (pw_or (pt_cmpR op_ne (pe_callB call_isi (by rfl) B.isinstance_ (by decide +kernel) (pa_cons (pv 1) (pa_cons (pe_bltn (v := .ty "tuple") (by rfl) B.tuple_ (by decide +kernel) rfl) pa_nil))) (pe_callB call_isi (by rfl) B.isinstance_ (by decide +kernel) (pa_cons (pv 0) (pa_cons (pe_bltn (v := .ty "tuple") (by rfl) B.tuple_ (by decide +kernel) rfl) pa_nil))) (nomark _)) (pw_or1 (pt_cmpR op_ne (pe_callB call_isi (by rfl) B.isinstance_ (by decide +kernel) (pa_cons (pv 1) (pa_cons (pe_bltn (v := .ty "list") (by rfl) B.list_ (by decide +kernel) rfl) pa_nil))) (pe_callB call_isi (by rfl) B.isinstance_ (by decide +kernel) (pa_cons (pv 0) (pa_cons (pe_bltn (v := .ty "list") (by rfl) B.list_ (by decide +kernel) rfl) pa_nil))) (nomark _))))) (pss_one (ps_ret pe_bl)) pss_nil)
      (pss_one ps_never)))))), ?_⟩
      cases d with
      | none =>
        cases hx; cases hy
        exact ⟨_, rfl, rfl, _, rfl, iteT ⟨_, rfl, rfl, q0⟩⟩
      | bool b =>
        cases hx; cases hy
        refine ⟨_, rfl, rfl, _, rfl, iteF ?_⟩
        refine ⟨_, rfl, _, _, _, _, true, rfl, .ty "bool", ty, kit_ty kb_bool_bool, _, rfl, iteT (iteT ?_)⟩
        refine ⟨_, rfl, _, _, _, _, true, rfl, .ty "bool", ty, kit_ty kb_bool_bool, _, rfl, iteT ?_⟩
        refine ⟨_, rfl, _, _, _, _, true, rfl, .ty "bool", tx, kit_ty kb_bool_bool, _, rfl, iteT ?_⟩
        refine ⟨_, rfl, _, rfl, rfl, ?_⟩
        rw [decide_eq_true rfl]
        exact q0
      | int i =>
        cases hx; cases hy
        refine ⟨_, rfl, rfl, _, rfl, iteF ?_⟩
        refine ⟨_, rfl, _, _, _, _, false, rfl, .ty "bool", ty, kit_ty kb_int_bool, _, rfl, iteF ?_⟩
        refine ⟨_, rfl, _, _, _, _, false, rfl, .ty "bool", tx, kit_ty kb_int_bool, _, rfl, iteF ?_⟩
        refine ⟨_, rfl, _, _, _, _, true, rfl, .ty "int", ty, kit_ty kb_int_int, _, rfl, iteT ?_⟩
        refine ⟨_, rfl, _, _, _, _, true, rfl, .ty "int", tx, kit_ty kb_int_int, _, rfl, iteT ?_⟩
        refine ⟨_, rfl, _, rfl, rfl, ?_⟩
        rw [decide_eq_true rfl]
        exact q0
      | str z =>
        cases hx; cases hy
        refine ⟨_, rfl, rfl, _, rfl, iteF ?_⟩
        refine ⟨_, rfl, _, _, _, _, false, rfl, .ty "bool", ty, kit_ty kb_str_bool, _, rfl, iteF ?_⟩
        refine ⟨_, rfl, _, _, _, _, false, rfl, .ty "bool", tx, kit_ty kb_str_bool, _, rfl, iteF ?_⟩
        refine ⟨_, rfl, _, _, _, _, false, rfl, .ty "int", ty, kit_ty kb_str_int, _, rfl, iteF ?_⟩
        refine ⟨_, rfl, _, _, _, _, true, rfl, .ty "str", ty, kit_ty kb_str_str, _, rfl, iteT ?_⟩
        refine ⟨_, rfl, _, _, _, _, true, rfl, .ty "str", tx, kit_ty kb_str_str, _, rfl, iteT ?_⟩
        refine ⟨_, rfl, _, rfl, rfl, ?_⟩
        rw [decide_eq_true rfl]
        exact q0
      | list ds => cases hd
      | tuple ds => cases hd
      | dict _ => cases hd
  | n + 1 => by
    have F_l_same : Fn P w K mg base (n + 1) "_law_same" ["_law_found", "_law_due"] (sp_l_same_n n K T) := Fn.mk' (ok_l_same_n F B g b n) g F.kp b
    refine F.ok sc_l_same (fun vs H Q E h => ?_) (fun cdv A outer s H vs Q E hr h => ?_)
    · obtain ⟨x, y, d, rfl, _⟩ := h
      rfl
    · obtain ⟨x, y, d, rfl, hx, hy, hd, q⟩ := h
      have tx := tyx_of hx
      have ty := tyx_of hy
      have q0 := q H Sm.refl
      refine ⟨_, (pss_cons (ps_if (pt_cmpR op_isN (pv 1) pe_non (nomark _)) (pss_one (ps_ret (pe_cmpR op_isN (pv 0) pe_non (nomark _)))) pss_nil)
      (pss_cons (ps_if (PW.pt (pw_or (pt_val (pe_callB call_isi (by rfl) B.isinstance_ (by decide +kernel) (pa_cons (pv 1) (pa_cons (pe_bltn (v := .ty "bool") (by rfl) B.bool_ (by decide +kernel) rfl) pa_nil)))) (pw_or1 (pt_val (pe_callB call_isi (by rfl) B.isinstance_ (by decide +kernel) (pa_cons (pv 0) (pa_cons (pe_bltn (v := .ty "bool") (by rfl) B.bool_ (by decide +kernel) rfl) pa_nil))))))) (pss_one (ps_ret (pe_and (pe_callB call_isi (by rfl) B.isinstance_ (by decide +kernel) (pa_cons (pv 1) (pa_cons (pe_bltn (v := .ty "bool") (by rfl) B.bool_ (by decide +kernel) rfl) pa_nil))) (pe_and (pe_callB call_isi (by rfl) B.isinstance_ (by decide +kernel) (pa_cons (pv 0) (pa_cons (pe_bltn (v := .ty "bool") (by rfl) B.bool_ (by decide +kernel) rfl) pa_nil))) (pe_one (pe_cmpR op_eq (pv 0) (pv 1) (nomark _))))))) pss_nil)
      (pss_cons (ps_if (pt_val (pe_callB call_isi (by rfl) B.isinstance_ (by decide +kernel) (pa_cons (pv 1) (pa_cons (pe_bltn (v := .ty "int") (by rfl) B.int_ (by decide +kernel) rfl) pa_nil)))) (pss_one (ps_ret (pe_and (pe_callB call_isi (by rfl) B.isinstance_ (by decide +kernel) (pa_cons (pv 0) (pa_cons (pe_bltn (v := .ty "int") (by rfl) B.int_ (by decide +kernel) rfl) pa_nil))) (pe_one (pe_cmpR op_eq (pv 0) (pv 1) (nomark _)))))) pss_nil)
      (pss_cons (ps_if (pt_val (pe_callB call_isi (by rfl) B.isinstance_ (by decide +kernel) (pa_cons (pv 1) (pa_cons (pe_bltn (v := .ty "str") (by rfl) B.str_ (by decide +kernel) rfl) pa_nil)))) (pss_one (ps_ret (pe_and (pe_callB call_isi (by rfl) B.isinstance_ (by decide +kernel) (pa_cons (pv 0) (pa_cons (pe_bltn (v := .ty "str") (by rfl) B.str_ (by decide +kernel) rfl) pa_nil))) (pe_one (pe_cmpR op_eq (pv 0) (pv 1) (nomark _)))))) pss_nil)
      (pss_cons (ps_if (PW.pt (pw_or (pt_cmpR op_ne (pe_callB call_isi (by rfl) B.isinstance_ (by decide +kernel) (pa_cons (pv 1) (pa_cons (pe_bltn (v := .ty "tuple") (by rfl) B.tuple_ (by decide +kernel) rfl) pa_nil))) (pe_callB call_isi (by rfl) B.isinstance_ (by decide +kernel) (pa_cons (pv 0) (pa_cons (pe_bltn (v := .ty "tuple") (by rfl) B.tuple_ (by decide +kernel) rfl) pa_nil))) (nomark _)) (pw_or1 (pt_cmpR op_ne (pe_callB call_isi (by rfl) B.isinstance_ (by decide +kernel) (pa_cons (pv 1) (pa_cons (pe_bltn (v := .ty "list") (by rfl) B.list_ (by decide +kernel) rfl) pa_nil))) (pe_callB call_isi (by rfl) B.isinstance_ (by decide +kernel) (pa_cons (pv 0) (pa_cons (pe_bltn (v := .ty "list") (by rfl) B.list_ (by decide +kernel) rfl) pa_nil))) (nomark _))))) (pss_one (ps_ret pe_bl)) pss_nil)
      (pss_one (ps_ret (pe_and (pe_cmpR op_eq (pe_callB call_len_seq (by rfl) B.len_ (by decide +kernel) (pa_cons (pv 0) pa_nil)) (pe_callB call_len_seq (by rfl) B.len_ (by decide +kernel) (pa_cons (pv 1) pa_nil)) (nomark _)) (pe_one (pe_callB (cr_all rfl) (by rfl) B.all_ (by decide +kernel) (pa_cons (pe_lc (own := [("_law_k", 2)]) (g := (gName 2)) (tt := tYes) (by rfl) sc_l_same.nd (pi_range1 (by rfl) B.range_ (pa_cons (pe_callB call_len_seq (by rfl) B.len_ (by decide +kernel) (pa_cons (pv 1) pa_nil)) pa_nil)) (blkOk_by (own := [("_law_k", 2)]) (N := ["_law_found", "_law_due", "_law_k"]) (sc := (defScope s_l_same)) (by decide +kernel)) (fun _ _ _ _ _ => (pg_name (i := 2) sc_l_same.nd rfl (.inl rfl))) (fun _ _ _ _ _ => pts_nil) (fun _ _ _ _ _ => (pe_fn F_l_same hr (pa_cons (pe_ix (r := rIx K) ix_seq (pv 0) (pv 2) (fun _ _ => rfl)) (pa_cons (pe_ix (r := rIx K) ix_seq (pv 1) (pv 2) (fun _ _ => rfl)) pa_nil))))) pa_nil))))))))))), ?_⟩
      cases d with
      | none =>
        cases hx; cases hy
        exact ⟨_, rfl, rfl, _, rfl, iteT ⟨_, rfl, rfl, q0⟩⟩
      | bool b =>
        cases hx; cases hy
        refine ⟨_, rfl, rfl, _, rfl, iteF ?_⟩
        refine ⟨_, rfl, _, _, _, _, true, rfl, .ty "bool", ty, kit_ty kb_bool_bool, _, rfl, iteT (iteT ?_)⟩
        refine ⟨_, rfl, _, _, _, _, true, rfl, .ty "bool", ty, kit_ty kb_bool_bool, _, rfl, iteT ?_⟩
        refine ⟨_, rfl, _, _, _, _, true, rfl, .ty "bool", tx, kit_ty kb_bool_bool, _, rfl, iteT ?_⟩
        refine ⟨_, rfl, _, rfl, rfl, ?_⟩
        rw [decide_eq_true rfl]
        exact q0
      | int i =>
        cases hx; cases hy
        refine ⟨_, rfl, rfl, _, rfl, iteF ?_⟩
        refine ⟨_, rfl, _, _, _, _, false, rfl, .ty "bool", ty, kit_ty kb_int_bool, _, rfl, iteF ?_⟩
        refine ⟨_, rfl, _, _, _, _, false, rfl, .ty "bool", tx, kit_ty kb_int_bool, _, rfl, iteF ?_⟩
        refine ⟨_, rfl, _, _, _, _, true, rfl, .ty "int", ty, kit_ty kb_int_int, _, rfl, iteT ?_⟩
        refine ⟨_, rfl, _, _, _, _, true, rfl, .ty "int", tx, kit_ty kb_int_int, _, rfl, iteT ?_⟩
        refine ⟨_, rfl, _, rfl, rfl, ?_⟩
        rw [decide_eq_true rfl]
        exact q0
      | str z =>
        cases hx; cases hy
        refine ⟨_, rfl, rfl, _, rfl, iteF ?_⟩
        refine ⟨_, rfl, _, _, _, _, false, rfl, .ty "bool", ty, kit_ty kb_str_bool, _, rfl, iteF ?_⟩
        refine ⟨_, rfl, _, _, _, _, false, rfl, .ty "bool", tx, kit_ty kb_str_bool, _, rfl, iteF ?_⟩
        refine ⟨_, rfl, _, _, _, _, false, rfl, .ty "int", ty, kit_ty kb_str_int, _, rfl, iteF ?_⟩
        refine ⟨_, rfl, _, _, _, _, true, rfl, .ty "str", ty, kit_ty kb_str_str, _, rfl, iteT ?_⟩
        refine ⟨_, rfl, _, _, _, _, true, rfl, .ty "str", tx, kit_ty kb_str_str, _, rfl, iteT ?_⟩
        refine ⟨_, rfl, _, rfl, rfl, ?_⟩
        rw [decide_eq_true rfl]
        exact q0
      | list ds =>
        cases hx with
        | @lst ax xs _ sx ax_ =>
        cases hy with
        | @lst ay ys _ sy ay_ =>
        refine ⟨_, rfl, rfl, _, rfl, iteF ?_⟩
        refine ⟨_, rfl, _, _, _, _, false, rfl, .ty "bool", ty, kit_ty kb_list_bool, _, rfl, iteF ?_⟩
        refine ⟨_, rfl, _, _, _, _, false, rfl, .ty "bool", tx, kit_ty kb_list_bool, _, rfl, iteF ?_⟩
        refine ⟨_, rfl, _, _, _, _, false, rfl, .ty "int", ty, kit_ty kb_list_int, _, rfl, iteF ?_⟩
        refine ⟨_, rfl, _, _, _, _, false, rfl, .ty "str", ty, kit_ty kb_list_str, _, rfl, iteF ?_⟩
        refine ⟨_, rfl, _, _, _, _, false, rfl, .ty "tuple", ty, kit_ty kb_list_tuple, _, rfl, _, _, _, _, false, rfl, .ty "tuple", tx, kit_ty kb_list_tuple, rfl, _, rfl, iteF ?_⟩
        refine ⟨_, rfl, _, _, _, _, true, rfl, .ty "list", ty, kit_ty kb_list_list, _, rfl, _, _, _, _, true, rfl, .ty "list", tx, kit_ty kb_list_list, rfl, _, rfl, iteF ?_⟩
        have hd' : (decide (ds.length ≤ 9000) && ds.all (depOk n)) = true := hd
        rw [Bool.and_eq_true] at hd'
        have hle : ds.length ≤ 9000 := of_decide_eq_true hd'.1
        have lx := dpa_len ax_
        have ly := dpa_len ay_
        refine ⟨_, rfl, ax, xs, rfl, .inl sx, _, rfl, ay, ys, rfl, .inl sy, rfl, _, rfl, ?_⟩
        rw [lx, ly, decide_eq_true rfl]
        refine iteT ?_
        refine ⟨_, rfl, ay, ys, rfl, .inl sy, _, rfl, by rw [ly]; omega, by rw [ly]; omega, fun D hD => lc_range (lo := 0) (n := ys.length)
          (Qd := _) (fun i H' => Sm T H H' ∧ H' D = some (.lst (List.replicate i (V.bl true)))) ⟨same_upd hD, upd_same⟩ ?_ ?_⟩
        · rintro i H' hi ⟨sm, eD⟩
          rw [ly] at hi
          obtain ⟨vx, ex, dx⟩ := dpa_get ax_ (List.getElem?_eq_getElem hi)
          obtain ⟨vy, ey, dy⟩ := dpa_get ay_ (List.getElem?_eq_getElem hi)
          refine ⟨rfl, tyes_i ?_⟩
          refine ⟨_, rfl, _, rfl, .inl ⟨ax, xs, _, vx, rfl, rfl, sm.seq sx, at_of (j := i) (by omega) ex, ?_⟩⟩
          refine ⟨_, rfl, _, rfl, .inl ⟨ay, ys, _, vy, rfl, rfl, sm.seq sy, at_of (j := i) (by omega) ey, ?_⟩⟩
          refine ⟨vx, vy, ds[i], rfl, dp_same sm _ _ dx, dp_same sm _ _ dy, List.all_eq_true.mp hd'.2 _ (List.getElem_mem hi), fun H2 s2 => ⟨_, s2.k eD, ?_, same_mut (sm.trans s2) hD (s2.lst eD), ?_⟩⟩
          · rw [List.length_replicate]
            exact szl (by omega)
          · rw [upd_same, ← List.replicate_succ']
        · rintro H' ⟨sm, eD⟩
          rw [ly] at eD
          refine ⟨D, List.replicate ds.length true, rfl, SqL.of (by rw [eD, List.map_replicate]), ?_⟩
          rw [rep_all]
          exact q H' sm
      | tuple ds =>
        cases hx with
        | @tup ax xs _ sx ax_ =>
        cases hy with
        | @tup ay ys _ sy ay_ =>
        refine ⟨_, rfl, rfl, _, rfl, iteF ?_⟩
        refine ⟨_, rfl, _, _, _, _, false, rfl, .ty "bool", ty, kit_ty kb_tuple_bool, _, rfl, iteF ?_⟩
        refine ⟨_, rfl, _, _, _, _, false, rfl, .ty "bool", tx, kit_ty kb_tuple_bool, _, rfl, iteF ?_⟩
        refine ⟨_, rfl, _, _, _, _, false, rfl, .ty "int", ty, kit_ty kb_tuple_int, _, rfl, iteF ?_⟩
        refine ⟨_, rfl, _, _, _, _, false, rfl, .ty "str", ty, kit_ty kb_tuple_str, _, rfl, iteF ?_⟩
        refine ⟨_, rfl, _, _, _, _, true, rfl, .ty "tuple", ty, kit_ty kb_tuple_tuple, _, rfl, _, _, _, _, true, rfl, .ty "tuple", tx, kit_ty kb_tuple_tuple, rfl, _, rfl, iteF ?_⟩
        refine ⟨_, rfl, _, _, _, _, false, rfl, .ty "list", ty, kit_ty kb_tuple_list, _, rfl, _, _, _, _, false, rfl, .ty "list", tx, kit_ty kb_tuple_list, rfl, _, rfl, iteF ?_⟩
        have hd' : (decide (ds.length ≤ 9000) && ds.all (depOk n)) = true := hd
        rw [Bool.and_eq_true] at hd'
        have hle : ds.length ≤ 9000 := of_decide_eq_true hd'.1
        have lx := dpa_len ax_
        have ly := dpa_len ay_
        refine ⟨_, rfl, ax, xs, rfl, .inr sx, _, rfl, ay, ys, rfl, .inr sy, rfl, _, rfl, ?_⟩
        rw [lx, ly, decide_eq_true rfl]
        refine iteT ?_
        refine ⟨_, rfl, ay, ys, rfl, .inr sy, _, rfl, by rw [ly]; omega, by rw [ly]; omega, fun D hD => lc_range (lo := 0) (n := ys.length)
          (Qd := _) (fun i H' => Sm T H H' ∧ H' D = some (.lst (List.replicate i (V.bl true)))) ⟨same_upd hD, upd_same⟩ ?_ ?_⟩
        · rintro i H' hi ⟨sm, eD⟩
          rw [ly] at hi
          obtain ⟨vx, ex, dx⟩ := dpa_get ax_ (List.getElem?_eq_getElem hi)
          obtain ⟨vy, ey, dy⟩ := dpa_get ay_ (List.getElem?_eq_getElem hi)
          refine ⟨rfl, tyes_i ?_⟩
          refine ⟨_, rfl, _, rfl, .inr (.inl ⟨ax, xs, _, vx, rfl, rfl, same_tup sm sx, at_of (j := i) (by omega) ex, ?_⟩)⟩
          refine ⟨_, rfl, _, rfl, .inr (.inl ⟨ay, ys, _, vy, rfl, rfl, same_tup sm sy, at_of (j := i) (by omega) ey, ?_⟩)⟩
          refine ⟨vx, vy, ds[i], rfl, dp_same sm _ _ dx, dp_same sm _ _ dy, List.all_eq_true.mp hd'.2 _ (List.getElem_mem hi), fun H2 s2 => ⟨_, s2.k eD, ?_, same_mut (sm.trans s2) hD (s2.lst eD), ?_⟩⟩
          · rw [List.length_replicate]
            exact szl (by omega)
          · rw [upd_same, ← List.replicate_succ']
        · rintro H' ⟨sm, eD⟩
          rw [ly] at eD
          refine ⟨D, List.replicate ds.length true, rfl, SqL.of (by rw [eD, List.map_replicate]), ?_⟩
          rw [rep_all]
          exact q H' sm
      | dict _ => cases hd
theorem ok_l_same {f : Addr} {fd : FuncData} (F : Fun K "_law_same" "_law_same" s_l_same f fd) (B : Bn mg) (g : mg "_law_same" = some (.ref f)) (b : Binds K fd ["_law_found", "_law_due"] []) :
    FnOk P w K mg base CX0 6 f fd ["_law_found", "_law_due"] (sp_l_same K T) := ok_l_same_n F B g b 5

open PySem.NumText TL Builtin.Str in
section
/-! ### numbers as texts -/
def itx (i : Int) : Str := Str.ofString (toString i)
theorem itx_nat (m : Nat) : (itx (m : Int)).cps.toList = (Nat.toDigits 10 m).map Char.toNat := PySem.W.KIN.signs_num m
theorem itx_digits (m : Nat) : AllDigits (itx (m : Int)).cps.toList ∧ (itx (m : Int)).cps.toList ≠ [] := by
  refine ⟨fun c hc => ?_, fun e => ?_⟩
  · rw [itx_nat] at hc
    obtain ⟨ch, hch, e⟩ := List.mem_map.mp hc
    rw [← e]
    exact digit_range (Nat.isDigit_of_mem_toDigits (by decide) (by decide) hch)
  · rw [itx_nat, List.map_eq_nil_iff] at e
    have h : 1 ≤ (Nat.toDigits 10 m).length := by
      have := (Nat.length_repr_pos : 0 < (Nat.repr m).length)
      rw [← String.length_toList, Nat.toList_repr] at this
      exact this
    rw [e] at h
    exact absurd h (by decide)
theorem itx_len (m : Nat) (h : m < 10 ^ 9) : (itx (m : Int)).length ≤ 9 := by
  unfold itx
  rw [PyProof.Rows.ofString_len]
  show (Nat.repr m).length ≤ 9
  exact (Nat.length_repr_le_iff (by decide)).mpr h
theorem itx_neg {i : Int} (h : i < 0) : itx i = "-" ++ itx (0 - i) := by
  unfold itx
  rw [toString_neg h]
  refine ext_tl ?_
  rw [tl_append, tl_ofString, tl_ofString, tl_ofString, String.toList_append, List.map_append]
theorem itx_tl {i : Int} (h : i < 0) : (itx i).cps.toList = 45 :: (itx (0 - i)).cps.toList := by
  have e : tl (itx i) = tl ("-" ++ itx (0 - i)) := by rw [itx_neg h]
  rw [tl_append, tl_ofString] at e
  exact e
/-- a number of at most nine figures -/
def Nine (i : Int) : Prop := -(10 ^ 9) < i ∧ i < 10 ^ 9
theorem itx_small {i : Int} (h : Nine i) : (itx i).length ≤ 10 := by
  obtain ⟨h1, h2⟩ := h
  by_cases c : i < 0
  · have e := congrArg List.length (itx_tl c)
    have g := itx_len (0 - i).toNat (by omega)
    rw [show ((0 - i).toNat : Int) = 0 - i by omega] at g
    rw [List.length_cons] at e
    show (itx i).cps.size ≤ 10
    rw [← Array.length_toList, e, Array.length_toList]
    exact Nat.succ_le_succ g
  · have g := itx_len i.toNat (by omega)
    rw [show (i.toNat : Int) = i by omega] at g
    omega
theorem itx_reads {i : Int} (h : Nine i) : PySem.intText? (itx i) = some i := by
  obtain ⟨h1, h2⟩ := h
  have pos : ∀ {n : Int}, 0 ≤ n → n < 10 ^ 9 → PySem.intText? (itx n) = some n := fun a b => PySem.W.KIN.num_reads a (by omega)
  by_cases c : i < 0
  · have sm := itx_small ⟨h1, h2⟩
    have d := itx_digits (0 - i).toNat
    rw [show ((0 - i).toNat : Int) = 0 - i by omega] at d
    rw [intText_neg (itx_tl c) d.1 d.2 (by omega)]
    have g := pos (n := 0 - i) (by omega) (by omega)
    have sm2 := itx_small (i := 0 - i) ⟨by omega, by omega⟩
    rw [intText_digits d.1 d.2 (by omega)] at g
    have := Option.some.inj g
    rw [this]
    congr 1
    omega
  · exact pos (by omega) h2
theorem itx_sp (i : Int) : 32 ∉ tl (itx i) := by
  have key : ∀ m : Nat, 32 ∉ (itx (m : Int)).cps.toList := fun m z => by
    have := (itx_digits m).1 32 z
    omega
  by_cases c : i < 0
  · intro z
    have z : 32 ∈ (itx i).cps.toList := z
    rw [itx_tl c] at z
    have g := key (0 - i).toNat
    rw [show ((0 - i).toNat : Int) = 0 - i by omega] at g
    rcases List.mem_cons.mp z with y | y
    · exact absurd y (by decide)
    · exact g y
  · have g := key i.toNat
    rw [show (i.toNat : Int) = i by omega] at g
    exact g
/-- the sign taken off -/
theorem itx_pre (i : Int) : Txt.removeprefix (itx i) "-" = itx (i.natAbs : Int) := by
  rw [StrLaws.removeprefix_eq]
  have ly : (("-" : Str)).length = 1 := by decide
  by_cases c : i < 0
  · have e := itx_tl c
    have hl : (itx i).length = (itx (0 - i)).length + 1 := by
      have g := congrArg List.length e
      rw [List.length_cons, Array.length_toList, Array.length_toList] at g
      exact g
    have hs : subAt (itx i) "-" 0 = true := by
      unfold subAt
      refine beq_iff_eq.mpr ?_
      refine Array.toList_inj.mp ?_
      rw [Array.toList_extract, e]
      rfl
    rw [hs, ly, decide_eq_true (by omega : 0 + 1 ≤ (itx i).length)]
    rw [if_pos (by rfl : (true && true) = true), e, hl]
    show (⟨(((itx (0 - i)).cps.toList).take ((itx (0 - i)).length + 1 - 1)).toArray⟩ : Str) = _
    rw [Nat.add_sub_cancel, show (itx (0 - i)).length = (itx (0 - i)).cps.toList.length from (Array.length_toList).symm, List.take_length, show (i.natAbs : Int) = 0 - i by omega]
  · have hs : subAt (itx i) "-" 0 = false := by
      cases h : subAt (itx i) "-" 0 with
      | false => rfl
      | true =>
        exfalso
        have g := congrArg Array.toList (eq_of_beq (by unfold subAt at h; exact h))
        rw [Array.toList_extract] at g
        obtain ⟨m, rfl⟩ : ∃ m : Nat, i = (m : Int) := ⟨i.toNat, by omega⟩
        have d := (itx_digits m).1
        cases q : (itx (m : Int)).cps.toList with
        | nil => exact (itx_digits m).2 q
        | cons a r =>
          rw [q] at g
          have g2 : [a] = [45] := by
            have : (("-" : Str)).cps.toList = [45] := by decide
            rw [this] at g
            exact g
          have := d a (by rw [q]; exact List.mem_cons_self)
          have z := (List.cons.inj g2).1
          omega
    rw [hs, Bool.and_false, if_neg (by decide), show (i.natAbs : Int) = i by omega]
abbrev Sv := Int ⊕ Str
def svX : Sv → Str
  | .inl i => itx i
  | .inr x => x
def svV : Sv → V
  | .inl i => .int i
  | .inr x => .str x
inductive Dd where
  | lay (ps : List (Int × Int))
  | oth (w : Str) (xs : List Sv)
def flX (ps : List (Int × Int)) : List Str := ps.flatMap fun p => [itx p.1, itx p.2]
def Dd.parts : Dd → List Str
  | .lay ps => "lay" :: flX ps
  | .oth w xs => w :: xs.map svX
def Dd.txt (d : Dd) : Str := Txt.join " " d.parts
theorem join2 (x z : Str) (r : List Str) : Txt.join " " (x :: z :: r) = x ++ " " ++ Txt.join " " (z :: r) := by
  rw [join_eq, join_eq]
  rfl
theorem join1 (x : Str) : Txt.join " " [x] = x := by
  rw [join_eq]
  rfl
theorem app_assoc (x y z : Str) : x ++ y ++ z = x ++ (y ++ z) := ext_tl (by rw [tl_append, tl_append, tl_append, tl_append, List.append_assoc])
theorem lay_txt : ∀ {ps : List (Int × Int)}, ps ≠ [] → Txt.join " " (ps.map fun p => itx p.1 ++ " " ++ itx p.2) = Txt.join " " (flX ps)
  | [], h => absurd rfl h
  | [p], _ => by
    show Txt.join " " [itx p.1 ++ " " ++ itx p.2] = Txt.join " " [itx p.1, itx p.2]
    rw [join1, join2, join1]
  | p :: q :: r, _ => by
    show Txt.join " " ((itx p.1 ++ " " ++ itx p.2) :: (itx q.1 ++ " " ++ itx q.2) :: r.map fun p => itx p.1 ++ " " ++ itx p.2) = Txt.join " " (itx p.1 :: itx p.2 :: flX (q :: r))
    have ih := lay_txt (ps := q :: r) (by simp)
    rw [join2, show ((itx q.1 ++ " " ++ itx q.2) :: r.map fun p => itx p.1 ++ " " ++ itx p.2) = (q :: r).map fun p => itx p.1 ++ " " ++ itx p.2 from rfl, ih, join2]
    have e : flX (q :: r) = itx q.1 :: itx q.2 :: flX r := rfl
    rw [e, join2 (itx p.2), app_assoc, app_assoc, app_assoc, app_assoc, app_assoc]
theorem lay_txt2 {ps : List (Int × Int)} (h : ps ≠ []) : ("lay " : Str) ++ Txt.join " " (ps.map fun p => itx p.1 ++ " " ++ itx p.2) = (Dd.lay ps).txt := by
  rw [lay_txt h]
  show _ = Txt.join " " ("lay" :: flX ps)
  cases ps with
  | nil => exact absurd rfl h
  | cons p r =>
    show _ = Txt.join " " ("lay" :: itx p.1 :: itx p.2 :: flX r)
    rw [join2 "lay"]
    have e : flX (p :: r) = itx p.1 :: itx p.2 :: flX r := rfl
    rw [e]
    have e2 : ("lay " : Str) = "lay" ++ " " := by decide
    rw [e2]
/-! ### good deeds -/
def WordOk (w : Str) : Prop := 32 ∉ tl w ∧ w.length ≤ 10
def SvOk : Sv → Prop
  | .inl i => Nine i
  | .inr x => nameB x = true
/-- the kinds of what stands behind the word -/
def kdX : Sv → Str
  | .inl _ => "number"
  | .inr _ => "name"
def DdOk : Dd → Prop
  | .lay ps => (1 ≤ ps.length ∧ ps.length ≤ 20) ∧ ∀ p ∈ ps, Nine p.1 ∧ Nine p.2
  | .oth w xs => (w, xs.map kdX) ∈ tab_FORMS ∧ ∀ x ∈ xs, SvOk x
theorem name_sp {n : Str} (h : nameB n = true) : 32 ∉ tl n ∧ n.length ≤ 8 := by
  unfold nameB at h
  rw [Bool.and_eq_true, Bool.and_eq_true] at h
  refine ⟨fun z => ?_, of_decide_eq_true h.1.2⟩
  have g := List.all_eq_true.mp h.2 32 z
  exact absurd g (by decide)
theorem svX_ok {x : Sv} (h : SvOk x) : 32 ∉ tl (svX x) ∧ (svX x).length ≤ 10 := by
  cases x with
  | inl i => exact ⟨itx_sp i, itx_small h⟩
  | inr x => exact ⟨(name_sp h).1, Nat.le_trans (name_sp h).2 (by decide)⟩
theorem forms_w : ∀ q ∈ tab_FORMS, (32 ∉ tl q.1 ∧ q.1.length ≤ 10) ∧ (1 ≤ q.2.length ∧ q.2.length ≤ 2) ∧ q.1 ≠ "lay" := by decide
theorem flX_mem {ps : List (Int × Int)} {x : Str} (h : x ∈ flX ps) : ∃ p ∈ ps, x = itx p.1 ∨ x = itx p.2 := by
  obtain ⟨p, hp, e⟩ := List.mem_flatMap.mp h
  exact ⟨p, hp, by simpa using e⟩
theorem flX_len (ps : List (Int × Int)) : (flX ps).length = 2 * ps.length := by
  induction ps with
  | nil => rfl
  | cons p r ih =>
    have e : flX (p :: r) = itx p.1 :: itx p.2 :: flX r := rfl
    rw [e, List.length_cons, List.length_cons, List.length_cons, ih]
    omega
theorem Dd.ok_parts {d : Dd} (h : DdOk d) : (∀ x ∈ d.parts, 32 ∉ tl x ∧ x.length ≤ 10) ∧ d.parts ≠ [] ∧ d.parts.length ≤ 41 := by
  cases d with
  | lay ps =>
    refine ⟨fun x hx => ?_, List.cons_ne_nil _ _, ?_⟩
    · rcases List.mem_cons.mp hx with rfl | hx
      · exact ⟨by decide, by decide⟩
      · obtain ⟨p, hp, e⟩ := flX_mem hx
        have g := h.2 p hp
        rcases e with rfl | rfl
        · exact ⟨itx_sp _, itx_small g.1⟩
        · exact ⟨itx_sp _, itx_small g.2⟩
    · have := flX_len ps
      have := h.1
      show (flX ps).length + 1 ≤ 41
      omega
  | oth w xs =>
    have f := forms_w _ h.1
    refine ⟨fun x hx => ?_, List.cons_ne_nil _ _, ?_⟩
    · rcases List.mem_cons.mp hx with rfl | hx
      · exact f.1
      · obtain ⟨y, hy, rfl⟩ := List.mem_map.mp hx
        exact svX_ok (h.2 y hy)
    · have := f.2.1.2
      rw [List.length_map] at this
      show (xs.map svX).length + 1 ≤ 41
      rw [List.length_map]
      omega
theorem Dd.back {d : Dd} (h : DdOk d) : Txt.split d.txt " " = d.parts := split_join (s := 32) (S := []) (by decide) (by decide +kernel) (ok_parts h).2.1 fun p hp => ((ok_parts h).1 p hp).1
theorem join_len : ∀ {l : List Str}, (∀ x ∈ l, x.length ≤ 40) → (Txt.join " " l).length ≤ 41 * l.length
  | [], _ => by rw [join_eq]; exact Nat.zero_le _
  | [x], h => by rw [join1]; have := h x List.mem_cons_self; show _ ≤ 41 * 1; omega
  | x :: y :: r, h => by
    have a := h x List.mem_cons_self
    have b := join_len (l := y :: r) fun z hz => h z (List.mem_cons_of_mem _ hz)
    have e : (" " : Str).length = 1 := by decide
    have g : (x ++ " " ++ Txt.join " " (y :: r)).length = x.length + 1 + (Txt.join " " (y :: r)).length := by
      rw [len_tl, tl_append, tl_append, List.length_append, List.length_append, ← len_tl, ← len_tl, ← len_tl, e]
    rw [join2, g]
    simp only [List.length_cons] at b ⊢
    omega

end
/-! ### deeds as texts -/
def SvB : Sv → Prop
  | .inl i => i.natAbs.log2 < 1920
  | .inr _ => True
def rStrA : List V → Hp → VK → Prop := fun xs H Q => ∃ x : Sv, xs = [svV x] ∧ SvB x ∧ Q (.str (svX x)) H
theorem call_strA {X : Cx} : CallR X (.type "str") rStrA := by
  intro pins s σ H xs us Q I r h
  obtain ⟨x, rfl, hx, q⟩ := h
  cases x with
  | inl i => exact call_str_int pins s σ H _ us Q I r ⟨i, rfl, hx, q⟩
  | inr x => exact SkE.call_str_str pins s σ H _ us Q I r ⟨x, rfl, q⟩
theorem nine_log {i : Int} (h : Nine i) : i.natAbs.log2 < 1920 := by
  obtain ⟨h1, h2⟩ := h
  by_cases c : i.natAbs = 0
  · rw [c]; decide
  · exact Nat.lt_trans ((Nat.log2_lt c).mpr (show i.natAbs < 2 ^ 30 by omega)) (by decide)
theorem svB_of {x : Sv} (h : SvOk x) : SvB x := by
  cases x with
  | inl i => exact nine_log h
  | inr x => trivial
/-- a deed as it stands -/
def DdAt (K : PySem.W.Frag) (H : Hp) (a : Addr) : Dd → Prop
  | .lay ps => ∃ t us, SqT K H a [.str "lay", .ref t] ∧ SqT K H t us ∧ DpAll K H us (ps.map amD)
  | .oth w xs => SqT K H a (.str w :: xs.map svV)
theorem DdAt.sm {T : Tb} {K : PySem.W.Frag} {H H' : Hp} {a : Addr} {d : Dd} (h : DdAt K H a d) (s : Sm T H H') : DdAt K H' a d := by
  cases d with
  | lay ps =>
    obtain ⟨t, us, h1, h2, h3⟩ := h
    exact ⟨t, us, same_tup s h1, same_tup s h2, dpa_same s _ _ h3⟩
  | oth w xs => exact same_tup s (show SqT K H a (.str w :: xs.map svV) from h)
/-- a comprehension of two fors: the outer one -/
theorem lc2_it {J : It} {n : Nat} {G : Hp → Prop} {Y : Nat → Hp → V → Hp → Prop} (w : Walk J n G Y) {H1 : Hp} {D : Addr} {Qd : Hp → Prop} (Pv : Nat → Hp → Prop) (h0 : Pv 0 (upd H1 D (.lst []))) (hG : ∀ i H, i ≤ n → Pv i H → G H)
    {body : V → Hp → (Hp → Prop) → Prop} (hs : ∀ i x H H', i < n → Pv i H → Y i H x H' → body x H' (Pv (i + 1))) (hd : ∀ H, Pv n H → Qd H) :
    ∃ W : Nat → Nat → Hp → Prop, (∃ m, W 0 m (upd H1 D (.lst []))) ∧ ∀ i m H, W i m H →
      (J.stop i H ∧ Qd H) ∨ (J.go i H ∧ ∃ Nx : Hp → Prop, (∀ H', Nx H' → ∃ m', m' < m ∧ W (i + 1) m' H') ∧ ∀ x H', J.yld i H x H' → body x H' Nx) := by
  refine ⟨fun i m H => m = n - i ∧ i ≤ n ∧ Pv i H, ⟨n, by simp, Nat.zero_le _, h0⟩, ?_⟩
  rintro i m H ⟨rfl, hi, p⟩
  have q := hG i H hi p
  by_cases hlt : i < n
  · exact .inr ⟨w.goes i H hlt q, Pv (i + 1), fun H' p' => ⟨n - (i + 1), by omega, rfl, hlt, p'⟩, fun x H' y => hs i x H H' hlt p (w.yields i H x H' hlt q y)⟩
  · have e : i = n := by omega
    subst e
    exact .inl ⟨w.stops H q, hd H p⟩
/-- .. the inner one -/
theorem in_it {J : It} {n : Nat} {G : Hp → Prop} {Y : Nat → Hp → V → Hp → Prop} (w : Walk J n G Y) {H1 : Hp} {Qd : Hp → Prop} (Pv : Nat → Hp → Prop) (h0 : Pv 0 H1) (hG : ∀ i H, i ≤ n → Pv i H → G H)
    {body : V → Hp → (Hp → Prop) → Prop} (hs : ∀ i x H H', i < n → Pv i H → Y i H x H' → body x H' (Pv (i + 1))) (hd : ∀ H, Pv n H → Qd H) :
    ∃ W : Nat → Nat → Hp → Prop, (∃ m, W 0 m H1) ∧ ∀ i m H, W i m H →
      (J.stop i H ∧ Qd H) ∨ (J.go i H ∧ ∃ Nx : Hp → Prop, (∀ H', Nx H' → ∃ m', m' < m ∧ W (i + 1) m' H') ∧ ∀ x H', J.yld i H x H' → body x H' Nx) := by
  refine ⟨fun i m H => m = n - i ∧ i ≤ n ∧ Pv i H, ⟨n, by simp, Nat.zero_le _, h0⟩, ?_⟩
  rintro i m H ⟨rfl, hi, p⟩
  have q := hG i H hi p
  by_cases hlt : i < n
  · exact .inr ⟨w.goes i H hlt q, Pv (i + 1), fun H' p' => ⟨n - (i + 1), by omega, rfl, hlt, p'⟩, fun x H' y => hs i x H H' hlt p (w.yields i H x H' hlt q y)⟩
  · have e : i = n := by omega
    subst e
    exact .inl ⟨w.stops H q, hd H p⟩
theorem sum_le10 : ∀ {l : List Str}, (∀ x ∈ l, x.length ≤ 10) → (l.map (·.length)).sum ≤ l.length * 10
  | [], _ => Nat.le_refl _
  | x :: l, h => by
    have a := h x List.mem_cons_self
    have b := sum_le10 (l := l) fun y hy => h y (List.mem_cons_of_mem _ hy)
    rw [List.map_cons, List.sum_cons, List.length_cons]
    omega
def flV (ps : List (Int × Int)) : List V := ps.flatMap fun p => [V.int p.1, V.int p.2]
def flS (ps : List (Int × Int)) : List Sv := ps.flatMap fun p => [.inl p.1, .inl p.2]
theorem flV_app (ps qs : List (Int × Int)) : flV (ps ++ qs) = flV ps ++ flV qs := List.flatMap_append
theorem flV_len (ps : List (Int × Int)) : (flV ps).length = 2 * ps.length := by
  induction ps with
  | nil => rfl
  | cons p r ih =>
    have e : flV (p :: r) = V.int p.1 :: V.int p.2 :: flV r := rfl
    rw [e, List.length_cons, List.length_cons, List.length_cons, ih]
    omega
theorem flS_V (ps : List (Int × Int)) : (flS ps).map svV = flV ps := by
  induction ps with
  | nil => rfl
  | cons p r ih => show V.int p.1 :: V.int p.2 :: (flS r).map svV = V.int p.1 :: V.int p.2 :: flV r; rw [ih]
theorem flS_X (ps : List (Int × Int)) : (flS ps).map svX = flX ps := by
  induction ps with
  | nil => rfl
  | cons p r ih => show itx p.1 :: itx p.2 :: (flS r).map svX = itx p.1 :: itx p.2 :: flX r; rw [ih]
def sp_p_deed_text (K : PySem.W.Frag) (T : Tb) : Sp := fun vs H Q _ => ∃ (a : Addr) (d : Dd), vs = [.ref a] ∧ DdAt K H a d ∧ DdOk d ∧ ∀ H', Sm T H H' → Q (.str d.txt) H'
theorem ok_p_deed_text {f : Addr} {fd : FuncData} (F : Fun K "deed_text" "deed_text" s_p_deed_text f fd) (B : Bn mg) : FnOk P w K mg base CX0 1 f fd ["deed"] (sp_p_deed_text K T) := by
  refine F.ok sc_p_deed_text (fun vs H Q E h => ?_) (fun cdv A outer s H vs Q E hr h => ?_)
  · obtain ⟨a, d, rfl, _⟩ := h
    rfl
  · obtain ⟨a, d, rfl, hd, hok, q⟩ := h
    refine ⟨_, (pss_cons (ps_set (i := 1) sc_p_deed_text.nd rfl (.inl rfl) (pe_callTy call_list_of (by rfl) B.list_ (by decide +kernel) (pa_cons (pe_slice sl_tup (pv 0) (po_some pe_int) po_none) pa_nil)))
      (pss_cons (ps_if (pt_cmpR op_eq (pe_ix ix_tup (pv 0) pe_int (fun _ _ => rfl)) pe_str (nomark _)) (pss_one (ps_setLc2 (i := 1) (own := [("stretch", 2), ("part", 3)]) (vs1 := [3]) (g := gName 2) (g1 := gName 3) (tt := tYes) (tt1 := tYes) (wi1 := iTup K (tVar 2)) (by rfl) sc_p_deed_text.nd rfl rfl (sw_true rfl rfl rfl (by decide +kernel)) (pi_tup (pe_ix ix_tup (pv 0) pe_int (fun _ _ => rfl))) (blkOk_by (own := [("stretch", 2), ("part", 3)]) (N := ["deed", "things", "stretch", "part", "thing"]) (sc := (defScope s_p_deed_text)) (by decide +kernel)) (by decide) (fun _ _ _ _ _ => (pg_name (i := 2) sc_p_deed_text.nd rfl (.inl rfl))) (fun _ _ _ _ _ => pts_nil) (fun _ _ _ _ _ => (pi_tup (tl := tVar 2) (pv 2))) (fun _ _ _ _ _ => (pg_name (i := 3) sc_p_deed_text.nd rfl (.inl rfl))) (fun _ _ _ _ _ => pts_nil) (fun _ _ _ _ _ => (pv 3)))) pss_nil)
      (pss_one (ps_ret (pe_join pe_str (pe_op op_cat (pe_lst (pa_cons (pe_ix ix_tup (pv 0) pe_int (fun _ _ => rfl)) pa_nil)) (pe_lc (own := [("thing", 4)]) (g := (gName 4)) (tt := tYes) (by rfl) sc_p_deed_text.nd (pi_list (pv 1)) (blkOk_by (own := [("thing", 4)]) (N := ["deed", "things", "stretch", "part", "thing"]) (sc := (defScope s_p_deed_text)) (by decide +kernel)) (fun _ _ _ _ _ => (pg_name (i := 4) sc_p_deed_text.nd rfl (.inl rfl))) (fun _ _ _ _ _ => pts_nil) (fun _ _ _ _ _ => (pe_callTy (r := rStrA) call_strA (by rfl) B.str_ (by decide +kernel) (pa_cons (pv 4) pa_nil)))))))))), ?_⟩
    have sl : ∀ (xs : List V), 1 ≤ xs.length → ¬ (HT.sIx xs.length 0 (some 1) = 0 ∧ HT.sIx xs.length xs.length none = xs.length) := fun xs h z => by
      have e := HT.sIx_nat xs.length 0 1
      rw [show ((1 : Nat) : Int) = 1 from rfl, z.1] at e
      omega
    have okp := Dd.ok_parts hok
    obtain ⟨w0, rest, h1, hw⟩ : ∃ w0 rest, SqT K H a (.str w0 :: rest) ∧ ((∃ ps t us, d = .lay ps ∧ w0 = "lay" ∧ rest = [.ref t] ∧ SqT K H t us ∧ DpAll K H us (ps.map amD)) ∨ ∃ xs, d = .oth w0 xs ∧ rest = xs.map svV) := by
      cases d with
      | lay ps =>
        obtain ⟨t, us, h1, h2, h3⟩ := hd
        exact ⟨_, _, h1, .inl ⟨ps, t, us, rfl, rfl, rfl, h2, h3⟩⟩
      | oth w0 xs => exact ⟨w0, _, hd, .inr ⟨xs, rfl, rfl⟩⟩
    refine ⟨_, rfl, 1, rfl, a, _, rfl, h1, sl _ (Nat.succ_pos _), fun p np => ⟨p, _, rfl, .inr (SqT.of upd_same), fun l nl => ?_⟩⟩
    have e : cutV (V.str w0 :: rest) (some 1) none = rest := cut_drop _ 1 rfl
    rw [e] at nl ⊢
    have u1 := (same_upd (T := T) (o := HO.tup rest) np).trans (same_upd (T := T) (o := HO.lst rest) nl)
    have el : upd (upd H p (.tup rest)) l (.lst rest) l = some (.lst rest) := upd_same
    dsimp only [gName, List.set]
    have h11 := same_tup u1 h1
    have hw1 : (∃ ps t us, d = .lay ps ∧ w0 = "lay" ∧ rest = [.ref t] ∧ SqT K (upd (upd H p (.tup rest)) l (.lst rest)) t us ∧ DpAll K (upd (upd H p (.tup rest)) l (.lst rest)) us (ps.map amD)) ∨ ∃ xs, d = .oth w0 xs ∧ rest = xs.map svV := hw.imp (fun ⟨ps, t, us, a1, a2, a3, a4, a5⟩ => ⟨ps, t, us, a1, a2, a3, same_tup u1 a4, dpa_same u1 _ _ a5⟩) id
    clear hw hd h1 np nl e
    generalize upd (upd H p (.tup rest)) l (.lst rest) = H1 at *
    refine seq_if (fun σ' H' => ∃ (l : Addr) (x2 x3 x4 : Option V) (zs : List Sv), Sm T H H' ∧ SqT K H' a (.str w0 :: rest) ∧ H' l = some (.lst (zs.map svV)) ∧ d.parts = w0 :: zs.map svX ∧ (∀ z ∈ zs, SvOk z) ∧ σ' = [some (.ref a), some (.ref l), x2, x3, x4]) (fun σ' H2 pp => ?_) (fun kk => ?_)
    rotate_left
    · refine ⟨_, rfl, a, _, _, .str w0, rfl, rfl, h11, at_of (j := 0) rfl rfl, rfl, _, rfl, ?_⟩
      rcases hw1 with ⟨ps, t, us, rfl, rfl, rfl, h2, h3⟩ | ⟨xs, rfl, rfl⟩
      · rw [show decide (V.str "lay" = V.str "lay") = true from decide_eq_true rfl]
        have lus := dpa_len h3
        rw [List.length_map] at lus
        refine iteT ⟨_, rfl, a, _, _, .ref t, rfl, rfl, h11, at_of (j := 1) rfl rfl, t, rfl, ⟨us, h2⟩, fun Dl hDl => lc2_it (walk_tup (xs := us)) (Qd := _) (fun i H' => Sm T H1 H' ∧ H' Dl = some (.lst (flV (ps.take i)))) ⟨same_upd hDl, upd_same⟩ (fun i H' _ z => same_tup z.1 h2) ?_ ?_⟩
        · rintro i x H2 H3 hi ⟨s2, eD⟩ ⟨rfl, hx⟩
          obtain ⟨u, gu, du⟩ := dpa_get h3 (i := i) (d := amD ps[i]) (by rw [List.getElem?_map, List.getElem?_eq_getElem (by omega)]; rfl)
          rw [gu] at hx
          cases hx
          obtain ⟨q, rfl, sq⟩ := pd_at du
          have sq2 := same_tup s2 sq
          refine ⟨rfl, tyes_i ?_⟩
          refine ⟨_, rfl, q, rfl, ⟨_, sq2⟩, in_it (walk_tup (xs := tv ps[i])) (fun k H' => Sm T H1 H' ∧ H' Dl = some (.lst (flV (ps.take i) ++ (tv ps[i]).take k))) ⟨s2, by rw [List.take_zero, List.append_nil]; exact eD⟩ (fun k H' _ z => same_tup z.1 sq) ?_ ?_⟩
          · rintro k y H4 H5 hk ⟨s4, eD4⟩ ⟨rfl, hy⟩
            refine ⟨rfl, tyes_i ?_⟩
            have hk2 : k < 2 := hk
            have lf : (flV (ps.take i)).length ≤ 40 := by
              have := hok.1.2
              rw [flV_len, List.length_take]
              omega
            refine ⟨_, rfl, _, eD4, szl (by rw [List.length_append, List.length_take]; omega), same_mut s4 hDl eD4, ?_⟩
            rw [upd_same, List.take_add_one, hy, List.append_assoc]
            rfl
          · rintro H4 ⟨s4, eD4⟩
            refine ⟨s4, ?_⟩
            rw [eD4, List.take_length, List.take_add_one, List.getElem?_eq_getElem (show i < ps.length by omega)]
            show _ = some (HO.lst (flV (ps.take i ++ [ps[i]])))
            rw [flV_app]
            rfl
        · rintro H2 ⟨s2, eD⟩
          rw [lus, List.take_length] at eD
          dsimp only [gName, List.set]
          refine kk _ _ ⟨Dl, _, _, _, flS ps, u1.trans s2, same_tup s2 h11, by rw [eD, flS_V], ?_, ?_, rfl⟩
          · show ("lay" : Str) :: flX ps = ("lay" : Str) :: (flS ps).map svX
            rw [flS_X]
          · intro z hz
            obtain ⟨p, hp, e⟩ := List.mem_flatMap.mp hz
            have g := hok.2 p hp
            simp only [List.mem_cons, List.not_mem_nil, or_false] at e
            rcases e with rfl | rfl
            · exact g.1
            · exact g.2
      · rw [show decide (V.str w0 = V.str "lay") = false from decide_eq_false fun z => (forms_w _ hok.1).2.2 (V.str.inj z)]
        exact iteF (kk _ _ ⟨l, _, _, _, xs, u1, h11, el, rfl, hok.2, rfl⟩)
    obtain ⟨l2, x2, x3, x4, zs, s2, h12, el2, ep, hz, rfl⟩ := pp
    have lz : zs.length ≤ 40 := by
      have := okp.2.2
      rw [ep, List.length_cons, List.length_map] at this
      omega
    refine ⟨⟨_, rfl⟩, _, rfl, a, _, _, .str w0, rfl, rfl, h12, at_of (j := 0) rfl rfl, by show 1 ≤ sizeLine; decide, fun lw nw => ?_⟩
    have u3 := same_upd (T := T) (o := HO.lst [V.str w0]) nw
    have s3 := s2.trans u3
    have ew : upd H2 lw (.lst [V.str w0]) lw = some (.lst [V.str w0]) := upd_same
    have el3 := u3.k el2
    clear u3 nw
    generalize upd H2 lw (.lst [V.str w0]) = H3 at *
    refine ⟨_, rfl, l2, rfl, ⟨_, SqL.of el3⟩, fun Dl hDl => lc_list (K := K) (a := l2) (xs := zs.map svV) (Qd := _) (fun i H' => Sm T H3 H' ∧ H' Dl = some (.lst (((zs.map svX).take i).map V.str))) ⟨same_upd hDl, upd_same⟩ (fun i H' _ z => SqL.of (z.1.k el3)) ?_ ?_⟩
    · rintro i v H4 hi ⟨s4, eD⟩
      have hil : i < zs.length := by have := (List.getElem?_eq_some_iff.mp hi).1; rw [List.length_map] at this; exact this
      rw [List.getElem?_map, List.getElem?_eq_getElem hil] at hi
      cases hi
      refine ⟨rfl, tyes_i ?_⟩
      refine ⟨_, rfl, zs[i], rfl, svB_of (hz _ (List.getElem_mem hil)), ?_⟩
      refine ⟨_, eD, szl (by rw [List.length_map, List.length_take, List.length_map]; omega), same_mut s4 hDl eD, ?_⟩
      rw [upd_same, List.take_add_one, List.getElem?_map, List.getElem?_eq_getElem hil, List.map_append]
      rfl
    · rintro H4 ⟨s4, eD⟩
      rw [List.length_map, show zs.length = (zs.map svX).length from (List.length_map ..).symm, List.take_length] at eD
      have ew4 := s4.k ew
      refine ⟨lw, Dl, _, _, rfl, rfl, ew4, eD, by rw [List.length_map, List.length_map]; exact sz (by show 1 + _ ≤ _; omega), fun p5 n5 => ?_⟩
      have u5 := same_upd (T := T) (o := HO.lst ([V.str w0] ++ (zs.map svX).map V.str)) n5
      refine ⟨_, p5, w0 :: zs.map svX, rfl, rfl, .inl (SqL.of upd_same), ?_, ?_⟩
      · have sb : ((w0 :: zs.map svX).map (·.length)).sum ≤ (w0 :: zs.map svX).length * 10 := sum_le10 fun x hx => (okp.1 x (by rw [ep]; exact hx)).2
        have e1 : (" " : Str).length = 1 := by decide
        have e2 : (w0 :: zs.map svX).length = zs.length + 1 := by rw [List.length_cons, List.length_map]
        rw [e1]
        rw [e2] at sb ⊢
        omega
      · show Q (.str (Txt.join " " (w0 :: zs.map svX))) _
        rw [← ep]
        exact q _ ((s3.trans s4).trans u5)
def figC (c : Nat) : Bool := !decide ([c] < (("0" : Str)).cps.toList) && !decide ((("9" : Str)).cps.toList < [c])
def figB (n : Str) : Bool := (decide (1 ≤ n.length) && decide (n.length ≤ 9)) && n.cps.toList.all figC
theorem figC_of {c : Nat} (h : 48 ≤ c ∧ c ≤ 57) : figC c = true := by
  have a : ¬ [c] < (("0" : Str)).cps.toList := fun z => by
    have z : [c] < [48] := z
    rcases List.cons_lt_cons_iff.mp z with y | ⟨_, y⟩
    · omega
    · exact absurd y (by decide)
  have b : ¬ (("9" : Str)).cps.toList < [c] := fun z => by
    have z : [57] < [c] := z
    rcases List.cons_lt_cons_iff.mp z with y | ⟨_, y⟩
    · omega
    · exact absurd y (by decide)
  unfold figC
  rw [decide_eq_false a, decide_eq_false b]
  rfl
theorem fig_itx {m : Nat} (h : m < 10 ^ 9) : figB (itx (m : Int)) = true := by
  obtain ⟨d1, d2⟩ := itx_digits m
  have l9 := itx_len m h
  have l1 : 1 ≤ (itx (m : Int)).length := by
    rw [show (itx (m : Int)).length = (itx (m : Int)).cps.toList.length from (Array.length_toList).symm]
    exact List.length_pos_iff.mpr d2
  unfold figB
  rw [decide_eq_true l1, decide_eq_true l9, List.all_eq_true.mpr fun c hc => figC_of (d1 c hc)]
  rfl
def sp_p_are_figures (K : PySem.W.Frag) (T : Tb) : Sp := fun vs H Q _ => ∃ n : Str, vs = [.str n] ∧ n.length ≤ sizeLine ∧ Ok T H ∧ ∀ H', Sm T H H' → Q (.bl (figB n)) H'
theorem ok_p_are_figures {f : Addr} {fd : FuncData} {u_MOST_FIGURES : Value} {c PT : Addr} (F : FunC K "are_figures" "are_figures" s_p_are_figures f fd c) (hnT : (T.map (·.1)).Nodup) (hPT : (PT, (none : Option Str)) ∈ T) (TB : GxR.TabB base mg c PT) (B : Bn mg) (C_MOST_FIGURES : RelV (.int 9) u_MOST_FIGURES ∧ mg "MOST_FIGURES" = some u_MOST_FIGURES) : FnOk P w K mg base CX0 1 f fd ["text"] (sp_p_are_figures K T) := by
  obtain ⟨⟨tM, rfl⟩, gM⟩ := id C_MOST_FIGURES
  refine F.ok sc_p_are_figures (fun vs H Q E h => ?_) (fun A outer s H vs Q E hr h => ?_)
  · obtain ⟨n, rfl, _⟩ := h
    rfl
  · obtain ⟨n, rfl, hsz, hok, q⟩ := h
    refine ⟨_, (pss_one (ps_ret (pe_and (pe_chain op_le op_le pe_int (pe_callB call_len_str (by rfl) B.len_ (by decide +kernel) (pa_cons (pv 0) pa_nil)) (pe_glob (by rfl) C_MOST_FIGURES.2 C_MOST_FIGURES.1)) (pe_one (GxR.pe_allS hr (by rfl) B.all_ (by decide +kernel) TB rfl (gens_by (by decide +kernel)) (pv 0) (elt_rng rfl rfl) (fun _ => rfl)))))), ?_⟩
    refine ⟨_, rfl, n, rfl, hsz, _, _, rfl, rfl, _, rfl, ?_⟩
    have q0 := fun H' (s : Sm T H H') => q H' s
    unfold figB at q0
    by_cases h1 : 1 ≤ n.length
    · rw [decide_eq_true (show (1 : Int) ≤ (n.length : Int) by omega)]
      refine iteT ⟨_, _, rfl, rfl, _, rfl, ?_⟩
      by_cases h2 : n.length ≤ 9
      · rw [decide_eq_true (show (n.length : Int) ≤ 9 by omega)]
        refine iteT ⟨_, rfl, n, rfl, hok _ hPT, fun H2 ht => ?_⟩
        have r := q0 H2 (sm_tabbed hnT hPT (hok _ hPT) ht)
        rw [decide_eq_true h1, decide_eq_true h2, Bool.true_and, Bool.true_and] at r
        exact r
      · rw [decide_eq_false (show ¬ (n.length : Int) ≤ 9 by omega)]
        have r := q0 H Sm.refl
        rw [decide_eq_false h2, Bool.and_false, Bool.false_and] at r
        exact iteF r
    · rw [decide_eq_false (show ¬ (1 : Int) ≤ (n.length : Int) by omega)]
      have r := q0 H Sm.refl
      rw [decide_eq_false h1, Bool.false_and, Bool.false_and] at r
      exact iteF ⟨_, rfl, iteF r⟩
def sp_p_read_number (K : PySem.W.Frag) (T : Tb) (CP : Addr) : Sp := fun vs H Q _ => ∃ i : Int, vs = [.str (itx i)] ∧ Nine i ∧ Ok T H ∧ ∀ H', Sm T H H' → Q (.int i) H'
theorem ok_p_read_number {f : Addr} {fd : FuncData} (F : Fun K "read_number" "read_number" s_p_read_number f fd) (B : Bn mg) {CP : Addr} (R_BadText : Err P w K mg base CP "BadText" "bad text") (F_p_are_figures : Fn P w K mg base 1 "are_figures" ["text"] (sp_p_are_figures K T)) : FnOk P w K mg base (L2.CX P w) 4 f fd ["text"] (sp_p_read_number K T CP) := by
  refine F.okX sc_p_read_number (fun vs H Q E h => ?_) (fun cdv A outer s H vs Q E hr h => ?_)
  · obtain ⟨i, rfl, _⟩ := h
    rfl
  · obtain ⟨i, rfl, hi, hok, q⟩ := h
    refine ⟨_, (pss_cons (ps_if (pt_not (pt_val (pe_fn F_p_are_figures (hr.mono (by decide)) (pa_cons (pe_m1 PySem.F.slot_str_removeprefix PySem.F.type_str_removeprefix mt_removeprefix (pv 0) pe_str) pa_nil)))) (pss_one (ps_raise rfl (takes_of rfl rfl rfl rfl) (pmk_err R_BadText (hr.mono (by decide)) (by rfl)))) pss_nil)
      (pss_cons (ps_set (i := 1) sc_p_read_number.nd rfl (.inl rfl) (pe_callTy call_int_str (by rfl) B.int_ (by decide +kernel) (pa_cons (pv 0) pa_nil)))
      (pss_cons (ps_if (pt_cmpR op_ne (pe_callTy call_str_int (by rfl) B.str_ (by decide +kernel) (pa_cons (pv 1) pa_nil)) (pv 0) (nomark _)) (pss_one (ps_raise rfl (takes_of rfl rfl rfl rfl) (pmk_err R_BadText (hr.mono (by decide)) (by rfl)))) pss_nil)
      (pss_one (ps_ret (pv 1)))))), ?_⟩
    have l10 := itx_small hi
    refine ⟨_, rfl, ⟨_, rfl⟩, _, "-", rfl, rfl, sz (by omega), _, rfl, ?_⟩
    have hf : figB (Txt.removeprefix (itx i) "-") = true := by
      rw [itx_pre]
      exact fig_itx (by have := hi.1; have := hi.2; omega)
    have hl : (Txt.removeprefix (itx i) "-").length ≤ 9 := by
      have g := hf
      unfold figB at g
      rw [Bool.and_eq_true, Bool.and_eq_true] at g
      exact of_decide_eq_true g.1.2
    refine ⟨sz (by omega), hok, fun H1 s1 => ⟨_, rfl, ?_⟩⟩
    rw [hf]
    refine iteF ⟨_, rfl, _, i, rfl, itx_reads hi, by omega, ?_⟩
    dsimp only [gName, List.set]
    refine ⟨_, rfl, i, rfl, nine_log hi, _, rfl, rfl, _, rfl, ?_⟩
    rw [show decide (V.str (Str.ofString (toString i)) = V.str (itx i)) = true from decide_eq_true rfl]
    exact iteF ⟨_, rfl, q _ s1⟩
def sp_p_read_thing (K : PySem.W.Frag) (T : Tb) (CP : Addr) : Sp := fun vs H Q _ => ∃ x : Sv, vs = [.str (kdX x), .str (svX x)] ∧ SvOk x ∧ Ok T H ∧ ∀ H', Sm T H H' → Q (svV x) H'
theorem ok_p_read_thing {f : Addr} {fd : FuncData} (F : Fun K "read_thing" "read_thing" s_p_read_thing f fd) {CP : Addr} (R_BadText : Err P w K mg base CP "BadText" "bad text") (F_p_is_name : Fn P w K mg base 1 "is_name" ["text"] (sp_p_is_name K T)) (F_p_read_number : Fx P w K mg base 4 "read_number" ["text"] (sp_p_read_number K T CP)) : FnOk P w K mg base (L2.CX P w) 5 f fd ["kind", "text"] (sp_p_read_thing K T CP) := by
  refine F.okX sc_p_read_thing (fun vs H Q E h => ?_) (fun cdv A outer s H vs Q E hr h => ?_)
  · obtain ⟨x, rfl, _⟩ := h
    rfl
  · obtain ⟨x, rfl, hx, hok, q⟩ := h
    refine ⟨_, (pss_cons (ps_if (pt_cmpR op_eq (pv 0) pe_str (nomark _)) (pss_one (ps_ret (pe_fx F_p_read_number (hr.mono (by decide)) (takes_of rfl rfl rfl rfl) (pa_cons (pv 1) pa_nil)))) pss_nil)
      (pss_cons (ps_if (pt_not (pt_val (pe_fn F_p_is_name (hr.mono (by decide)) (pa_cons (pv 1) pa_nil)))) (pss_one (ps_raise rfl (takes_of rfl rfl rfl rfl) (pmk_err R_BadText (hr.mono (by decide)) (by rfl)))) pss_nil)
      (pss_one (ps_ret (pv 1))))), ?_⟩
    refine ⟨_, rfl, rfl, _, rfl, ?_⟩
    cases x with
    | inl i =>
      rw [show decide (V.str (kdX (.inl i)) = V.str "number") = true from decide_eq_true rfl]
      exact iteT ⟨_, rfl, i, rfl, hx, hok, fun H' s => q H' s⟩
    | inr n =>
      rw [show decide (V.str (kdX (.inr n)) = V.str "number") = false from decide_eq_false fun z => absurd (show ("name" : Str) = "number" from V.str.inj z) (by decide)]
      have hn : nameB n = true := hx
      have l8 := (name_sp hn).2
      refine iteF ⟨_, rfl, n, rfl, sz (by omega), hok, fun H1 s1 => ⟨_, rfl, ?_⟩⟩
      rw [hn]
      exact iteF ⟨_, rfl, q _ s1⟩
def flI (ps : List (Int × Int)) : List Int := ps.flatMap fun p => [p.1, p.2]
theorem flI_X (ps : List (Int × Int)) : flX ps = (flI ps).map itx := by
  induction ps with
  | nil => rfl
  | cons p r ih => show itx p.1 :: itx p.2 :: flX r = itx p.1 :: itx p.2 :: (flI r).map itx; rw [ih]
theorem flI_len (ps : List (Int × Int)) : (flI ps).length = 2 * ps.length := by
  rw [← flX_len, flI_X, List.length_map]
theorem flI_nine {ps : List (Int × Int)} (h : DdOk (.lay ps)) : ∀ i ∈ flI ps, Nine i := fun i hi => by
  obtain ⟨p, hp, e⟩ := List.mem_flatMap.mp hi
  have g := h.2 p hp
  simp only [List.mem_cons, List.not_mem_nil, or_false] at e
  rcases e with rfl | rfl
  · exact g.1
  · exact g.2
theorem flI_at : ∀ {ps : List (Int × Int)} {i : Nat} (h : i < ps.length), (flI ps)[2 * i]? = some ps[i].1 ∧ (flI ps)[2 * i + 1]? = some ps[i].2
  | p :: r, 0, _ => ⟨rfl, rfl⟩
  | p :: r, i + 1, h => by
    have g := flI_at (ps := r) (i := i) (Nat.lt_of_succ_lt_succ h)
    exact g
def sp_p_read_things (K : PySem.W.Frag) (T : Tb) (CP : Addr) : Sp := fun vs H Q _ => ∃ (f t : Addr) (xs : List Sv), vs = [.ref f, .ref t] ∧ (∀ H, SqT K H f ((xs.map kdX).map V.str)) ∧ SqL K H t ((xs.map svX).map V.str) ∧ (∀ x ∈ xs, SvOk x) ∧ xs.length ≤ 10 ∧ Ok T H ∧ ∀ p H', Sm T H H' → H' p = some (.lst (xs.map svV)) → Q (.ref p) H'
theorem ok_p_read_things {f : Addr} {fd : FuncData} (F : Fun K "read_things" "read_things" s_p_read_things f fd) (B : Bn mg) {CP : Addr} (R_BadText : Err P w K mg base CP "BadText" "bad text") (F_p_read_thing : Fx P w K mg base 5 "read_thing" ["kind", "text"] (sp_p_read_thing K T CP)) : FnOk P w K mg base (L2.CX P w) 6 f fd ["form", "texts"] (sp_p_read_things K T CP) := by
  refine F.okX sc_p_read_things (fun vs H Q E h => ?_) (fun cdv A outer s H vs Q E hr h => ?_)
  · obtain ⟨f9, t9, xs, rfl, _⟩ := h
    rfl
  · obtain ⟨f9, t9, xs, rfl, hf, ht, hx, hl, hok, q⟩ := h
    refine ⟨_, (pss_cons (ps_if (pt_cmpR op_ne (pe_callB call_len_seq (by rfl) B.len_ (by decide +kernel) (pa_cons (pv 1) pa_nil)) (pe_callB call_len_seq (by rfl) B.len_ (by decide +kernel) (pa_cons (pv 0) pa_nil)) (nomark _)) (pss_one (ps_raise rfl (takes_of rfl rfl rfl rfl) (pmk_err R_BadText (hr.mono (by decide)) (by rfl)))) pss_nil)
      (pss_one (ps_ret (pe_lc (own := [("kind", 2), ("text", 3)]) (g := (gTup K 2 (gCons (gName 2) (gCons (gName 3) gNil)))) (tt := tYes) (by rfl) sc_p_read_things.nd (pi_zipM (by rfl) B.zip_ (pa_cons (pv 0) (pa_cons (pv 1) pa_nil))) (blkOk_by (own := [("kind", 2), ("text", 3)]) (N := ["form", "texts", "kind", "text"]) (sc := (defScope s_p_read_things)) (by decide +kernel)) (fun _ _ _ _ _ => (pg_tup rfl (pgs_cons (pg_name (i := 2) sc_p_read_things.nd rfl (.inl rfl)) (pgs_cons (pg_name (i := 3) sc_p_read_things.nd rfl (.inl rfl)) pgs_nil)))) (fun _ _ _ _ _ => pts_nil) (fun _ _ _ _ _ => (pe_fx0 F_p_read_thing (hr.mono (by decide)) (pa_cons (pv 2) (pa_cons (pv 3) pa_nil)))))))), ?_⟩
    refine ⟨_, rfl, t9, _, rfl, .inl ht, _, rfl, f9, _, rfl, .inr (hf H), rfl, _, rfl, ?_⟩
    rw [List.length_map, List.length_map, List.length_map, List.length_map, show decide (V.int (xs.length : Int) = V.int (xs.length : Int)) = true from decide_eq_true rfl]
    refine iteF ⟨_, rfl, _, rfl, f9, t9, _, _, rfl, hf H, ht, fun Dl hDl => lc_it (walk_zipM (us := (xs.map kdX).map V.str) (vs := (xs.map svX).map V.str) (n := xs.length) (by simp)) (Qd := _) (fun i H' => Sm T H H' ∧ H' Dl = some (.lst ((xs.take i).map svV))) ⟨same_upd hDl, upd_same⟩ (fun i H' _ z => ⟨hf H', z.1.seq ht⟩) ?_ ?_⟩
    · rintro i x H1 H2 hi ⟨s1, eD⟩ ⟨Tt, x', y', rfl, nT, rfl, gx, gy⟩
      rw [List.getElem?_map, List.getElem?_map, List.getElem?_eq_getElem hi] at gx gy
      cases gx
      cases gy
      have u := same_upd (T := T) (o := HO.tup [V.str (kdX xs[i]), V.str (svX xs[i])]) nT
      have s2 := s1.trans u
      have eD2 := u.k eD
      refine ⟨Tt, _, rfl, SqT.of upd_same, rfl, _, _, rfl, _, _, rfl, rfl, ?_⟩
      refine ⟨rfl, tyes_i ?_⟩
      refine ⟨_, rfl, _, rfl, xs[i], rfl, hx _ (List.getElem_mem hi), s2.ok hok, fun H3 s3 => ?_⟩
      have eD3 := s3.k eD2
      refine ⟨_, eD3, szl (by rw [List.length_map, List.length_take]; omega), same_mut (s2.trans s3) hDl eD3, ?_⟩
      rw [upd_same, List.take_add_one, List.getElem?_eq_getElem hi, List.map_append]
      rfl
    · rintro H1 ⟨s1, eD⟩
      rw [List.take_length] at eD
      exact q _ _ s1 eD
theorem sqT_lst {K : PySem.W.Frag} {H : Hp} {a D : Addr} {xs us vs : List V} (e : H D = some (.lst us)) (h : SqT K H a xs) : SqT K (upd H D (.lst vs)) a xs := by
  rcases h with (h | ⟨o, h⟩) | h
  · refine .inl (.inl ?_)
    rw [upd_ne fun z => by rw [z, e] at h; cases h]
    exact h
  · refine .inl (.inr ⟨o, ?_⟩)
    rw [upd_ne fun z => by rw [z, e] at h; cases h]
    exact h
  · exact .inr h
theorem dpa_lst {K : PySem.W.Frag} {H : Hp} {D : Addr} {ws vs : List V} (e : H D = some (.lst ws)) : ∀ {ps : List (Int × Int)} {us : List V}, DpAll K H us (ps.map amD) → DpAll K (upd H D (.lst vs)) us (ps.map amD)
  | [], _, .nil => .nil
  | p :: r, _, .cons h t => by
    obtain ⟨q, rfl, sq⟩ := pd_at h
    exact .cons (amD_dp (sqT_lst e sq)) (dpa_lst e t)
def sp_p_read_way (K : PySem.W.Frag) (T : Tb) (CP : Addr) : Sp := fun vs H Q _ => ∃ (t : Addr) (ps : List (Int × Int)), vs = [.ref t] ∧ SqL K H t ((flX ps).map V.str) ∧ DdOk (.lay ps) ∧ Ok T H ∧ ∀ p us H', Sm T H H' → SqT K H' p us → DpAll K H' us (ps.map amD) → Q (.ref p) H'
theorem ok_p_read_way {f : Addr} {fd : FuncData} (F : Fun K "read_way" "read_way" s_p_read_way f fd) (B : Bn mg) {CP : Addr} (R_BadText : Err P w K mg base CP "BadText" "bad text") (F_p_read_number : Fx P w K mg base 4 "read_number" ["text"] (sp_p_read_number K T CP)) : FnOk P w K mg base (L2.CX P w) 5 f fd ["texts"] (sp_p_read_way K T CP) := by
  refine F.okX sc_p_read_way (fun vs H Q E h => ?_) (fun cdv A outer s H vs Q E hr h => ?_)
  · obtain ⟨t9, ps, rfl, _⟩ := h
    rfl
  · obtain ⟨t9, ps, rfl, ht, hd, hok, q⟩ := h
    refine ⟨_, (pss_cons (ps_set (i := 1) sc_p_read_way.nd rfl (.inr rfl) (pe_lc (own := [("text", 2)]) (g := (gName 2)) (tt := tYes) (by rfl) sc_p_read_way.nd (pi_list (pv 0)) (blkOk_by (own := [("text", 2)]) (N := ["texts", "numbers", "text", "at"]) (sc := (defScope s_p_read_way)) (by decide +kernel)) (fun _ _ _ _ _ => (pg_name (i := 2) sc_p_read_way.nd rfl (.inl rfl))) (fun _ _ _ _ _ => pts_nil) (fun _ _ _ _ _ => (pe_fx0 F_p_read_number (hr.mono (by decide)) (pa_cons (pv 2) pa_nil)))))
      (pss_cons (ps_if (PW.pt (pw_or (pt_not (pt_truth (pv 1) (by intro _; rfl))) (pw_or1 (pt_cmpR op_ne (pe_op op_mod (pe_callB call_len_seq (by rfl) B.len_ (by decide +kernel) (pa_cons (pv 1) pa_nil)) pe_int) pe_int (nomark _))))) (pss_one (ps_raise rfl (takes_of rfl rfl rfl rfl) (pmk_err R_BadText (hr.mono (by decide)) (by rfl)))) pss_nil)
      (pss_one (ps_ret (pe_callTy call_tuple_of (by rfl) B.tuple_ (by decide +kernel) (pa_cons (pe_lc (own := [("at", 3)]) (g := (gName 3)) (tt := tYes) (by rfl) sc_p_read_way.nd (pi_range3 (by rfl) B.range_ (pa_cons pe_int (pa_cons (pe_callB call_len_seq (by rfl) B.len_ (by decide +kernel) (pa_cons (pv 1) pa_nil)) (pa_cons pe_int pa_nil)))) (blkOk_by (own := [("at", 3)]) (N := ["texts", "numbers", "text", "at"]) (sc := (defScope s_p_read_way)) (by decide +kernel)) (fun _ _ _ _ _ => (pg_name (i := 3) sc_p_read_way.nd rfl (.inl rfl))) (fun _ _ _ _ _ => pts_nil) (fun _ _ _ _ _ => (pe_tup (pa_cons (pe_ix (r := rIxL K) ix_list (pv 1) (pv 3) (fun _ _ => rfl)) (pa_cons (pe_ix (r := rIxL K) ix_list (pv 1) (pe_op op_add (pv 3) pe_int) (fun _ _ => rfl)) pa_nil))))) pa_nil)))))), ?_⟩
    have hps := hd.1
    have ln := flI_len ps
    refine ⟨_, rfl, t9, rfl, ⟨_, ht⟩, fun Dl hDl => lc_list (K := K) (a := t9) (xs := (flX ps).map V.str) (Qd := _) (fun i H' => Sm T H H' ∧ H' Dl = some (.lst (((flI ps).take i).map V.int))) ⟨same_upd hDl, upd_same⟩ (fun i H' _ z => z.1.seq ht) ?_ ?_⟩
    · rintro i v H1 hi ⟨s1, eD⟩
      rw [flI_X, List.map_map, List.getElem?_map] at hi
      have hil : i < (flI ps).length := by
        rcases Nat.lt_or_ge i (flI ps).length with z | z
        · exact z
        · rw [List.getElem?_eq_none z] at hi; cases hi
      rw [List.getElem?_eq_getElem hil] at hi
      cases hi
      refine ⟨rfl, tyes_i ?_⟩
      refine ⟨_, rfl, (flI ps)[i], rfl, flI_nine hd _ (List.getElem_mem hil), s1.ok hok, fun H3 s3 => ?_⟩
      have eD3 := s3.k eD
      refine ⟨_, eD3, szl (by rw [List.length_map, List.length_take]; omega), same_mut (s1.trans s3) hDl eD3, ?_⟩
      rw [upd_same, List.take_add_one, List.getElem?_eq_getElem hil, List.map_append]
      rfl
    · rintro H1 ⟨s1, eD⟩
      rw [List.length_map, flX_len, ← ln, List.take_length] at eD
      dsimp only [gName, List.set]
      have hne : (((flI ps).map V.int).isEmpty) = false := by
        cases e : (flI ps) with
        | nil => rw [e] at ln; exact absurd ln (by show ¬ 0 = 2 * ps.length; omega)
        | cons a b => rfl
      refine ⟨_, rfl, _, .inl ⟨_, SqL.of eD, rfl⟩, ?_⟩
      rw [hne]
      refine iteF ⟨_, rfl, Dl, _, rfl, .inl (SqL.of eD), _, _, rfl, rfl, (by show (0 : Int) < 2; decide), rfl, _, rfl, ?_⟩
      rw [List.length_map, ln, show decide (V.int (((2 * ps.length : Nat) : Int) % 2) = V.int 0) = true from decide_eq_true (congrArg V.int (by omega))]
      have key : ∀ n : Fin 21, RgC 0 (((2 * n.val : Nat) : Int)) 2 n.val := by unfold RgC; decide
      have rg := key ⟨ps.length, by omega⟩
      refine iteF ⟨_, rfl, Dl, _, rfl, .inl (SqL.of eD), _, _, _, ps.length, rfl, by rw [List.length_map, ln]; exact rg, fun D2 h2 => lc_it (walk_rangeC (lo := 0) (c := 2) (n := ps.length)) (Qd := _) (fun i H' => Sm T H1 H' ∧ ∃ us, H' D2 = some (.lst us) ∧ DpAll K H' us ((ps.take i).map amD)) ⟨same_upd h2, [], upd_same, by rw [List.take_zero]; exact .nil⟩ (fun i H' _ z => trivial) ?_ ?_⟩
      · rintro i x H3 H2 hi ⟨s2, us, eD2, du⟩ ⟨rfl, rfl⟩
        have eDl := s2.k eD
        have g := flI_at hi
        have lus := dpa_len du
        rw [List.length_map, List.length_take] at lus
        refine ⟨rfl, tyes_i ?_⟩
        refine ⟨_, rfl, _, rfl, Dl, _, _, .int ps[i].1, rfl, rfl, SqL.of eDl, at_of (j := 2 * i) (by omega) (by rw [List.getElem?_map, g.1]; rfl), _, rfl, _, rfl, _, _, rfl, rfl, Dl, _, _, .int ps[i].2, rfl, rfl, SqL.of eDl, at_of (j := 2 * i + 1) (by omega) (by rw [List.getElem?_map, g.2]; rfl), by show 2 ≤ sizeLine; decide, fun tt nt => ?_⟩
        have u := same_upd (T := T) (o := HO.tup [V.int ps[i].1, V.int ps[i].2]) nt
        have eD3 := u.k eD2
        have et : upd H2 tt (.tup [V.int ps[i].1, V.int ps[i].2]) tt = some (.tup (tv ps[i])) := upd_same
        have d3 := dpa_same u _ _ du
        have s3 := s2.trans u
        refine ⟨_, eD3, szl (by omega), same_mut s3 h2 eD3, us ++ [.ref tt], upd_same, ?_⟩
        rw [List.take_add_one, List.getElem?_eq_getElem hi, List.map_append]
        exact dpa_app (dpa_lst eD3 d3) (.cons (amD_dp (sqT_lst eD3 (SqT.of et))) .nil)
      · rintro H2 ⟨s2, us, eD2, du⟩
        rw [List.take_length] at du
        refine ⟨D2, us, rfl, .inl ⟨SqL.of eD2, fun l nl => ?_⟩⟩
        have u := same_upd (T := T) (o := HO.tup us) nl
        exact q l us _ (s1.trans (s2.trans u)) (SqT.of upd_same) (dpa_same u _ _ du)
def sp_p_read_deed (K : PySem.W.Frag) (T : Tb) (CP : Addr) : Sp := fun vs H Q _ => ∃ d : Dd, vs = [.str d.txt] ∧ DdOk d ∧ Ok T H ∧ ∀ a H', Sm T H H' → DdAt K H' a d → Q (.ref a) H'
theorem ok_p_read_deed {f : Addr} {fd : FuncData} {d_FORMS : Addr} {e_FORMS : Array DictEntry} {n_FORMS : Nat} (F : Fun K "read_deed" "read_deed" s_p_read_deed f fd) (B : Bn mg) (g_FORMS : mg "FORMS" = some (.ref d_FORMS)) (k_FORMS : KDict K w d_FORMS e_FORMS n_FORMS) (v_FORMS : ∀ q ∈ tab_FORMS, ∃ t, PySem.W.nsIn K d_FORMS q.1 = some (some (.ref t)) ∧ ∀ H, SqT K H t (q.2.map V.str)) {CP : Addr} (R_BadText : Err P w K mg base CP "BadText" "bad text") (F_p_read_things : Fx P w K mg base 6 "read_things" ["form", "texts"] (sp_p_read_things K T CP)) (F_p_read_way : Fx P w K mg base 5 "read_way" ["texts"] (sp_p_read_way K T CP)) : FnOk P w K mg base (L2.CX P w) 7 f fd ["text"] (sp_p_read_deed K T CP) := by
  refine F.okX sc_p_read_deed (fun vs H Q E h => ?_) (fun cdv A outer s H vs Q E hr h => ?_)
  · obtain ⟨d, rfl, _⟩ := h
    rfl
  · obtain ⟨d, rfl, hd, hok, q⟩ := h
    refine ⟨_, (pss_cons (ps_set (i := 1) sc_p_read_deed.nd rfl (.inl rfl) (pe_split (pv 0) pe_str))
      (pss_cons (ps_set (i := 2) sc_p_read_deed.nd rfl (.inl rfl) (pe_ix ix_list (pv 1) pe_int (fun _ _ => rfl)))
      (pss_cons (ps_if (pt_cmpR op_eq (pv 2) pe_str (nomark _)) (pss_one (ps_ret (pe_tup (pa_cons (pv 2) (pa_cons (pe_fx F_p_read_way (hr.mono (by decide)) (takes_of rfl rfl rfl rfl) (pa_cons (pe_slice sl_list (pv 1) (po_some pe_int) po_none) pa_nil)) pa_nil))))) pss_nil)
      (pss_cons (ps_if (pt_cmpR (op_notIn_kd k_FORMS) (pv 2) (pe_glob (v := .ref d_FORMS) (by rfl) g_FORMS rfl) (by rfl)) (pss_one (ps_raise rfl (takes_of rfl rfl rfl rfl) (pmk_err R_BadText (hr.mono (by decide)) (by rfl)))) pss_nil)
      (pss_one (ps_ret (pe_op op_catT (pe_tup (pa_cons (pv 2) pa_nil)) (pe_callTy call_tuple_of (by rfl) B.tuple_ (by decide +kernel) (pa_cons (pe_fx F_p_read_things (hr.mono (by decide)) (takes_of rfl rfl rfl rfl) (pa_cons (pe_ix ix_kdict (pe_glob (v := .ref d_FORMS) (by rfl) g_FORMS rfl) (pv 2) (fun _ _ => rfl)) (pa_cons (pe_slice sl_list (pv 1) (po_some pe_int) po_none) pa_nil))) pa_nil))))))))), ?_⟩
    have okp := Dd.ok_parts hd
    have lt : d.txt.length + 2 ≤ 2000 := by
      have := join_len (l := d.parts) fun x hx => by have := (okp.1 x hx).2; omega
      have := okp.2.2
      show (Txt.join " " d.parts).length + 2 ≤ 2000
      omega
    refine ⟨_, rfl, ⟨_, rfl⟩, _, " ", rfl, rfl, by decide, sz (by omega), fun pp np => ?_⟩
    rw [Dd.back hd]
    have u := same_upd (T := T) (o := HO.lst (d.parts.map V.str)) np
    have ep : upd H pp (.lst (d.parts.map V.str)) pp = some (.lst (d.parts.map V.str)) := upd_same
    dsimp only [gName, List.set]
    generalize upd H pp (.lst (d.parts.map V.str)) = H1 at *
    obtain ⟨w0, r0, e0⟩ : ∃ w0 r0, d.parts = w0 :: r0 := by
      cases e : d.parts with
      | nil => exact absurd e okp.2.1
      | cons a b => exact ⟨a, b, rfl⟩
    rw [e0] at ep
    refine ⟨_, rfl, pp, _, _, .str w0, rfl, rfl, SqL.of ep, at_of (j := 0) rfl rfl, ?_⟩
    dsimp only [gName, List.set]
    refine ⟨_, rfl, rfl, _, rfl, ?_⟩
    cases d with
    | lay ps =>
      have e1 : w0 = "lay" ∧ r0 = flX ps := by
        have e0 : ("lay" : Str) :: flX ps = w0 :: r0 := e0
        injection e0 with a b
        exact ⟨a.symm, b.symm⟩
      obtain ⟨rfl, rfl⟩ := e1
      rw [show decide (V.str "lay" = V.str "lay") = true from decide_eq_true rfl]
      refine iteT ⟨_, rfl, _, rfl, 1, rfl, pp, _, rfl, SqL.of ep, fun p2 n2 => ?_⟩
      have e2 : cutV (((("lay" : Str)) :: flX ps).map V.str) (some 1) none = (flX ps).map V.str := cut_drop _ 1 rfl
      rw [e2]
      have u2 := same_upd (T := T) (o := HO.lst ((flX ps).map V.str)) n2
      refine ⟨p2, ps, rfl, SqL.of upd_same, hd, (u.trans u2).ok hok, fun p3 us H3 s3 e3 d3 => ⟨by show 2 ≤ sizeLine; decide, fun t nt => ?_⟩⟩
      have u4 := same_upd (T := T) (o := HO.tup [V.str "lay", V.ref p3]) nt
      exact q t _ (u.trans (u2.trans (s3.trans u4))) ⟨p3, us, SqT.of upd_same, same_tup u4 e3, dpa_same u4 _ _ d3⟩
    | oth w1 xs =>
      have e1 : w0 = w1 ∧ r0 = xs.map svX := by
        have e0 : w1 :: xs.map svX = w0 :: r0 := e0
        injection e0 with a b
        exact ⟨a.symm, b.symm⟩
      obtain ⟨rfl, rfl⟩ := e1
      have hf := forms_w _ hd.1
      have lx := hf.2.1
      rw [List.length_map] at lx
      obtain ⟨tf, hn, hs⟩ := v_FORMS _ hd.1
      rw [show decide (V.str w0 = V.str "lay") = false from decide_eq_false fun z => hf.2.2 (V.str.inj z)]
      refine iteF ⟨_, rfl, w0, _, rfl, rfl, hn, _, rfl, ?_⟩
      refine iteF ⟨_, rfl, by show 1 ≤ sizeLine; decide, fun t1 n1 => ?_⟩
      have u1 := same_upd (T := T) (o := HO.tup [V.str w0]) n1
      have et1 : upd H1 t1 (.tup [V.str w0]) t1 = some (.tup [V.str w0]) := upd_same
      have ep1 := u1.k ep
      refine ⟨_, rfl, d_FORMS, w0, .ref tf, rfl, rfl, ⟨_, _, _, k_FORMS.at_, k_FORMS.lit, hn, rfl⟩, _, rfl, 1, rfl, pp, _, rfl, SqL.of ep1, fun p2 n2 => ?_⟩
      have e2 : cutV ((w0 :: xs.map svX).map V.str) (some 1) none = (xs.map svX).map V.str := cut_drop _ 1 rfl
      rw [e2]
      have u2 := same_upd (T := T) (o := HO.lst ((xs.map svX).map V.str)) n2
      refine ⟨tf, p2, xs, rfl, hs, SqL.of upd_same, hd.2, by omega, (u.trans (u1.trans u2)).ok hok, fun p3 H3 s3 e3 => ?_⟩
      refine ⟨p3, _, rfl, .inl ⟨SqL.of e3, fun l nl => ?_⟩⟩
      have u4 := same_upd (T := T) (o := HO.tup (xs.map svV)) nl
      refine ⟨t1, l, _, _, rfl, rfl, same_tup (u2.trans (s3.trans u4)) (SqT.of et1), SqT.of upd_same, List.cons_ne_nil _ _, sz (by rw [List.length_map]; show 1 + _ ≤ _; omega), fun z => ?_, fun _ p4 n4 => ?_⟩
      · have := congrArg List.length z
        rw [List.length_map] at this
        exact absurd this (by show ¬ xs.length = 0; omega)
      · have u5 := same_upd (T := T) (o := HO.tup ([V.str w0] ++ xs.map svV)) n4
        exact q p4 _ (u.trans (u1.trans (u2.trans (s3.trans (u4.trans u5))))) (SqT.of upd_same)

/-! ### the end of a law whose program raises, with tables of code objects -/
theorem walk_tabs {l : PySem.W.OpenLaw} {n k : Nat} {q : Program} {loose : List Str} {XP : (Str → Option Value) → Heap → Prop} {YP : World → Heap → Prop} {d : DefRec} {K : Params → PySem.W.Frag} {CX : World → CXT} {x : Str}
    (hn : l.most = some n) (hn2 : n ≤ sizeLine) (hdf : d.params.defaults = []) (hr : Room k callerA) (hY : ∀ (w : World) (h : Heap), YP w h → (K w.params).In h)
    (F : ∀ (w : World) (mg : Str → Option Value) (fa : Addr) (h : Heap), YP w h → (K w.params).In h → h.Ns mainGlobals mg → mg d.name = some (.ref fa) →
      (∀ (y : Str) (c P : Addr), ((recsOf q).any fun e => e.name == y) = true → PySem.W.tabIn (K w.params) y = some (c, P) → PySem.W.CodeHd h c P ∧ h.get? P = some { cls := .none, data := .fields #[] }) → LamX.LawAtS l w (K w.params) (CX w) k n x mg fa h)
    (hCX : ∀ (w : World) (H : Hp) (s : Shared) (e : Value) (s' : Shared), CX w [] H s (fun _ _ _ => False) e s' → False) :
    PySem.W.WalkO q loose XP YP l.row.toRowW d [] (fun f vs => PySem.call f vs) := by
  refine Att.attach_callB hn hdf fun w s₀ s₁ mg mb fa o pm cd doc a vs ns G Y ho hd hcd hmg hobj hints hlen hbits hg => ?_
  have KX := hY w _ Y
  have tabs : ∀ (y : Str) (c P : Addr), ((recsOf q).any fun e => e.name == y) = true → PySem.W.tabIn (K w.params) y = some (c, P) → PySem.W.CodeHd s₁.heap c P ∧ s₁.heap.get? P = some { cls := .none, data := .fields #[] } := fun y c P ha ht => by
    cases hf : (recsOf q).find? (fun e => e.name == y) with
    | none =>
      obtain ⟨e, he, hy⟩ := List.any_eq_true.mp ha
      exact absurd hy (List.find?_eq_none.mp hf e he)
    | some e => exact PySem.W.tab_of G.T KX hf ht
  obtain ⟨fd, cs, sp, hT, nT, C, hb, hsp, hF⟩ := F w mg fa _ Y KX G.T.g hmg tabs
  exact LamX.law_callTs KX G.T.g G.T.b G.T.builtins G.T.nolimit hg hT nT C G.T.bmain hobj hints (Nat.le_trans hlen hn2) hr hF hb (fun H hH hS => hsp H a ns hlen hbits hH hS) fun H e s' => hCX w H s₁ e s'
theorem tab_in {K : PySem.W.Frag} {y : Str} {f c P : Addr} {o : Obj} {fd : FuncData} {e : Value} {dd : Option Addr} {vs : Array Value} {sl : Array (Option Value)} (h1 : PySem.W.nsIn K mainGlobals y = some (some (.ref f))) (h2 : K.lookup f = some o) (h3 : o.data = .func fd) (h4 : fd.code = .ref c)
    (h5 : K.lookup c = some ⟨e, dd, .fields vs, sl⟩) (h6 : vs[11]? = some (.ref P)) : PySem.W.tabIn K y = some (c, P) := by
  obtain ⟨o1, o2, o3, o4⟩ := o
  obtain rfl : o3 = .func fd := h3
  unfold PySem.W.tabIn
  simp only [h1, h2, h4, h5, h6]
theorem okG0 {H : Hp} {P : Addr} (h : H P = some (.tbl #[])) : OkP H (P, none) := ⟨#[], h, by first | trivial | constructor⟩
theorem okS0 {H : Hp} {P : Addr} {q : Str} (h : H P = some (.tbl #[])) : OkP H (P, some q) := ⟨#[], h, by first | trivial | constructor, fun pos cv e => by cases e⟩
theorem tup_const {K : PySem.W.Frag} {a : Addr} {od : Option Addr} {xs : List V} {its : Array Value} {n : Nat} {sl : Array (Option Value)} (h : K.lookup a = some ⟨.type "tuple", od, .seq its n, sl⟩) (hs : its.size ≤ sizeLine) (hv : Vals xs its.toList) : ∀ H, SqT K H a xs := fun _ => .inr ⟨_, its, n, h, rfl, rfl, hs, hv⟩
theorem gx_lam {base : Heap} {mg : Str → Option Value} {c P : Addr} (h : LamX.TabB base mg c P) : GxR.TabB base mg c P := ⟨h.code, h.bm, h.gP⟩

theorem cut_mid {ds : List Int} {lo m : Nat} {z1 z2 : Int} (h1 : z1 = (lo : Int)) (h2 : z2 = ((lo + m : Nat) : Int)) (hl : lo + m ≤ ds.length) : cutV (ds.map V.int) (some z1) (some z2) = ((ds.drop lo).take m).map V.int := by
  subst h1 h2
  unfold cutV
  rw [HT.sIx_nat, HT.sIx_nat, List.length_map, Nat.min_eq_left (by omega), Nat.min_eq_left (by omega), Nat.add_sub_cancel_left, List.map_take, List.map_drop]

/-! ### the law's texts of deeds -/
theorem inV_strs (n : Str) (l : List Str) : inV (.str n) (l.map V.str) = decide (n ∈ l) := by
  unfold inV
  induction l with
  | nil => simp
  | cons x l ih =>
    rw [List.map_cons, List.any_cons, ih]
    show ((x == n) || _) = _
    by_cases h : x = n
    · subst h
      simp
    · have e : (x == n) = false := by simpa using h
      rw [e, Bool.false_or]
      refine decide_eq_decide.mpr ?_
      rw [List.mem_cons]
      exact ⟨.inr, fun z => z.resolve_left fun y => h y.symm⟩
theorem Drawn.get : ∀ {ds qs : List Int} {i : Nat} {q : Int}, Drawn ds qs → qs[i]? = some q → ∃ d, ds[i]? = some d ∧ 0 ≤ d ∧ d < q
  | [], [], i, q, _, e => by simp at e
  | [], _ :: _, _, _, h, _ => h.elim
  | _ :: _, [], _, _, h, _ => h.elim
  | d :: _, _ :: _, 0, q, h, e => by
    obtain rfl := Option.some.inj e
    exact ⟨d, rfl, h.1.1, h.1.2⟩
  | _ :: ds, _ :: qs, i + 1, q, h, e => Drawn.get (ds := ds) (qs := qs) h.2 e
def ABC : Str := "abcdefghijklmnopqrstuvwxyz"
def chF (i : Int) : Str := ⟨#[97 + i.toNat]⟩
theorem abc_at {i : Int} (h0 : 0 ≤ i) (h1 : i < 26) : atI ABC.cps.toList i = some (97 + i.toNat) := by
  have h : ∀ n : Fin 26, atI ABC.cps.toList ((n.val : Nat) : Int) = some (97 + n.val) := by decide +kernel
  have := h ⟨i.toNat, by omega⟩
  rw [show (((⟨i.toNat, by omega⟩ : Fin 26).val : Nat) : Int) = i from by show ((i.toNat : Nat) : Int) = i; omega] at this
  exact this
theorem abc_len : ABC.length ≤ sizeLine := by decide +kernel
theorem join0_tl : ∀ l : List Int, TL.tl (Txt.join "" (l.map chF)) = l.map fun z => 97 + z.toNat
  | [] => by rw [TL.join_eq]; rfl
  | [x] => by rw [TL.join_eq]; rfl
  | x :: y :: r => by
    have ih := join0_tl (y :: r)
    rw [TL.join_eq] at ih ⊢
    show TL.tl (chF x ++ "" ++ Str.join "" ((y :: r).map chF)) = _
    rw [TL.tl_append, TL.tl_append, ih]
    rfl
theorem name_of {zs : List Int} (h1 : 1 ≤ zs.length) (h8 : zs.length ≤ 8) (h : ∀ z ∈ zs, 0 ≤ z ∧ z < 26) : nameB (Txt.join "" (zs.map chF)) = true := by
  have e := join0_tl zs
  have let_ : ∀ n : Fin 26, letB (97 + n.val) = true := by decide +kernel
  have hl : (Txt.join "" (zs.map chF)).length = zs.length := by rw [TL.len_tl, e, List.length_map]
  unfold nameB
  rw [hl, decide_eq_true h1, decide_eq_true h8, Bool.true_and, Bool.true_and, show (Txt.join "" (zs.map chF)).cps.toList = zs.map fun z => 97 + z.toNat from e, List.all_map]
  exact List.all_eq_true.mpr fun z hz => let_ ⟨z.toNat, by have := h z hz; omega⟩
theorem sum_leN {k : Nat} : ∀ {l : List Str}, (∀ x ∈ l, x.length ≤ k) → (l.map (·.length)).sum ≤ l.length * k
  | [], _ => by simp
  | x :: l, h => by
    have a := h x List.mem_cons_self
    have b := sum_leN (l := l) fun y hy => h y (List.mem_cons_of_mem _ hy)
    rw [List.map_cons, List.sum_cons, List.length_cons, Nat.add_mul, Nat.one_mul]
    omega
theorem len2 (x y : Str) : (x ++ y).length = x.length + y.length := by
  rw [TL.len_tl, TL.tl_append, List.length_append, ← TL.len_tl, ← TL.len_tl]
theorem len3 (x y z : Str) : (x ++ y ++ z).length = x.length + y.length + z.length := by rw [len2, len2]
def sp_l_deed_text (K : PySem.W.Frag) (T : Tb) : Sp := fun vs H Q _ => ∃ (a : Addr) (d : Dd), vs = [.ref a] ∧ DdAt K H a d ∧ DdOk d ∧ ∀ H', Sm T H H' → Q (.str d.txt) H'
theorem ok_l_deed_text {f : Addr} {fd : FuncData} (F : Fun K "_law_deed_text" "_law_deed_text" s_l_deed_text f fd) (B : Bn mg) : FnOk P w K mg base CX0 1 f fd ["_law_deed"] (sp_l_deed_text K T) := by
  refine F.ok sc_l_deed_text (fun vs H Q E h => ?_) (fun cdv A outer s H vs Q E hr h => ?_)
  · obtain ⟨a, d, rfl, _⟩ := h
    rfl
  · obtain ⟨a, d, rfl, hd, hok, q⟩ := h
    refine ⟨_, (pss_cons (ps_if (pt_cmpR op_ne (pe_ix ix_tup (pv 0) pe_int (fun _ _ => rfl)) pe_str (nomark _)) (pss_one (ps_ret (pe_join pe_str (pe_lc (own := [("_law_part", 1)]) (g := (gName 1)) (tt := tYes) (by rfl) sc_l_deed_text.nd (pi_tup (pv 0)) (blkOk_by (own := [("_law_part", 1)]) (N := ["_law_deed", "_law_part", "_law_count", "_law_toil"]) (sc := (defScope s_l_deed_text)) (by decide +kernel)) (fun _ _ _ _ _ => (pg_name (i := 1) sc_l_deed_text.nd rfl (.inl rfl))) (fun _ _ _ _ _ => pts_nil) (fun _ _ _ _ _ => (pe_callTy (r := rStrA) call_strA (by rfl) B.str_ (by decide +kernel) (pa_cons (pv 1) pa_nil))))))) pss_nil)
      (pss_one (ps_ret (pe_op op_add_str pe_str (pe_join pe_str (pe_lc (own := [("_law_count", 2), ("_law_toil", 3)]) (g := (gTup K 2 (gCons (gName 2) (gCons (gName 3) gNil)))) (tt := tYes) (by rfl) sc_l_deed_text.nd (pi_tup (pe_ix ix_tup (pv 0) pe_int (fun _ _ => rfl))) (blkOk_by (own := [("_law_count", 2), ("_law_toil", 3)]) (N := ["_law_deed", "_law_part", "_law_count", "_law_toil"]) (sc := (defScope s_l_deed_text)) (by decide +kernel)) (fun _ _ _ _ _ => (pg_tup rfl (pgs_cons (pg_name (i := 2) sc_l_deed_text.nd rfl (.inl rfl)) (pgs_cons (pg_name (i := 3) sc_l_deed_text.nd rfl (.inl rfl)) pgs_nil)))) (fun _ _ _ _ _ => pts_nil) (fun _ _ _ _ _ => (pe_op op_add_str (pe_op op_add_str (pe_callTy (r := rStrA) call_strA (by rfl) B.str_ (by decide +kernel) (pa_cons (pv 2) pa_nil)) pe_str) (pe_callTy (r := rStrA) call_strA (by rfl) B.str_ (by decide +kernel) (pa_cons (pv 3) pa_nil)))))))))), ?_⟩
    have okp := Dd.ok_parts hok
    cases d with
    | lay ps =>
      obtain ⟨t, us, h1, h2, h3⟩ := hd
      refine ⟨_, rfl, a, _, _, .str "lay", rfl, rfl, h1, at_of (j := 0) rfl rfl, rfl, _, rfl, ?_⟩
      rw [show decide (V.str "lay" = V.str "lay") = true from decide_eq_true rfl]
      have lus := dpa_len h3
      rw [List.length_map] at lus
      have pl : ∀ p ∈ ps, (itx p.1 ++ " " ++ itx p.2).length ≤ 21 := fun p hp => by
        have g := hok.2 p hp
        have a1 := itx_small g.1
        have a2 := itx_small g.2
        have e1 : (" " : Str).length = 1 := by decide
        have e := len3 (itx p.1) " " (itx p.2)
        omega
      refine iteF ⟨⟨_, rfl⟩, _, rfl, a, _, _, .ref t, rfl, rfl, h1, at_of (j := 1) rfl rfl, t, rfl, ⟨us, h2⟩, fun Dl hDl => lc_it (walk_tup (xs := us)) (Qd := _) (fun i H' => Sm T H H' ∧ H' Dl = some (.lst (((ps.map fun p => itx p.1 ++ " " ++ itx p.2).take i).map V.str))) ⟨same_upd hDl, upd_same⟩ (fun i H' _ z => same_tup z.1 h2) ?_ ?_⟩
      · rintro i v H4 H5 hi ⟨s4, eD⟩ ⟨rfl, hv⟩
        obtain ⟨u, gu, du⟩ := dpa_get h3 (i := i) (d := amD ps[i]) (by rw [List.getElem?_map, List.getElem?_eq_getElem (by omega)]; rfl)
        rw [gu] at hv
        cases hv
        obtain ⟨q9, rfl, sq⟩ := pd_at du
        have g := hok.2 _ (List.getElem_mem (show i < ps.length by omega))
        have b := pl _ (List.getElem_mem (show i < ps.length by omega))
        have e3 := len3 (itx ps[i].1) " " (itx ps[i].2)
        have e2 := len2 (itx ps[i].1) " "
        refine ⟨q9, _, rfl, same_tup s4 sq, rfl, _, _, rfl, _, _, rfl, rfl, ?_⟩
        refine ⟨rfl, tyes_i ?_⟩
        refine ⟨_, rfl, .inl ps[i].1, rfl, nine_log g.1, _, _, rfl, rfl, sz (by show (itx ps[i].1).length + (" " : Str).length ≤ _; omega), _, rfl, .inl ps[i].2, rfl, nine_log g.2, _, _, rfl, rfl, sz (by show (itx ps[i].1 ++ " ").length + (itx ps[i].2).length ≤ _; omega), ?_⟩
        refine ⟨_, eD, szl (by have := hok.1.2; rw [List.length_map, List.length_take, List.length_map]; omega), same_mut s4 hDl eD, ?_⟩
        rw [upd_same, List.take_add_one, List.getElem?_map, List.getElem?_eq_getElem (show i < ps.length by omega), List.map_append]
        rfl
      · rintro H4 ⟨s4, eD⟩
        rw [lus, show ps.length = (ps.map fun p => itx p.1 ++ " " ++ itx p.2).length from (List.length_map ..).symm, List.take_length] at eD
        have hne : ps ≠ [] := fun z => by have := hok.1.1; rw [z] at this; exact absurd this (by decide)
        have sb : ((ps.map fun p => itx p.1 ++ " " ++ itx p.2).map (·.length)).sum ≤ (ps.map fun p => itx p.1 ++ " " ++ itx p.2).length * 21 := sum_leN fun x hx => by
          obtain ⟨p, hp, rfl⟩ := List.mem_map.mp hx
          exact pl p hp
        have jl := join_len (l := ps.map fun p => itx p.1 ++ " " ++ itx p.2) fun x hx => by
          obtain ⟨p, hp, rfl⟩ := List.mem_map.mp hx
          have := pl p hp
          omega
        have l20 := hok.1.2
        have e1 : (" " : Str).length = 1 := by decide
        have e4 : ("lay " : Str).length = 4 := by decide
        have lm : (ps.map fun p => itx p.1 ++ " " ++ itx p.2).length = ps.length := List.length_map ..
        rw [lm] at sb jl
        refine ⟨_, Dl, _, rfl, rfl, .inl (SqL.of eD), by rw [lm, e1]; omega, _, _, rfl, rfl, sz (by rw [e4]; omega), ?_⟩
        rw [lay_txt2 hne]
        exact q _ s4
    | oth w0 xs =>
      have hd : SqT K H a (.str w0 :: xs.map svV) := hd
      refine ⟨_, rfl, a, _, _, .str w0, rfl, rfl, hd, at_of (j := 0) rfl rfl, rfl, _, rfl, ?_⟩
      rw [show decide (V.str w0 = V.str "lay") = false from decide_eq_false fun z => (forms_w _ hok.1).2.2 (V.str.inj z)]
      have hz : ∀ x ∈ (Sum.inr w0 :: xs : List Sv), SvB x := fun x hx => (List.mem_cons.mp hx).elim (fun z => by rw [z]; trivial) fun z => svB_of (hok.2 x z)
      have lx := (forms_w _ hok.1).2.1.2
      rw [List.length_map] at lx
      refine iteT ⟨⟨_, rfl⟩, _, rfl, a, rfl, ⟨_, hd⟩, fun Dl hDl => lc_it (walk_tup (xs := (Sum.inr w0 :: xs : List Sv).map svV)) (Qd := _) (fun i H' => Sm T H H' ∧ H' Dl = some (.lst ((((Sum.inr w0 :: xs : List Sv).map svX).take i).map V.str))) ⟨same_upd hDl, upd_same⟩ (fun i H' _ z => same_tup z.1 hd) ?_ ?_⟩
      · rintro i v H4 H5 hi ⟨s4, eD⟩ ⟨rfl, hv⟩
        rw [List.length_map] at hi
        rw [List.getElem?_map, List.getElem?_eq_getElem hi] at hv
        cases hv
        refine ⟨rfl, tyes_i ?_⟩
        refine ⟨_, rfl, _, rfl, hz _ (List.getElem_mem hi), ?_⟩
        refine ⟨_, eD, szl (by rw [List.length_map, List.length_take, List.length_map]; show min i (xs.length + 1) < 10000; omega), same_mut s4 hDl eD, ?_⟩
        rw [upd_same, List.take_add_one, List.getElem?_map, List.getElem?_eq_getElem hi, List.map_append]
        rfl
      · rintro H4 ⟨s4, eD⟩
        rw [List.length_map, show (Sum.inr w0 :: xs : List Sv).length = ((Sum.inr w0 :: xs : List Sv).map svX).length from (List.length_map ..).symm, List.take_length] at eD
        have sb : (((Sum.inr w0 :: xs : List Sv).map svX).map (·.length)).sum ≤ ((Sum.inr w0 :: xs : List Sv).map svX).length * 10 := sum_le10 fun x hx => (okp.1 x hx).2
        have e1 : (" " : Str).length = 1 := by decide
        have lm : ((Sum.inr w0 :: xs : List Sv).map svX).length = xs.length + 1 := by rw [List.length_map]; rfl
        rw [lm] at sb
        exact ⟨_, Dl, (Sum.inr w0 :: xs : List Sv).map svX, rfl, rfl, .inl (SqL.of eD), by rw [lm, e1]; omega, q _ s4⟩
def sp_l_any_number (K : PySem.W.Frag) (T : Tb) : Sp := fun vs H Q _ => ∃ (a : Addr) (k s g : Int), vs = [.ref a] ∧ SqL K H a [.int k, .int s, .int g] ∧ (0 ≤ k ∧ k < 8) ∧ (0 ≤ s ∧ s < 1000) ∧ (0 ≤ g ∧ g < 10 ^ 9) ∧ ∀ i H', Sm T H H' → Nine i → Q (.int i) H'
theorem ok_l_any_number {f : Addr} {fd : FuncData} (F : Fun K "_law_any_number" "_law_any_number" s_l_any_number f fd) : FnOk P w K mg base CX0 1 f fd ["_law_drawn"] (sp_l_any_number K T) := by
  refine F.ok sc_l_any_number (fun vs H Q E h => ?_) (fun cdv A outer s H vs Q E hr h => ?_)
  · obtain ⟨a, k, s, g, rfl, _⟩ := h
    rfl
  · obtain ⟨a, k, s9, g, rfl, ha, hk, hs, hg, q⟩ := h
    refine ⟨_, (pss_cons (ps_asg (pv 0) (pg_unl rfl (pgs_cons (pg_name (i := 1) sc_l_any_number.nd rfl (.inl rfl)) (pgs_cons (pg_name (i := 2) sc_l_any_number.nd rfl (.inl rfl)) (pgs_cons (pg_name (i := 3) sc_l_any_number.nd rfl (.inl rfl)) pgs_nil)))))
      (pss_one (ps_ret (pe_ix ix_list (pe_lst (pa_cons (pe_op op_mod (pv 2) pe_int) (pa_cons (pv 2) (pa_cons (pv 3) (pa_cons (pe_un un_neg (pv 2)) (pa_cons (pe_un un_neg (pv 3)) (pa_cons pe_int (pa_cons (pe_un un_neg pe_int) (pa_cons pe_int pa_nil))))))))) (pv 1) (fun _ _ => rfl))))), ?_⟩
    refine ⟨_, rfl, a, _, rfl, ha, rfl, _, _, rfl, _, _, rfl, _, _, rfl, rfl, ?_⟩
    dsimp only [gName, List.set]
    have key : ∃ (v : Int) (j : Nat), k = (j : Int) ∧ ([V.int (s9 % 14), V.int s9, V.int g, V.int (-s9), V.int (-g), V.int 999999999, V.int (-999999999), V.int 0] : List V)[j]? = some (.int v) ∧ Nine v := by
      rcases (by omega : k = 0 ∨ k = 1 ∨ k = 2 ∨ k = 3 ∨ k = 4 ∨ k = 5 ∨ k = 6 ∨ k = 7) with e | e | e | e | e | e | e | e
      · exact ⟨_, 0, e, rfl, by unfold Nine; omega⟩
      · exact ⟨_, 1, e, rfl, by unfold Nine; omega⟩
      · exact ⟨_, 2, e, rfl, by unfold Nine; omega⟩
      · exact ⟨_, 3, e, rfl, by unfold Nine; omega⟩
      · exact ⟨_, 4, e, rfl, by unfold Nine; omega⟩
      · exact ⟨_, 5, e, rfl, by unfold Nine; omega⟩
      · exact ⟨_, 6, e, rfl, by unfold Nine; omega⟩
      · exact ⟨_, 7, e, rfl, by unfold Nine; omega⟩
    obtain ⟨v, j, ek, gv, nv⟩ := key
    refine ⟨_, rfl, _, _, rfl, rfl, (by show (0 : Int) < 14; decide), _, rfl, _, rfl, _, rfl, _, rfl, _, rfl, _, rfl, _, rfl, by show 8 ≤ sizeLine; decide, fun l nl => ?_⟩
    refine ⟨_, rfl, l, _, _, .int v, rfl, rfl, SqL.of upd_same, at_of ek gv, q v _ (same_upd nl) nv⟩
def sp_l_any_name (K : PySem.W.Frag) (T : Tb) : Sp := fun vs H Q _ => ∃ c : Int, vs = [.int c] ∧ ∀ n H', Sm T H H' → nameB n = true → Q (.str n) H'
theorem ok_l_any_name {f : Addr} {fd : FuncData} (F : Fun K "_law_any_name" "_law_any_name" s_l_any_name f fd) (F_l_draws : Fn P w K mg base 1 "_law_draws" ["_law_cell_here", "_law_parts"] (sp_l_draws K T)) : FnOk P w K mg base CX0 2 f fd ["_law_cell_here"] (sp_l_any_name K T) := by
  refine F.ok sc_l_any_name (fun vs H Q E h => ?_) (fun cdv A outer s H vs Q E hr h => ?_)
  · obtain ⟨c, rfl, _⟩ := h
    rfl
  · obtain ⟨c, rfl, q⟩ := h
    refine ⟨_, (pss_cons (ps_set (i := 1) sc_l_any_name.nd rfl (.inl rfl) (pe_fn F_l_draws (hr.mono (by decide)) (pa_cons (pv 0) (pa_cons (pe_op op_cat (pe_lst (pa_cons pe_int pa_nil)) (pe_op op_rep (pe_lst (pa_cons pe_int pa_nil)) pe_int)) pa_nil))))
      (pss_one (ps_ret (pe_join pe_str (pe_lc (own := [("_law_one", 2)]) (g := (gName 2)) (tt := tYes) (by rfl) sc_l_any_name.nd (pi_list (pe_slice sl_list (pv 1) (po_some pe_int) (po_some (pe_op op_add pe_int (pe_ix ix_list (pv 1) pe_int (fun _ _ => rfl)))))) (blkOk_by (own := [("_law_one", 2)]) (N := ["_law_cell_here", "_law_drawn", "_law_one"]) (sc := (defScope s_l_any_name)) (by decide +kernel)) (fun _ _ _ _ _ => (pg_name (i := 2) sc_l_any_name.nd rfl (.inl rfl))) (fun _ _ _ _ _ => pts_nil) (fun _ _ _ _ _ => (pe_ix (r := rIxS) ix_str pe_str (pv 2) (fun _ _ => rfl)))))))), ?_⟩
    refine ⟨_, rfl, by show 1 ≤ sizeLine; decide, fun l1 n1 => ⟨by show 1 ≤ sizeLine; decide, fun l2 n2 => ?_⟩⟩
    have u1 := same_upd (T := T) (o := HO.lst [V.int 8]) n1
    have u2 := same_upd (T := T) (o := HO.lst [V.int 26]) n2
    refine ⟨l2, 8, _, rfl, rfl, upd_same, by decide, by decide, by show 1 * 8 ≤ sizeLine; decide, fun l3 n3 => ?_⟩
    have u3 := same_upd (T := T) (o := HO.lst (List.replicate (8 : Int).toNat [V.int 26]).flatten) n3
    refine ⟨l1, l3, _, _, rfl, rfl, u3.k (u2.k upd_same), upd_same, by show 1 + 8 ≤ sizeLine; decide, fun l4 n4 => ?_⟩
    have u4 := same_upd (T := T) (o := HO.lst ([V.int 8] ++ (List.replicate (8 : Int).toNat [V.int 26]).flatten)) n4
    refine ⟨c, l4, [8, 26, 26, 26, 26, 26, 26, 26, 26], rfl, SqL.of upd_same, by decide, by decide, fun pd H1 ds s1 np eD hd => ?_⟩
    have s0 := u1.trans (u2.trans (u3.trans (u4.trans s1)))
    dsimp only [gName, List.set]
    have ld := hd.length
    obtain ⟨n, gn, n0, n8⟩ := hd.get (i := 0) rfl
    have all26 : ∀ z ∈ (ds.drop 1).take (n.toNat + 1), 0 ≤ z ∧ z < 26 := fun z hz => by
      obtain ⟨i, hi, e⟩ := List.getElem_of_mem (List.mem_of_mem_take hz)
      rw [List.getElem_drop] at e
      rw [List.length_drop, ld] at hi
      have hi8 : i < 8 := hi
      obtain ⟨y, gy, y0, y26⟩ := hd.get (i := 1 + i) (q := 26) (by
        rcases (by omega : i = 0 ∨ i = 1 ∨ i = 2 ∨ i = 3 ∨ i = 4 ∨ i = 5 ∨ i = 6 ∨ i = 7) with rfl | rfl | rfl | rfl | rfl | rfl | rfl | rfl <;> rfl)
      rw [List.getElem?_eq_getElem (by rw [ld]; show 1 + i < 9; omega)] at gy
      rw [← e, Option.some.inj gy]
      exact ⟨y0, y26⟩
    have lzs : ((ds.drop 1).take (n.toNat + 1)).length = n.toNat + 1 := by
      rw [List.length_take, List.length_drop, ld]
      show min (n.toNat + 1) 8 = _
      omega
    refine ⟨⟨_, rfl⟩, _, rfl, 1, rfl, _, rfl, pd, _, _, .int n, rfl, rfl, SqL.of eD, at_of (j := 0) rfl (by rw [List.getElem?_map, gn]; rfl), _, _, rfl, rfl, _, rfl, pd, _, rfl, SqL.of eD, fun p5 n5 => ?_⟩
    have ec : cutV (ds.map V.int) (some 1) (some (2 + n)) = ((ds.drop 1).take (n.toNat + 1)).map V.int := cut_mid (lo := 1) (m := n.toNat + 1) rfl (by omega) (by rw [ld]; show 1 + (n.toNat + 1) ≤ 9; omega)
    rw [ec]
    generalize hzs : (ds.drop 1).take (n.toNat + 1) = zs at *
    have u5 := same_upd (T := T) (o := HO.lst (zs.map V.int)) n5
    have e5 : upd H1 p5 (.lst (zs.map V.int)) p5 = some (.lst (zs.map V.int)) := upd_same
    generalize upd H1 p5 (.lst (zs.map V.int)) = H2 at *
    refine ⟨p5, rfl, ⟨_, SqL.of e5⟩, fun Dl hDl => lc_list (K := K) (a := p5) (xs := zs.map V.int) (Qd := _) (fun i H' => Sm T H2 H' ∧ H' Dl = some (.lst (((zs.map chF).take i).map V.str))) ⟨same_upd hDl, upd_same⟩ (fun i H' _ z => SqL.of (z.1.k e5)) ?_ ?_⟩
    · rintro i v H4 hi ⟨s4, eDl⟩
      have hil : i < zs.length := by have := (List.getElem?_eq_some_iff.mp hi).1; rw [List.length_map] at this; exact this
      rw [List.getElem?_map, List.getElem?_eq_getElem hil] at hi
      cases hi
      have z26 := all26 _ (List.getElem_mem hil)
      refine ⟨rfl, tyes_i ?_⟩
      refine ⟨_, rfl, ABC, zs[i], _, rfl, rfl, abc_len, abc_at z26.1 z26.2, ?_⟩
      refine ⟨_, eDl, szl (by rw [List.length_map, List.length_take, List.length_map]; omega), same_mut s4 hDl eDl, ?_⟩
      rw [upd_same, List.take_add_one, List.getElem?_map, List.getElem?_eq_getElem hil, List.map_append]
      rfl
    · rintro H4 ⟨s4, eDl⟩
      rw [List.length_map, show zs.length = (zs.map chF).length from (List.length_map ..).symm, List.take_length] at eDl
      have sb : ((zs.map chF).map (·.length)).sum ≤ (zs.map chF).length * 1 := sum_leN fun x hx => by
        obtain ⟨z, _, rfl⟩ := List.mem_map.mp hx
        exact Nat.le_refl 1
      have lm : (zs.map chF).length = n.toNat + 1 := by rw [List.length_map, lzs]
      rw [lm] at sb
      have e0 : ("" : Str).length = 0 := by decide
      refine ⟨_, Dl, zs.map chF, rfl, rfl, .inl (SqL.of eDl), by rw [lm, e0]; omega, q _ _ (s0.trans (u5.trans s4)) (name_of (by omega) (by omega) all26)⟩
def prF (mk f1 f2 : Int) (i : Nat) : Int × Int := if (i : Int) = mk then (f1, f2) else (f2, 1 + (i : Int))
theorem ten_ok : ∀ wd ∈ [("hire" : Str), "dismiss", "send", "call", "stay", "swap", "pace", "go", "outs", "lay"], wd ≠ "lay" → (if wd ∈ [("go" : Str), "outs"] then ((wd, ["number", "number"]) : Str × List Str) ∈ tab_FORMS else if wd ∈ [("hire" : Str), "send", "pace"] then ((wd, ["name", "number"]) : Str × List Str) ∈ tab_FORMS else ((wd, ["name"]) : Str × List Str) ∈ tab_FORMS) := by decide +kernel
def sp_l_any_deed (K : PySem.W.Frag) (T : Tb) : Sp := fun vs H Q _ => ∃ c : Int, vs = [.int c] ∧ ∀ a d H', Sm T H H' → DdAt K H' a d → DdOk d → Q (.ref a) H'
theorem ok_l_any_deed {f : Addr} {fd : FuncData} (F : Fun K "_law_any_deed" "_law_any_deed" s_l_any_deed f fd) (B : Bn mg) (F_l_draws : Fn P w K mg base 1 "_law_draws" ["_law_cell_here", "_law_parts"] (sp_l_draws K T)) (F_l_split : Fn P w K mg base 1 "_law_split" ["_law_cell_here", "_law_many_here"] (sp_l_split K T)) (F_l_any_number : Fn P w K mg base 1 "_law_any_number" ["_law_drawn"] (sp_l_any_number K T)) (F_l_any_name : Fn P w K mg base 2 "_law_any_name" ["_law_cell_here"] (sp_l_any_name K T)) : FnOk P w K mg base CX0 3 f fd ["_law_cell_here"] (sp_l_any_deed K T) := by
  refine F.ok sc_l_any_deed (fun vs H Q E h => ?_) (fun cdv A outer s H vs Q E hr h => ?_)
  · obtain ⟨c, rfl, _⟩ := h
    rfl
  · obtain ⟨c, rfl, q⟩ := h
    refine ⟨_, (pss_cons (ps_asg (pe_fn F_l_split (hr.mono (by decide)) (pa_cons (pv 0) (pa_cons pe_int pa_nil))) (pg_unl rfl (pgs_cons (pg_name (i := 1) sc_l_any_deed.nd rfl (.inl rfl)) (pgs_cons (pg_name (i := 2) sc_l_any_deed.nd rfl (.inl rfl)) (pgs_cons (pg_name (i := 3) sc_l_any_deed.nd rfl (.inl rfl)) (pgs_cons (pg_name (i := 4) sc_l_any_deed.nd rfl (.inl rfl)) pgs_nil))))))
      (pss_cons (ps_set (i := 5) sc_l_any_deed.nd rfl (.inl rfl) (pe_lst (pa_cons pe_str (pa_cons pe_str (pa_cons pe_str (pa_cons pe_str (pa_cons pe_str (pa_cons pe_str (pa_cons pe_str (pa_cons pe_str (pa_cons pe_str (pa_cons pe_str (pa_cons pe_str pa_nil)))))))))))))
      (pss_cons (ps_set (i := 6) sc_l_any_deed.nd rfl (.inl rfl) (pe_ix ix_list (pv 5) (pe_ix ix_list (pe_fn F_l_draws (hr.mono (by decide)) (pa_cons (pv 1) (pa_cons (pe_lst (pa_cons pe_int pa_nil)) pa_nil))) pe_int (fun _ _ => rfl)) (fun _ _ => rfl)))
      (pss_cons (ps_set (i := 7) sc_l_any_deed.nd rfl (.inl rfl) (pe_fn F_l_draws (hr.mono (by decide)) (pa_cons (pv 2) (pa_cons (pe_lst (pa_cons pe_int (pa_cons pe_int (pa_cons (pe_op op_pow pe_int pe_int) (pa_cons pe_int (pa_cons pe_int (pa_cons (pe_op op_pow pe_int pe_int) pa_nil))))))) pa_nil))))
      (pss_cons (ps_set (i := 8) sc_l_any_deed.nd rfl (.inr rfl) (pe_fn F_l_any_number (hr.mono (by decide)) (pa_cons (pe_slice sl_list (pv 7) po_none (po_some pe_int)) pa_nil)))
      (pss_cons (ps_set (i := 9) sc_l_any_deed.nd rfl (.inr rfl) (pe_fn F_l_any_number (hr.mono (by decide)) (pa_cons (pe_slice sl_list (pv 7) (po_some pe_int) po_none) pa_nil)))
      (pss_cons (ps_set (i := 10) sc_l_any_deed.nd rfl (.inl rfl) (pe_fn F_l_any_name (hr.mono (by decide)) (pa_cons (pv 3) pa_nil)))
      (pss_cons (ps_if (pt_cmpR op_eq (pv 6) pe_str (nomark _)) (pss_cons (ps_asg (pe_fn F_l_draws (hr.mono (by decide)) (pa_cons (pv 4) (pa_cons (pe_lst (pa_cons pe_int (pa_cons pe_int pa_nil))) pa_nil))) (pg_unl rfl (pgs_cons (pg_name (i := 11) sc_l_any_deed.nd rfl (.inl rfl)) (pgs_cons (pg_name (i := 12) sc_l_any_deed.nd rfl (.inr rfl)) pgs_nil))))
      (pss_one (ps_ret (pe_tup (pa_cons pe_str (pa_cons (pe_callTy call_tuple_of (by rfl) B.tuple_ (by decide +kernel) (pa_cons (pe_lc (own := [("_law_k", 13)]) (g := (gName 13)) (tt := tYes) (by rfl) sc_l_any_deed.nd (pi_range1 (by rfl) B.range_ (pa_cons (pe_op op_add (pv 11) pe_int) pa_nil)) (blkOk_by (own := [("_law_k", 13)]) (N := ["_law_cell_here", "_law_one", "_law_two", "_law_three", "_law_four", "_law_words", "_law_word_here", "_law_drawn", "_law_first", "_law_second", "_law_name", "_law_many_here", "_law_mixed_kind", "_law_k"]) (sc := (defScope s_l_any_deed)) (by decide +kernel)) (fun _ _ _ _ _ => (pg_name (i := 13) sc_l_any_deed.nd rfl (.inl rfl))) (fun _ _ _ _ _ => pts_nil) (fun _ _ _ _ _ => (pe_ifExp (pt_cmpR op_eq (pv 13) (pv 12) (nomark _)) (pe_tup (pa_cons (pv 8) (pa_cons (pv 9) pa_nil))) (pe_tup (pa_cons (pv 9) (pa_cons (pe_op op_add pe_int (pv 13)) pa_nil)))))) pa_nil)) pa_nil)))))) pss_nil)
      (pss_cons (ps_if (pt_cmpR op_in_seq (pv 6) (pe_lst (pa_cons pe_str (pa_cons pe_str pa_nil))) (by rfl)) (pss_one (ps_ret (pe_tup (pa_cons (pv 6) (pa_cons (pv 8) (pa_cons (pv 9) pa_nil)))))) pss_nil)
      (pss_one (ps_ret (pe_ifExp (pt_cmpR op_in_seq (pv 6) (pe_lst (pa_cons pe_str (pa_cons pe_str (pa_cons pe_str pa_nil)))) (by rfl)) (pe_tup (pa_cons (pv 6) (pa_cons (pv 10) (pa_cons (pv 8) pa_nil)))) (pe_tup (pa_cons (pv 6) (pa_cons (pv 10) pa_nil))))))))))))))), ?_⟩
    refine ⟨_, rfl, c, 4, rfl, by decide, fun o H1 zs s1 no eo hl => ?_⟩
    obtain ⟨z1, z2, z3, z4, rfl⟩ : ∃ z1 z2 z3 z4, zs = [z1, z2, z3, z4] := match zs, hl with | [z1, z2, z3, z4], _ => ⟨z1, z2, z3, z4, rfl⟩
    refine ⟨o, _, rfl, SqL.of eo, rfl, _, _, rfl, _, _, rfl, _, _, rfl, _, _, rfl, rfl, ?_⟩
    dsimp only [gName, List.set]
    refine ⟨by show 11 ≤ sizeLine; decide, fun lw nw => ?_⟩
    have u1 := same_upd (T := T) (o := HO.lst ([("hire" : Str), "dismiss", "send", "call", "stay", "swap", "pace", "go", "outs", "lay", "lay"].map V.str)) nw
    have ew : upd H1 lw (.lst ([("hire" : Str), "dismiss", "send", "call", "stay", "swap", "pace", "go", "outs", "lay", "lay"].map V.str)) lw = some (.lst ([("hire" : Str), "dismiss", "send", "call", "stay", "swap", "pace", "go", "outs", "lay", "lay"].map V.str)) := upd_same
    have s2 := s1.trans u1
    change tSeq _ _ _ _ (upd H1 lw (.lst ([("hire" : Str), "dismiss", "send", "call", "stay", "swap", "pace", "go", "outs", "lay", "lay"].map V.str)))
    generalize upd H1 lw (.lst ([("hire" : Str), "dismiss", "send", "call", "stay", "swap", "pace", "go", "outs", "lay", "lay"].map V.str)) = H2 at *
    refine ⟨_, rfl, _, rfl, by show 1 ≤ sizeLine; decide, fun l1 n1 => ⟨z1, l1, [11], rfl, SqL.of upd_same, by decide, by decide, fun pd H3 ds s3 np eD hd => ?_⟩⟩
    obtain ⟨k11, rest, rfl, k0, k1, hnil⟩ := hd.cons
    obtain rfl := hnil.nil
    have ew3 := ((same_upd (T := T) (o := HO.lst [V.int 11]) n1).trans s3).k ew
    have s4 := s2.trans ((same_upd (T := T) (o := HO.lst [V.int 11]) n1).trans s3)
    obtain ⟨j, wd, ej, gj, hw⟩ : ∃ (j : Nat) (wd : Str), k11 = (j : Int) ∧ ([("hire" : Str), "dismiss", "send", "call", "stay", "swap", "pace", "go", "outs", "lay", "lay"].map V.str)[j]? = some (.str wd) ∧ wd ∈ [("hire" : Str), "dismiss", "send", "call", "stay", "swap", "pace", "go", "outs", "lay"] := by
      rcases (by omega : k11 = 0 ∨ k11 = 1 ∨ k11 = 2 ∨ k11 = 3 ∨ k11 = 4 ∨ k11 = 5 ∨ k11 = 6 ∨ k11 = 7 ∨ k11 = 8 ∨ k11 = 9 ∨ k11 = 10) with e | e | e | e | e | e | e | e | e | e | e
      · exact ⟨0, _, e, rfl, by decide +kernel⟩
      · exact ⟨1, _, e, rfl, by decide +kernel⟩
      · exact ⟨2, _, e, rfl, by decide +kernel⟩
      · exact ⟨3, _, e, rfl, by decide +kernel⟩
      · exact ⟨4, _, e, rfl, by decide +kernel⟩
      · exact ⟨5, _, e, rfl, by decide +kernel⟩
      · exact ⟨6, _, e, rfl, by decide +kernel⟩
      · exact ⟨7, _, e, rfl, by decide +kernel⟩
      · exact ⟨8, _, e, rfl, by decide +kernel⟩
      · exact ⟨9, _, e, rfl, by decide +kernel⟩
      · exact ⟨10, _, e, rfl, by decide +kernel⟩
    refine ⟨pd, _, _, .int k11, rfl, rfl, SqL.of eD, at_of (j := 0) rfl rfl, lw, _, _, .str wd, rfl, rfl, SqL.of ew3, at_of ej gj, ?_⟩
    dsimp only [gName, List.set]
    refine ⟨_, rfl, _, _, rfl, rfl, ⟨by decide, by decide, by decide⟩, _, _, rfl, rfl, ⟨by decide, by decide, by decide⟩, by show 6 ≤ sizeLine; decide, fun l2 n2 => ⟨z2, l2, [8, 1000, 10 ^ 9, 8, 1000, 10 ^ 9], rfl, SqL.of upd_same, by decide, by decide, fun pd2 H4 ds2 s5 np2 eD2 hd2 => ?_⟩⟩
    obtain ⟨a0, r0, rfl, b01, b02, hd2⟩ := hd2.cons
    obtain ⟨a1, r1, rfl, b11, b12, hd2⟩ := hd2.cons
    obtain ⟨a2, r2, rfl, b21, b22, hd2⟩ := hd2.cons
    obtain ⟨a3, r3, rfl, b31, b32, hd2⟩ := hd2.cons
    obtain ⟨a4, r4, rfl, b41, b42, hd2⟩ := hd2.cons
    obtain ⟨a5, r5, rfl, b51, b52, hd2⟩ := hd2.cons
    obtain rfl := hd2.nil
    have s6 := s4.trans ((same_upd (T := T) (o := HO.lst [V.int 8, V.int 1000, V.int (10 ^ 9), V.int 8, V.int 1000, V.int (10 ^ 9)]) n2).trans s5)
    dsimp only [gName, List.set]
    refine ⟨_, rfl, 3, rfl, pd2, _, rfl, SqL.of eD2, fun p3 n3 => ?_⟩
    have c1 : cutV ([a0, a1, a2, a3, a4, a5].map V.int) none (some 3) = [.int a0, .int a1, .int a2] := cut_take _ 3 rfl
    rw [c1]
    have u3 := same_upd (T := T) (o := HO.lst [V.int a0, V.int a1, V.int a2]) n3
    refine ⟨p3, a0, a1, a2, rfl, SqL.of upd_same, ⟨b01, b02⟩, ⟨b11, b12⟩, ⟨b21, b22⟩, fun f1 H5 s7 nf1 => ?_⟩
    dsimp only [gName, List.set]
    have eD3 := (u3.trans s7).k eD2
    refine ⟨_, rfl, 3, rfl, pd2, _, rfl, SqL.of eD3, fun p4 n4 => ?_⟩
    have c2 : cutV ([a0, a1, a2, a3, a4, a5].map V.int) (some 3) none = [.int a3, .int a4, .int a5] := cut_drop _ 3 rfl
    rw [c2]
    have u4 := same_upd (T := T) (o := HO.lst [V.int a3, V.int a4, V.int a5]) n4
    refine ⟨p4, a3, a4, a5, rfl, SqL.of upd_same, ⟨b31, b32⟩, ⟨b41, b42⟩, ⟨b51, b52⟩, fun f2 H6 s8 nf2 => ?_⟩
    dsimp only [gName, List.set]
    refine ⟨_, rfl, z3, rfl, fun nm H7 s9 hnm => ?_⟩
    dsimp only [gName, List.set]
    have s10 := s6.trans (u3.trans (s7.trans (u4.trans (s8.trans s9))))
    refine ⟨_, rfl, rfl, _, rfl, ?_⟩
    by_cases hlay : wd = "lay"
    · rw [hlay, show decide (V.str "lay" = V.str "lay") = true from decide_eq_true rfl]
      refine iteT ⟨_, rfl, by show 2 ≤ sizeLine; decide, fun l5 n5 => ⟨z4, l5, [8, 8], rfl, SqL.of upd_same, by decide, by decide, fun pd5 H8 ds5 s11 np5 eD5 hd5 => ?_⟩⟩
      obtain ⟨mn, r0, rfl, m01, m02, hd5⟩ := hd5.cons
      obtain ⟨mk, r1, rfl, m11, m12, hd5⟩ := hd5.cons
      obtain rfl := hd5.nil
      have s12 := s10.trans ((same_upd (T := T) (o := HO.lst [V.int 8, V.int 8]) n5).trans s11)
      refine ⟨pd5, _, rfl, SqL.of eD5, rfl, _, _, rfl, _, _, rfl, rfl, ?_⟩
      dsimp only [gName, List.set]
      have hmn : ∃ M : Nat, mn + 1 = (M : Int) ∧ 1 ≤ M ∧ M ≤ 8 := ⟨(mn + 1).toNat, by omega, by omega, by omega⟩
      obtain ⟨M, eM, M1, M8⟩ := hmn
      refine ⟨_, rfl, _, _, rfl, rfl, _, rfl, by omega, by omega, fun Dl hDl => ?_⟩
      rw [eM]
      refine lc_range (lo := 0) (n := M) (Qd := _) (fun i H' => Sm T H8 H' ∧ ∃ us, H' Dl = some (.lst us) ∧ DpAll K H' us (((List.range i).map (prF mk f1 f2)).map amD)) ⟨same_upd hDl, [], upd_same, .nil⟩ ?_ ?_
      · rintro i H9 hi ⟨s13, us, eDl, du⟩
        have lus := dpa_len du
        rw [List.length_map, List.length_map, List.length_range] at lus
        have fin : ∀ p : Int × Int, p = prF mk f1 f2 i → ∀ tt, H9 tt = none → ∃ acc, (upd H9 tt (.tup [V.int p.1, V.int p.2])) Dl = some (.lst acc) ∧ acc.length < sizeLine ∧ Sm T H8 (upd (upd H9 tt (.tup [V.int p.1, V.int p.2])) Dl (.lst (acc ++ [.ref tt]))) ∧ ∃ us, upd (upd H9 tt (.tup [V.int p.1, V.int p.2])) Dl (.lst (acc ++ [.ref tt])) Dl = some (.lst us) ∧ DpAll K (upd (upd H9 tt (.tup [V.int p.1, V.int p.2])) Dl (.lst (acc ++ [.ref tt]))) us (((List.range (i + 1)).map (prF mk f1 f2)).map amD) := fun p ep tt nt => by
          have u := same_upd (T := T) (o := HO.tup [V.int p.1, V.int p.2]) nt
          have eD3 := u.k eDl
          have et : upd H9 tt (.tup [V.int p.1, V.int p.2]) tt = some (.tup (tv p)) := upd_same
          have d3 := dpa_same u _ _ du
          refine ⟨_, eD3, szl (by omega), same_mut (s13.trans u) hDl eD3, us ++ [.ref tt], upd_same, ?_⟩
          rw [List.range_succ, List.map_append, List.map_append]
          refine dpa_app (dpa_lst eD3 d3) (.cons ?_ .nil)
          rw [← ep]
          exact amD_dp (sqT_lst eD3 (SqT.of et))
        refine ⟨rfl, tyes_i ?_⟩
        refine ⟨_, rfl, _, rfl, rfl, _, rfl, ?_⟩
        by_cases hk : (0 : Int) + (i : Int) = mk
        · rw [decide_eq_true (congrArg V.int hk)]
          refine iteT ⟨_, rfl, _, rfl, by show 2 ≤ sizeLine; decide, fun tt nt => ?_⟩
          exact fin (f1, f2) (by unfold prF; rw [if_pos (by omega)]) tt nt
        · rw [decide_eq_false fun z => hk (V.int.inj z)]
          refine iteF ⟨_, rfl, _, rfl, _, _, rfl, rfl, by show 2 ≤ sizeLine; decide, fun tt nt => ?_⟩
          exact fin (f2, 1 + (0 + (i : Int))) (by unfold prF; rw [if_neg (by omega), Int.zero_add]) tt nt
      · rintro H9 ⟨s13, us, eDl, du⟩
        refine ⟨Dl, us, rfl, .inl ⟨SqL.of eDl, fun l nl => ⟨by show 2 ≤ sizeLine; decide, fun tt nt => ?_⟩⟩⟩
        have u6 := same_upd (T := T) (o := HO.tup us) nl
        have u7 := same_upd (T := T) (o := HO.tup [V.str "lay", V.ref l]) nt
        refine q tt (.lay ((List.range M).map (prF mk f1 f2))) _ (s12.trans (s13.trans (u6.trans u7))) ⟨l, us, SqT.of upd_same, same_tup u7 (SqT.of upd_same), dpa_same (u6.trans u7) _ _ du⟩ ⟨⟨by rw [List.length_map, List.length_range]; exact M1, by rw [List.length_map, List.length_range]; omega⟩, fun p hp => ?_⟩
        obtain ⟨i, hi, rfl⟩ := List.mem_map.mp hp
        have hi := List.mem_range.mp hi
        unfold prF
        split
        · exact ⟨nf1, nf2⟩
        · exact ⟨nf2, by unfold Nine; show _ < 1 + (i : Int) ∧ _; omega⟩
    · rw [show decide (V.str wd = V.str "lay") = false from decide_eq_false fun z => hlay (V.str.inj z)]
      refine iteF ?_
      dsimp only [tNext]
      have tab := ten_ok wd hw hlay
      refine ⟨_, rfl, by show 2 ≤ sizeLine; decide, fun l5 n5 => ?_⟩
      have u5 := same_upd (T := T) (o := HO.lst [V.str "go", V.str "outs"]) n5
      refine ⟨l5, [V.str "go", V.str "outs"], rfl, .inl (SqL.of upd_same), rfl, rfl, _, rfl, ?_⟩
      show if inV (.str wd) ([("go" : Str), "outs"].map V.str) = true then _ else _
      rw [inV_strs]
      by_cases h1 : wd ∈ [("go" : Str), "outs"]
      · rw [decide_eq_true h1]
        rw [if_pos h1] at tab
        refine iteT ⟨_, rfl, _, rfl, _, rfl, by show 3 ≤ sizeLine; decide, fun tt nt => ?_⟩
        have u7 := same_upd (T := T) (o := HO.tup [V.str wd, V.int f1, V.int f2]) nt
        exact q tt (.oth wd [.inl f1, .inl f2]) _ (s10.trans (u5.trans u7)) (SqT.of (xs := [V.str wd, V.int f1, V.int f2]) upd_same) ⟨tab, fun x hx => by
          simp only [List.mem_cons, List.not_mem_nil, or_false] at hx
          rcases hx with rfl | rfl
          · exact nf1
          · exact nf2⟩
      · rw [decide_eq_false h1]
        rw [if_neg h1] at tab
        refine iteF ?_
        dsimp only [tNext]
        refine ⟨_, rfl, by show 3 ≤ sizeLine; decide, fun l6 n6 => ?_⟩
        have u6 := same_upd (T := T) (o := HO.lst [V.str "hire", V.str "send", V.str "pace"]) n6
        refine ⟨l6, [V.str "hire", V.str "send", V.str "pace"], rfl, .inl (SqL.of upd_same), rfl, rfl, _, rfl, ?_⟩
        show if inV (.str wd) ([("hire" : Str), "send", "pace"].map V.str) = true then _ else _
        rw [inV_strs]
        by_cases h2 : wd ∈ [("hire" : Str), "send", "pace"]
        · rw [decide_eq_true h2]
          rw [if_pos h2] at tab
          refine iteT ⟨_, rfl, _, rfl, _, rfl, by show 3 ≤ sizeLine; decide, fun tt nt => ?_⟩
          have u7 := same_upd (T := T) (o := HO.tup [V.str wd, V.str nm, V.int f1]) nt
          exact q tt (.oth wd [.inr nm, .inl f1]) _ (s10.trans (u5.trans (u6.trans u7))) (SqT.of (xs := [V.str wd, V.str nm, V.int f1]) upd_same) ⟨tab, fun x hx => by
            simp only [List.mem_cons, List.not_mem_nil, or_false] at hx
            rcases hx with rfl | rfl
            · exact hnm
            · exact nf1⟩
        · rw [decide_eq_false h2]
          rw [if_neg h2] at tab
          refine iteF ⟨_, rfl, _, rfl, by show 2 ≤ sizeLine; decide, fun tt nt => ?_⟩
          have u7 := same_upd (T := T) (o := HO.tup [V.str wd, V.str nm]) nt
          exact q tt (.oth wd [.inr nm]) _ (s10.trans (u5.trans (u6.trans u7))) (SqT.of (xs := [V.str wd, V.str nm]) upd_same) ⟨tab, fun x hx => by
            rw [List.mem_singleton.mp hx]
            exact hnm⟩

-- wordk 12
def svD : Sv → PyData
  | .inl i => .int i
  | .inr x => .str x
def ddD : Dd → PyData
  | .lay ps => .tuple [.str "lay", .tuple (ps.map amD)]
  | .oth w xs => .tuple (.str w :: xs.map svD)
theorem svs_dp {K : PySem.W.Frag} {H : Hp} : ∀ xs : List Sv, DpAll K H (xs.map svV) (xs.map svD)
  | [] => .nil
  | .inl i :: xs => .cons (.int i) (svs_dp xs)
  | .inr x :: xs => .cons (.str x) (svs_dp xs)
theorem DdAt.dp {K : PySem.W.Frag} {H : Hp} {a : Addr} {d : Dd} (h : DdAt K H a d) : Dp K H (.ref a) (ddD d) := by
  cases d with
  | lay ps =>
    obtain ⟨t, us, h1, h2, h3⟩ := h
    exact .tup h1 (.cons (.str _) (.cons (.tup h2 h3) .nil))
  | oth w xs => exact .tup (show SqT K H a (.str w :: xs.map svV) from h) (.cons (.str _) (svs_dp xs))
theorem dd_dep {d : Dd} (h : DdOk d) : depOk 4 (ddD d) = true := by
  cases d with
  | lay ps =>
    have l := h.1.2
    have a : depOk 3 (.tuple (ps.map amD)) = true := by
      show (decide ((ps.map amD).length ≤ 9000) && (ps.map amD).all (depOk 2)) = true
      rw [List.length_map, decide_eq_true (by omega), Bool.true_and, List.all_map]
      exact List.all_eq_true.mpr fun x _ => rfl
    show (decide (([.str "lay", .tuple (ps.map amD)] : List PyData).length ≤ 9000) && ([.str "lay", .tuple (ps.map amD)] : List PyData).all (depOk 3)) = true
    simp only [List.all_cons, List.all_nil, a]
    rfl
  | oth w xs =>
    have l := (forms_w _ h.1).2.1.2
    rw [List.length_map] at l
    show (decide ((PyData.str w :: xs.map svD).length ≤ 9000) && (PyData.str w :: xs.map svD).all (depOk 3)) = true
    rw [List.length_cons, List.length_map, decide_eq_true (by omega), Bool.true_and, List.all_cons, List.all_map]
    refine Bool.and_eq_true_iff.mpr ⟨rfl, List.all_eq_true.mpr fun x _ => ?_⟩
    cases x <;> rfl
theorem dd_told {d : Dd} (h : DdOk d) : depOk 5 (.tuple [.str "told", ddD d]) = true := by
  show (decide (([.str "told", ddD d] : List PyData).length ≤ 9000) && ([.str "told", ddD d] : List PyData).all (depOk 4)) = true
  simp only [List.all_cons, List.all_nil, dd_dep h]
  rfl
theorem DdAt.lst {K : PySem.W.Frag} {H : Hp} {a D : Addr} {us vs : List V} {d : Dd} (h : DdAt K H a d) (e : H D = some (.lst us)) : DdAt K (upd H D (.lst vs)) a d := by
  cases d with
  | lay ps =>
    obtain ⟨t, ws, h1, h2, h3⟩ := h
    exact ⟨t, ws, sqT_lst e h1, sqT_lst e h2, dpa_lst e h3⟩
  | oth w xs => exact sqT_lst e (show SqT K H a (.str w :: xs.map svV) from h)
def sp_LAW (K : PySem.W.Frag) (T : Tb) : Sp := fun vs H Q _ => ∃ (a : Addr) (ns : List Int), vs = [.ref a] ∧ SqL K H a (ns.map V.int) ∧ ns.length ≤ 63 ∧ (∀ z ∈ ns, Builtin.Int.intBits z ≤ 1048576) ∧ Ok T H ∧ ∀ H', Q (.bl true) H'
theorem ok_LAW {f : Addr} {fd : FuncData} {c PT : Addr} (F : FunC K "law" "law" s_LAW f fd c) (hnT : (T.map (·.1)).Nodup) (hPT : (PT, some (("law" : Str) ++ ".<locals>." ++ "<lambda>")) ∈ T) (TB : LamX.TabB base mg c PT) (B : Bn mg) {CP : Addr} (W : Word K mg CP) (F_l_cell : Fn P w K mg base 1 "_law_cell" ["_law_script", "_law_k"] (sp_l_cell K T)) (F_l_many : Fn P w K mg base 1 "_law_many" ["_law_script", "_law_few"] (sp_l_many K T)) (F_l_same : Fn P w K mg base 6 "_law_same" ["_law_found", "_law_due"] (sp_l_same K T)) (F_p_deed_text : Fn P w K mg base 1 "deed_text" ["deed"] (sp_p_deed_text K T)) (F_p_read_deed : Fx P w K mg base 7 "read_deed" ["text"] (sp_p_read_deed K T CP)) (F_l_deed_text : Fn P w K mg base 1 "_law_deed_text" ["_law_deed"] (sp_l_deed_text K T)) (F_l_any_deed : Fn P w K mg base 3 "_law_any_deed" ["_law_cell_here"] (sp_l_any_deed K T)) : FnOk P w K mg base CX0 24 f fd ["_law_script"] (sp_LAW K T) := by
  refine F.ok sc_LAW (fun vs H Q E h => ?_) (fun A outer s H vs Q E hr h => ?_)
  · obtain ⟨a, ns, rfl, _⟩ := h
    rfl
  · obtain ⟨a, script, rfl, hS, hlen, hbits, hok, q⟩ := h
    refine ⟨_, (pss_cons (ps_set (i := 1) sc_LAW.nd rfl (.inl rfl) (pe_lst pa_nil))
      (pss_cons (ps_for PassesOwn.never rfl (pi_range1 (by rfl) B.range_ (pa_cons (pe_fn F_l_many (hr.mono (by decide)) (pa_cons (pv 0) (pa_cons pe_int pa_nil))) pa_nil)) (pg_name (i := 2) sc_LAW.nd rfl (.inl rfl))
      (pss_cons (ps_set (i := 3) sc_LAW.nd rfl (.inr rfl) (pe_fn F_l_any_deed (hr.mono (by decide)) (pa_cons (pe_fn F_l_cell (hr.mono (by decide)) (pa_cons (pv 0) (pa_cons (pv 2) pa_nil))) pa_nil)))
      (pss_cons (ps_if (pt_not (pt_val (pe_fn F_l_same (hr.mono (by decide)) (pa_cons (pe_fn F_p_deed_text (hr.mono (by decide)) (pa_cons (pv 3) pa_nil)) (pa_cons (pe_fn F_l_deed_text (hr.mono (by decide)) (pa_cons (pv 3) pa_nil)) pa_nil))))) (pss_one (ps_ret pe_bl)) pss_nil)
      (pss_cons (ps_if (pt_not (pt_val (pe_fn F_l_same (hr.mono (by decide)) (pa_cons (pe_word (k := 12) W hnT (by rfl) TB rfl hPT (hr.mono (by decide)) (LamX.lamS_by (sc := defScope s_LAW) (by decide +kernel)) rfl (fun _ _ _ _ _ => rfl) (fun A outer s H E f c' hr => (pe_fx (E := E) F_p_read_deed (hr.mono (by decide)) (takes_of rfl rfl rfl rfl) (pa_cons (pe_fn F_l_deed_text (hr.mono (by decide)) (pa_cons (pv 3) pa_nil)) pa_nil)))) (pa_cons (pe_tup (pa_cons pe_str (pa_cons (pv 3) pa_nil))) pa_nil))))) (pss_one (ps_ret pe_bl)) pss_nil)
      (pss_one (ps_expr (pe_bm PySem.F.plainAttrs_list PySem.F.slot_list_append PySem.F.type_list_append mt_append (pv 1) (pa_cons (pv 3) pa_nil))))))))
      (pss_cons (ps_for PassesOwn.never rfl (pi_list (pv 1)) (pg_name (i := 3) sc_LAW.nd rfl (.inr rfl))
      (pss_one (ps_if (pt_not (pt_val (pe_fn F_l_same (hr.mono (by decide)) (pa_cons (pe_word (k := 12) W hnT (by rfl) TB rfl hPT (hr.mono (by decide)) (LamX.lamS_by (sc := defScope s_LAW) (by decide +kernel)) rfl (fun _ _ _ _ _ => rfl) (fun A outer s H E f c' hr => (pe_fx (E := E) F_p_read_deed (hr.mono (by decide)) (takes_of rfl rfl rfl rfl) (pa_cons (pe_fn F_l_deed_text (hr.mono (by decide)) (pa_cons (pv 3) pa_nil)) pa_nil)))) (pa_cons (pe_tup (pa_cons pe_str (pa_cons (pv 3) pa_nil))) pa_nil))))) (pss_one (ps_ret pe_bl)) pss_nil)))
      (pss_one (ps_ret pe_bl))))), ?_⟩
    refine ⟨Nat.zero_le _, fun fo nf => ?_⟩
    have u0 := same_upd (T := T) (o := HO.lst []) nf
    have e0 : upd H fo (.lst []) fo = some (.lst []) := upd_same
    dsimp only [gName, List.set]
    generalize upd H fo (.lst []) = H0 at *
    refine ⟨_, rfl, a, script, 4, rfl, u0.seq hS, by decide, by decide, fun mm hmm => ?_⟩
    refine ⟨mm, rfl, by omega, by omega, for_range (lo := 0) (n := mm) (fun i σ H' => ∃ (bs : List Addr) (x2 x3 : Option V), Sm T H H' ∧ H' fo = some (.lst (bs.map V.ref)) ∧ bs.length = i ∧ (∀ b ∈ bs, ∃ d, DdAt K H' b d ∧ DdOk d) ∧ σ = [some (.ref a), some (.ref fo), x2, x3]) ⟨[], _, _, u0, e0, rfl, fun _ z => (nomatch z), rfl⟩ ?_ ?_⟩
    · rintro i σ H1 hi ⟨bs, x2, x3, s1, ef, lb, hb, rfl⟩
      dsimp only [gName, List.set]
      refine ⟨_, rfl, _, rfl, a, script, _, rfl, s1.seq hS, by omega, fun c => ⟨c, rfl, fun b d H2 s2 hd ok => ?_⟩⟩
      dsimp only [gName, List.set]
      refine ⟨_, rfl, b, d, rfl, hd, ok, fun H3 s3 => ⟨_, rfl, b, d, rfl, hd.sm s3, ok, fun H4 s4 => ⟨.str d.txt, .str d.txt, .str d.txt, rfl, .str _, .str _, rfl, fun H5 s5 => ⟨_, rfl, iteF ?_⟩⟩⟩⟩
      dsimp only [tNext]
      have s25 := s3.trans (s4.trans s5)
      have s05 := s1.trans (s2.trans s25)
      have hd5 := hd.sm s25
      refine ⟨(s05.ok hok) _ hPT, fun Ha sa => ?_⟩
      refine ⟨_, rfl, b, d, rfl, hd5.sm sa, ok, fun H6 s6 => ⟨d, rfl, ok, (s05.trans (sa.trans s6)).ok hok, fun a2 H7 s7 hd7 => ⟨by show 2 ≤ sizeLine; decide, fun tf nf2 => ?_⟩⟩⟩
      have u7 := same_upd (T := T) (o := HO.tup [V.str "told", V.ref a2]) nf2
      refine ⟨_, rfl, by show 2 ≤ sizeLine; decide, fun t2 n2 => ?_⟩
      have u8 := same_upd (T := T) (o := HO.tup [V.str "told", V.ref b]) n2
      have s58 := sa.trans (s6.trans (s7.trans (u7.trans u8)))
      refine ⟨.ref tf, .ref t2, .tuple [.str "told", ddD d], rfl, .tup (same_tup u8 (SqT.of upd_same)) (.cons (.str _) (.cons ((hd7.sm (u7.trans u8)).dp) .nil)), .tup (SqT.of upd_same) (.cons (.str _) (.cons ((hd5.sm s58).dp) .nil)), dd_told ok, fun H8 s8 => ⟨_, rfl, iteF ?_⟩⟩
      dsimp only [tNext]
      have s18 := s2.trans (s25.trans (s58.trans s8))
      have ef8 := s18.k ef
      have hd8 := hd5.sm (s58.trans s8)
      refine ⟨_, rfl, .inl ⟨rfl, _, SqL.of ef8⟩, _, rfl, fo, _, _, rfl, rfl, ef8, szl (by rw [List.length_map]; omega), ?_⟩
      refine ⟨bs ++ [b], _, _, same_mut (s1.trans s18) nf ef8, by rw [upd_same, List.map_append]; rfl, by rw [List.length_append, lb]; rfl, fun x hx => ?_, rfl⟩
      rcases List.mem_append.mp hx with z | z
      · obtain ⟨dx, h1, h2⟩ := hb x z
        exact ⟨dx, (h1.sm s18).lst ef8, h2⟩
      · rw [List.mem_singleton.mp z]
        exact ⟨d, hd8.lst ef8, ok⟩
    · rintro σ H1 ⟨bs, x2, x3, s1, ef, lb, hb, rfl⟩
      refine ⟨_, rfl, fo, rfl, ⟨_, SqL.of ef⟩, for_list (K := K) (a := fo) (xs := bs.map V.ref) (fun i σ H' => Sm T H1 H' ∧ ∃ x3, σ = [some (.ref a), some (.ref fo), x2, x3]) ⟨Sm.refl, _, rfl⟩ (fun i σ H' _ z => SqL.of (z.1.k ef)) ?_ ?_⟩
      · rintro i v σ H2 hi ⟨s2, x3', rfl⟩
        have hil : i < bs.length := by have := (List.getElem?_eq_some_iff.mp hi).1; rw [List.length_map] at this; exact this
        rw [List.getElem?_map, List.getElem?_eq_getElem hil] at hi
        cases hi
        obtain ⟨d, hd0, ok⟩ := hb _ (List.getElem_mem hil)
        have hd5 := hd0.sm s2
        have s05 := s1.trans s2
        dsimp only [gName, List.set]
        refine ⟨(s05.ok hok) _ hPT, fun Ha sa => ?_⟩
        refine ⟨_, rfl, bs[i], d, rfl, hd5.sm sa, ok, fun H6 s6 => ⟨d, rfl, ok, (s05.trans (sa.trans s6)).ok hok, fun a2 H7 s7 hd7 => ⟨by show 2 ≤ sizeLine; decide, fun tf nf2 => ?_⟩⟩⟩
        have u7 := same_upd (T := T) (o := HO.tup [V.str "told", V.ref a2]) nf2
        refine ⟨_, rfl, by show 2 ≤ sizeLine; decide, fun t2 n2 => ?_⟩
        have u8 := same_upd (T := T) (o := HO.tup [V.str "told", V.ref bs[i]]) n2
        have s58 := sa.trans (s6.trans (s7.trans (u7.trans u8)))
        refine ⟨.ref tf, .ref t2, .tuple [.str "told", ddD d], rfl, .tup (same_tup u8 (SqT.of upd_same)) (.cons (.str _) (.cons ((hd7.sm (u7.trans u8)).dp) .nil)), .tup (SqT.of upd_same) (.cons (.str _) (.cons ((hd5.sm s58).dp) .nil)), dd_told ok, fun H8 s8 => ⟨_, rfl, iteF ?_⟩⟩
        exact ⟨s2.trans (s58.trans s8), _, rfl⟩
      · rintro σ H2 ⟨s2, x3', rfl⟩
        exact q _

end
theorem all_mk {l : PySem.W.OpenLaw} {w : World} {K : PySem.W.Frag} {h : Heap} {mg : Str → Option Value} {fa : Addr} {q : Program} (X : K.In h) (G : h.Ns mainGlobals mg) (hfa : mg "law" = some (.ref fa))
    (tabs : ∀ (y : Str) (c P : Addr), ((recsOf q).any fun e => e.name == y) = true → PySem.W.tabIn K y = some (c, P) → PySem.W.CodeHd h c P ∧ h.get? P = some { cls := .none, data := .fields #[] })
    {f1 : Addr} {od1 an1 : Option Addr} {sl1 : Array (Option Value)} {oc1 kV1 dc1 pm1 ct1 : Value} {cd1 : Value} (a1 : PySem.W.nsIn K mainGlobals "_law_word" = some (some (.ref f1))) (l1 : K.lookup f1 = some ⟨oc1, od1, .func (PySem.W.fnOf "_law_word" "_law_word" (defArgs s_l_word) (defBody s_l_word) (defScope s_l_word) .none kV1 dc1 pm1 an1 cd1 ct1), sl1⟩) (c1_ : PySem.W.codeIn K cd1 "_law_word" = true) (k1 : PySem.W.keepIn K (.ref f1) = true)
    {f2 : Addr} {od2 an2 : Option Addr} {sl2 : Array (Option Value)} {oc2 kV2 dc2 pm2 ct2 : Value} {cd2 : Value} (a2 : PySem.W.nsIn K mainGlobals "_law_cell" = some (some (.ref f2))) (l2 : K.lookup f2 = some ⟨oc2, od2, .func (PySem.W.fnOf "_law_cell" "_law_cell" (defArgs s_l_cell) (defBody s_l_cell) (defScope s_l_cell) .none kV2 dc2 pm2 an2 cd2 ct2), sl2⟩) (c2_ : PySem.W.codeIn K cd2 "_law_cell" = true) (k2 : PySem.W.keepIn K (.ref f2) = true)
    {f3 : Addr} {od3 an3 : Option Addr} {sl3 : Array (Option Value)} {oc3 kV3 dc3 pm3 ct3 : Value} {cd3 : Value} (a3 : PySem.W.nsIn K mainGlobals "_law_draws" = some (some (.ref f3))) (l3 : K.lookup f3 = some ⟨oc3, od3, .func (PySem.W.fnOf "_law_draws" "_law_draws" (defArgs s_l_draws) (defBody s_l_draws) (defScope s_l_draws) .none kV3 dc3 pm3 an3 cd3 ct3), sl3⟩) (c3_ : PySem.W.codeIn K cd3 "_law_draws" = true) (k3 : PySem.W.keepIn K (.ref f3) = true)
    {f4 : Addr} {od4 an4 : Option Addr} {sl4 : Array (Option Value)} {oc4 kV4 dc4 pm4 ct4 : Value} {cd4 : Value} (a4 : PySem.W.nsIn K mainGlobals "_law_many" = some (some (.ref f4))) (l4 : K.lookup f4 = some ⟨oc4, od4, .func (PySem.W.fnOf "_law_many" "_law_many" (defArgs s_l_many) (defBody s_l_many) (defScope s_l_many) .none kV4 dc4 pm4 an4 cd4 ct4), sl4⟩) (c4_ : PySem.W.codeIn K cd4 "_law_many" = true) (k4 : PySem.W.keepIn K (.ref f4) = true)
    {f5 : Addr} {od5 an5 : Option Addr} {sl5 : Array (Option Value)} {oc5 kV5 dc5 pm5 ct5 : Value} {cd5 : Value} (a5 : PySem.W.nsIn K mainGlobals "_law_split" = some (some (.ref f5))) (l5 : K.lookup f5 = some ⟨oc5, od5, .func (PySem.W.fnOf "_law_split" "_law_split" (defArgs s_l_split) (defBody s_l_split) (defScope s_l_split) .none kV5 dc5 pm5 an5 cd5 ct5), sl5⟩) (c5_ : PySem.W.codeIn K cd5 "_law_split" = true) (k5 : PySem.W.keepIn K (.ref f5) = true)
    {f6 : Addr} {od6 an6 : Option Addr} {sl6 : Array (Option Value)} {oc6 kV6 dc6 pm6 ct6 : Value} {c6 P6 : Addr} (a6 : PySem.W.nsIn K mainGlobals "is_name" = some (some (.ref f6))) (l6 : K.lookup f6 = some ⟨oc6, od6, .func (PySem.W.fnOf "is_name" "is_name" (defArgs s_p_is_name) (defBody s_p_is_name) (defScope s_p_is_name) .none kV6 dc6 pm6 an6 (.ref c6) ct6), sl6⟩) (c6_ : PySem.W.codeIn K (.ref c6) "is_name" = true) (k6 : PySem.W.keepIn K (.ref f6) = true)
    (r6 : ((recsOf q).any fun e => e.name == ("is_name" : Str)) = true) {ev6 : Value} {dv6 : Option Addr} {vv6 : Array Value} {sv6 : Array (Option Value)} (v6 : K.lookup c6 = some ⟨ev6, dv6, .fields vv6, sv6⟩) (p6 : vv6[11]? = some (.ref P6)) (n6 : K.lookup P6 = none)
    {f7 : Addr} {od7 an7 : Option Addr} {sl7 : Array (Option Value)} {oc7 kV7 dc7 pm7 ct7 : Value} {cd7 : Value} (a7 : PySem.W.nsIn K mainGlobals "_law_same" = some (some (.ref f7))) (l7 : K.lookup f7 = some ⟨oc7, od7, .func (PySem.W.fnOf "_law_same" "_law_same" (defArgs s_l_same) (defBody s_l_same) (defScope s_l_same) .none kV7 dc7 pm7 an7 cd7 ct7), sl7⟩) (c7_ : PySem.W.codeIn K cd7 "_law_same" = true) (k7 : PySem.W.keepIn K (.ref f7) = true)
    {f8 : Addr} {od8 an8 : Option Addr} {sl8 : Array (Option Value)} {oc8 kV8 dc8 pm8 ct8 : Value} {cd8 : Value} (a8 : PySem.W.nsIn K mainGlobals "deed_text" = some (some (.ref f8))) (l8 : K.lookup f8 = some ⟨oc8, od8, .func (PySem.W.fnOf "deed_text" "deed_text" (defArgs s_p_deed_text) (defBody s_p_deed_text) (defScope s_p_deed_text) .none kV8 dc8 pm8 an8 cd8 ct8), sl8⟩) (c8_ : PySem.W.codeIn K cd8 "deed_text" = true) (k8 : PySem.W.keepIn K (.ref f8) = true)
    {f9 : Addr} {od9 an9 : Option Addr} {sl9 : Array (Option Value)} {oc9 kV9 dc9 pm9 ct9 : Value} {c9 P9 : Addr} (a9 : PySem.W.nsIn K mainGlobals "are_figures" = some (some (.ref f9))) (l9 : K.lookup f9 = some ⟨oc9, od9, .func (PySem.W.fnOf "are_figures" "are_figures" (defArgs s_p_are_figures) (defBody s_p_are_figures) (defScope s_p_are_figures) .none kV9 dc9 pm9 an9 (.ref c9) ct9), sl9⟩) (c9_ : PySem.W.codeIn K (.ref c9) "are_figures" = true) (k9 : PySem.W.keepIn K (.ref f9) = true)
    (r9 : ((recsOf q).any fun e => e.name == ("are_figures" : Str)) = true) {ev9 : Value} {dv9 : Option Addr} {vv9 : Array Value} {sv9 : Array (Option Value)} (v9 : K.lookup c9 = some ⟨ev9, dv9, .fields vv9, sv9⟩) (p9 : vv9[11]? = some (.ref P9)) (n9 : K.lookup P9 = none)
    {f10 : Addr} {od10 an10 : Option Addr} {sl10 : Array (Option Value)} {oc10 kV10 dc10 pm10 ct10 : Value} {cd10 : Value} (a10 : PySem.W.nsIn K mainGlobals "read_number" = some (some (.ref f10))) (l10 : K.lookup f10 = some ⟨oc10, od10, .func (PySem.W.fnOf "read_number" "read_number" (defArgs s_p_read_number) (defBody s_p_read_number) (defScope s_p_read_number) .none kV10 dc10 pm10 an10 cd10 ct10), sl10⟩) (c10_ : PySem.W.codeIn K cd10 "read_number" = true) (k10 : PySem.W.keepIn K (.ref f10) = true)
    {f11 : Addr} {od11 an11 : Option Addr} {sl11 : Array (Option Value)} {oc11 kV11 dc11 pm11 ct11 : Value} {cd11 : Value} (a11 : PySem.W.nsIn K mainGlobals "read_thing" = some (some (.ref f11))) (l11 : K.lookup f11 = some ⟨oc11, od11, .func (PySem.W.fnOf "read_thing" "read_thing" (defArgs s_p_read_thing) (defBody s_p_read_thing) (defScope s_p_read_thing) .none kV11 dc11 pm11 an11 cd11 ct11), sl11⟩) (c11_ : PySem.W.codeIn K cd11 "read_thing" = true) (k11 : PySem.W.keepIn K (.ref f11) = true)
    {f12 : Addr} {od12 an12 : Option Addr} {sl12 : Array (Option Value)} {oc12 kV12 dc12 pm12 ct12 : Value} {cd12 : Value} (a12 : PySem.W.nsIn K mainGlobals "read_things" = some (some (.ref f12))) (l12 : K.lookup f12 = some ⟨oc12, od12, .func (PySem.W.fnOf "read_things" "read_things" (defArgs s_p_read_things) (defBody s_p_read_things) (defScope s_p_read_things) .none kV12 dc12 pm12 an12 cd12 ct12), sl12⟩) (c12_ : PySem.W.codeIn K cd12 "read_things" = true) (k12 : PySem.W.keepIn K (.ref f12) = true)
    {f13 : Addr} {od13 an13 : Option Addr} {sl13 : Array (Option Value)} {oc13 kV13 dc13 pm13 ct13 : Value} {cd13 : Value} (a13 : PySem.W.nsIn K mainGlobals "read_way" = some (some (.ref f13))) (l13 : K.lookup f13 = some ⟨oc13, od13, .func (PySem.W.fnOf "read_way" "read_way" (defArgs s_p_read_way) (defBody s_p_read_way) (defScope s_p_read_way) .none kV13 dc13 pm13 an13 cd13 ct13), sl13⟩) (c13_ : PySem.W.codeIn K cd13 "read_way" = true) (k13 : PySem.W.keepIn K (.ref f13) = true)
    {f14 : Addr} {od14 an14 : Option Addr} {sl14 : Array (Option Value)} {oc14 kV14 dc14 pm14 ct14 : Value} {cd14 : Value} (a14 : PySem.W.nsIn K mainGlobals "read_deed" = some (some (.ref f14))) (l14 : K.lookup f14 = some ⟨oc14, od14, .func (PySem.W.fnOf "read_deed" "read_deed" (defArgs s_p_read_deed) (defBody s_p_read_deed) (defScope s_p_read_deed) .none kV14 dc14 pm14 an14 cd14 ct14), sl14⟩) (c14_ : PySem.W.codeIn K cd14 "read_deed" = true) (k14 : PySem.W.keepIn K (.ref f14) = true)
    {f15 : Addr} {od15 an15 : Option Addr} {sl15 : Array (Option Value)} {oc15 kV15 dc15 pm15 ct15 : Value} {cd15 : Value} (a15 : PySem.W.nsIn K mainGlobals "_law_deed_text" = some (some (.ref f15))) (l15 : K.lookup f15 = some ⟨oc15, od15, .func (PySem.W.fnOf "_law_deed_text" "_law_deed_text" (defArgs s_l_deed_text) (defBody s_l_deed_text) (defScope s_l_deed_text) .none kV15 dc15 pm15 an15 cd15 ct15), sl15⟩) (c15_ : PySem.W.codeIn K cd15 "_law_deed_text" = true) (k15 : PySem.W.keepIn K (.ref f15) = true)
    {f16 : Addr} {od16 an16 : Option Addr} {sl16 : Array (Option Value)} {oc16 kV16 dc16 pm16 ct16 : Value} {cd16 : Value} (a16 : PySem.W.nsIn K mainGlobals "_law_any_number" = some (some (.ref f16))) (l16 : K.lookup f16 = some ⟨oc16, od16, .func (PySem.W.fnOf "_law_any_number" "_law_any_number" (defArgs s_l_any_number) (defBody s_l_any_number) (defScope s_l_any_number) .none kV16 dc16 pm16 an16 cd16 ct16), sl16⟩) (c16_ : PySem.W.codeIn K cd16 "_law_any_number" = true) (k16 : PySem.W.keepIn K (.ref f16) = true)
    {f17 : Addr} {od17 an17 : Option Addr} {sl17 : Array (Option Value)} {oc17 kV17 dc17 pm17 ct17 : Value} {cd17 : Value} (a17 : PySem.W.nsIn K mainGlobals "_law_any_name" = some (some (.ref f17))) (l17 : K.lookup f17 = some ⟨oc17, od17, .func (PySem.W.fnOf "_law_any_name" "_law_any_name" (defArgs s_l_any_name) (defBody s_l_any_name) (defScope s_l_any_name) .none kV17 dc17 pm17 an17 cd17 ct17), sl17⟩) (c17_ : PySem.W.codeIn K cd17 "_law_any_name" = true) (k17 : PySem.W.keepIn K (.ref f17) = true)
    {f18 : Addr} {od18 an18 : Option Addr} {sl18 : Array (Option Value)} {oc18 kV18 dc18 pm18 ct18 : Value} {cd18 : Value} (a18 : PySem.W.nsIn K mainGlobals "_law_any_deed" = some (some (.ref f18))) (l18 : K.lookup f18 = some ⟨oc18, od18, .func (PySem.W.fnOf "_law_any_deed" "_law_any_deed" (defArgs s_l_any_deed) (defBody s_l_any_deed) (defScope s_l_any_deed) .none kV18 dc18 pm18 an18 cd18 ct18), sl18⟩) (c18_ : PySem.W.codeIn K cd18 "_law_any_deed" = true) (k18 : PySem.W.keepIn K (.ref f18) = true)
    {f19 : Addr} {od19 an19 : Option Addr} {sl19 : Array (Option Value)} {oc19 kV19 dc19 pm19 ct19 : Value} {c19 P19 : Addr} (a19 : PySem.W.nsIn K mainGlobals "law" = some (some (.ref f19))) (l19 : K.lookup f19 = some ⟨oc19, od19, .func (PySem.W.fnOf "law" "law" (defArgs s_LAW) (defBody s_LAW) (defScope s_LAW) .none kV19 dc19 pm19 an19 (.ref c19) ct19), sl19⟩) (c19_ : PySem.W.codeIn K (.ref c19) "law" = true) (k19 : PySem.W.keepIn K (.ref f19) = true)
    (r19 : ((recsOf q).any fun e => e.name == ("law" : Str)) = true) {ev19 : Value} {dv19 : Option Addr} {vv19 : Array Value} {sv19 : Array (Option Value)} (v19 : K.lookup c19 = some ⟨ev19, dv19, .fields vv19, sv19⟩) (p19 : vv19[11]? = some (.ref P19)) (n19 : K.lookup P19 = none)
    {CP : Addr} (aCP : PySem.W.nsIn K mainGlobals "PailError" = some (some (.ref CP))) (rdP : PySem.W.readsIn K CP (.type "type") = true) (gaP : PySem.W.specialIn K (.ref CP) "__getattribute__" = some (some (.builtin "type.__getattribute__")))
    {f100 : Addr} {od100 an100 : Option Addr} {sl100 : Array (Option Value)} {oc100 kV100 dc100 pm100 ct100 : Value} {cd100 : Value} (a100 : PySem.W.findCls K (.ref CP) (.type "type") "__init__" = some (.val (.ref f100))) (l100 : K.lookup f100 = some ⟨oc100, od100, .func (PySem.W.fnOf "__init__" "PailError.__init__" (defArgs s_p_PailError___init__) (defBody s_p_PailError___init__) (defScope s_p_PailError___init__) .none kV100 dc100 pm100 an100 cd100 ct100), sl100⟩) (c100_ : PySem.W.codeIn K cd100 "PailError.__init__" = true) (k100 : PySem.W.keepIn K (.ref f100) = true)
    (e1P : PySem.W.subIn K (.ref CP) (.type "BaseException") = some true) (e2P : PySem.W.isClsIn K CP = true) (e3P : PySem.W.typeIn K (.ref CP) = some (.type "type")) (vV : PySem.W.findCls K (.type "ValueError") (.type "type") "__init__" = some (.val (.builtin "ValueError.__init__")))
    {C101 N101 : Addr} {nm101 q101 : Str} {bs101 bm101 sub101 : List Value} {sn101 : List Str} {ab101 : Bool} {col101 : Option Bool} {dd101 : Option Addr} {m0101 m1101 m2101 m3101 m5101 : Option Value}
    (aC101 : PySem.W.nsIn K mainGlobals "BadText" = some (some (.ref C101))) (xL101 : K.lookup C101 = some (excClassObj nm101 q101 C101 N101 bs101 bm101 true sn101 sub101 ab101 col101 dd101 m0101 m1101 m2101 m3101 m5101 "ValueError.__new__")) (rv101 : PySem.HandSPX.refsVE bm101 = true)
    (sa101 : PySem.W.findIn K (.ref C101) "__setattr__" = some (some (.builtin "object.__setattr__"))) (ga101 : PySem.W.findIn K (.ref C101) "__getattribute__" = some (some (.builtin "BaseException.__getattribute__"))) (gg101 : PySem.W.findIn K (.ref C101) "__getattr__" = some none) (nw101 : PySem.W.findIn K (.ref C101) "word" = some none)
    {f101 : Addr} {od101 an101 : Option Addr} {sl101 : Array (Option Value)} {oc101 kV101 dc101 pm101 ct101 : Value} {cd101 : Value} (a101 : PySem.W.findIn K (.ref C101) "__init__" = some (some (.ref f101))) (l101 : K.lookup f101 = some ⟨oc101, od101, .func (PySem.W.fnOf "__init__" "BadText.__init__" (defArgs s_p_BadText___init__) (defBody s_p_BadText___init__) (defScope s_p_BadText___init__) .none kV101 dc101 pm101 an101 cd101 ct101), sl101⟩) (c101_ : PySem.W.codeIn K cd101 "BadText.__init__" = true) (k101 : PySem.W.keepIn K (.ref f101) = true)
    (tI101 : PySem.W.typeIn K (.ref f101) = some (.type "function")) (kC101 : PySem.W.keepIn K (.ref C101) = true) (eC101 : PySem.W.subIn K (.ref C101) (.type "BaseException") = some true) (tC101 : PySem.W.typeIn K (.ref C101) = some (.type "type")) (hC101 : PySem.W.hasDictIn K C101 = true) (sC101 : PySem.W.subIn K (.ref C101) (.ref CP) = some true)
    (z_ValueError : PySem.W.nsIn K mainGlobals "ValueError" = some none)
    (z_all : PySem.W.nsIn K mainGlobals "all" = some none)
    (z_bool : PySem.W.nsIn K mainGlobals "bool" = some none)
    (z_int : PySem.W.nsIn K mainGlobals "int" = some none)
    (z_isinstance : PySem.W.nsIn K mainGlobals "isinstance" = some none)
    (z_len : PySem.W.nsIn K mainGlobals "len" = some none)
    (z_list : PySem.W.nsIn K mainGlobals "list" = some none)
    (z_max : PySem.W.nsIn K mainGlobals "max" = some none)
    (z_min : PySem.W.nsIn K mainGlobals "min" = some none)
    (z_range : PySem.W.nsIn K mainGlobals "range" = some none)
    (z_str : PySem.W.nsIn K mainGlobals "str" = some none)
    (z_sum : PySem.W.nsIn K mainGlobals "sum" = some none)
    (z_tuple : PySem.W.nsIn K mainGlobals "tuple" = some none)
    (z_zip : PySem.W.nsIn K mainGlobals "zip" = some none)
    {d_FORMS : Addr} {e_FORMS : Array DictEntry} {n_FORMS : Nat} (y_FORMS : PySem.W.nsIn K mainGlobals "FORMS" = some (some (.ref d_FORMS))) (l_FORMS : K.lookup d_FORMS = some ⟨.type "dict", none, .dict e_FORMS n_FORMS, #[]⟩) (h_FORMS : PySem.W.KeysLit w.params e_FORMS.toList) (o_FORMS : (d_FORMS == sysModules) = false)
    {t_FORMS0 : Addr} {od_FORMS0 : Option Addr} {its_FORMS0 : Array Value} {n_FORMS0 : Nat} {sl_FORMS0 : Array (Option Value)} (v_FORMS0 : PySem.W.nsIn K d_FORMS "hire" = some (some (.ref t_FORMS0))) (x_FORMS0 : K.lookup t_FORMS0 = some ⟨.type "tuple", od_FORMS0, .seq its_FORMS0 n_FORMS0, sl_FORMS0⟩) (w_FORMS0 : its_FORMS0.size ≤ sizeLine ∧ Vals [.str "name", .str "number"] its_FORMS0.toList)
    {t_FORMS1 : Addr} {od_FORMS1 : Option Addr} {its_FORMS1 : Array Value} {n_FORMS1 : Nat} {sl_FORMS1 : Array (Option Value)} (v_FORMS1 : PySem.W.nsIn K d_FORMS "dismiss" = some (some (.ref t_FORMS1))) (x_FORMS1 : K.lookup t_FORMS1 = some ⟨.type "tuple", od_FORMS1, .seq its_FORMS1 n_FORMS1, sl_FORMS1⟩) (w_FORMS1 : its_FORMS1.size ≤ sizeLine ∧ Vals [.str "name"] its_FORMS1.toList)
    {t_FORMS2 : Addr} {od_FORMS2 : Option Addr} {its_FORMS2 : Array Value} {n_FORMS2 : Nat} {sl_FORMS2 : Array (Option Value)} (v_FORMS2 : PySem.W.nsIn K d_FORMS "send" = some (some (.ref t_FORMS2))) (x_FORMS2 : K.lookup t_FORMS2 = some ⟨.type "tuple", od_FORMS2, .seq its_FORMS2 n_FORMS2, sl_FORMS2⟩) (w_FORMS2 : its_FORMS2.size ≤ sizeLine ∧ Vals [.str "name", .str "number"] its_FORMS2.toList)
    {t_FORMS3 : Addr} {od_FORMS3 : Option Addr} {its_FORMS3 : Array Value} {n_FORMS3 : Nat} {sl_FORMS3 : Array (Option Value)} (v_FORMS3 : PySem.W.nsIn K d_FORMS "call" = some (some (.ref t_FORMS3))) (x_FORMS3 : K.lookup t_FORMS3 = some ⟨.type "tuple", od_FORMS3, .seq its_FORMS3 n_FORMS3, sl_FORMS3⟩) (w_FORMS3 : its_FORMS3.size ≤ sizeLine ∧ Vals [.str "name"] its_FORMS3.toList)
    {t_FORMS4 : Addr} {od_FORMS4 : Option Addr} {its_FORMS4 : Array Value} {n_FORMS4 : Nat} {sl_FORMS4 : Array (Option Value)} (v_FORMS4 : PySem.W.nsIn K d_FORMS "stay" = some (some (.ref t_FORMS4))) (x_FORMS4 : K.lookup t_FORMS4 = some ⟨.type "tuple", od_FORMS4, .seq its_FORMS4 n_FORMS4, sl_FORMS4⟩) (w_FORMS4 : its_FORMS4.size ≤ sizeLine ∧ Vals [.str "name"] its_FORMS4.toList)
    {t_FORMS5 : Addr} {od_FORMS5 : Option Addr} {its_FORMS5 : Array Value} {n_FORMS5 : Nat} {sl_FORMS5 : Array (Option Value)} (v_FORMS5 : PySem.W.nsIn K d_FORMS "swap" = some (some (.ref t_FORMS5))) (x_FORMS5 : K.lookup t_FORMS5 = some ⟨.type "tuple", od_FORMS5, .seq its_FORMS5 n_FORMS5, sl_FORMS5⟩) (w_FORMS5 : its_FORMS5.size ≤ sizeLine ∧ Vals [.str "name"] its_FORMS5.toList)
    {t_FORMS6 : Addr} {od_FORMS6 : Option Addr} {its_FORMS6 : Array Value} {n_FORMS6 : Nat} {sl_FORMS6 : Array (Option Value)} (v_FORMS6 : PySem.W.nsIn K d_FORMS "pace" = some (some (.ref t_FORMS6))) (x_FORMS6 : K.lookup t_FORMS6 = some ⟨.type "tuple", od_FORMS6, .seq its_FORMS6 n_FORMS6, sl_FORMS6⟩) (w_FORMS6 : its_FORMS6.size ≤ sizeLine ∧ Vals [.str "name", .str "number"] its_FORMS6.toList)
    {t_FORMS7 : Addr} {od_FORMS7 : Option Addr} {its_FORMS7 : Array Value} {n_FORMS7 : Nat} {sl_FORMS7 : Array (Option Value)} (v_FORMS7 : PySem.W.nsIn K d_FORMS "go" = some (some (.ref t_FORMS7))) (x_FORMS7 : K.lookup t_FORMS7 = some ⟨.type "tuple", od_FORMS7, .seq its_FORMS7 n_FORMS7, sl_FORMS7⟩) (w_FORMS7 : its_FORMS7.size ≤ sizeLine ∧ Vals [.str "number", .str "number"] its_FORMS7.toList)
    {t_FORMS8 : Addr} {od_FORMS8 : Option Addr} {its_FORMS8 : Array Value} {n_FORMS8 : Nat} {sl_FORMS8 : Array (Option Value)} (v_FORMS8 : PySem.W.nsIn K d_FORMS "outs" = some (some (.ref t_FORMS8))) (x_FORMS8 : K.lookup t_FORMS8 = some ⟨.type "tuple", od_FORMS8, .seq its_FORMS8 n_FORMS8, sl_FORMS8⟩) (w_FORMS8 : its_FORMS8.size ≤ sizeLine ∧ Vals [.str "number", .str "number"] its_FORMS8.toList)
    {t_MOST_FIGURES : Tok} (y_MOST_FIGURES : PySem.W.nsIn K mainGlobals "MOST_FIGURES" = some (some (.int 9 t_MOST_FIGURES)))
    {t_MOST_LETTERS : Tok} (y_MOST_LETTERS : PySem.W.nsIn K mainGlobals "MOST_LETTERS" = some (some (.int 8 t_MOST_LETTERS)))
    (ndT : ([P6, P9, P19] : List Addr).Nodup)
    : LamX.LawAtS l w K CX0 24 63 "_law_script" mg fa h := by
  have e := hfa.symm.trans (PySem.W.mg_of X G a19)
  cases e
  have hnT : (([(P6, none), (P9, none), (P19, some (("law" : Str) ++ ".<locals>." ++ "<lambda>"))] : Tb).map (·.1)).Nodup := ndT
  have T1 := fun_mk (st := s_l_word) l1 c1_ k1
  have b1 := T1.binds (ps := ["_law_asked"]) fun _ _ _ _ _ _ us hl => match us, hl with | [_], _ => rfl
  have T2 := fun_mk (st := s_l_cell) l2 c2_ k2
  have b2 := T2.binds (ps := ["_law_script", "_law_k"]) fun _ _ _ _ _ _ us hl => match us, hl with | [_, _], _ => rfl
  have T3 := fun_mk (st := s_l_draws) l3 c3_ k3
  have b3 := T3.binds (ps := ["_law_cell_here", "_law_parts"]) fun _ _ _ _ _ _ us hl => match us, hl with | [_, _], _ => rfl
  have T4 := fun_mk (st := s_l_many) l4 c4_ k4
  have b4 := T4.binds (ps := ["_law_script", "_law_few"]) fun _ _ _ _ _ _ us hl => match us, hl with | [_, _], _ => rfl
  have T5 := fun_mk (st := s_l_split) l5 c5_ k5
  have b5 := T5.binds (ps := ["_law_cell_here", "_law_many_here"]) fun _ _ _ _ _ _ us hl => match us, hl with | [_, _], _ => rfl
  have T6 : FunC K "is_name" "is_name" s_p_is_name f6 _ c6 := ⟨⟨oc6, od6, kV6, dc6, pm6, an6, ct6, sl6, rfl, l6, c6_⟩, k6⟩
  have b6 := T6.binds (ps := ["text"]) fun _ _ _ _ _ us hl => match us, hl with | [_], _ => rfl
  have T7 := fun_mk (st := s_l_same) l7 c7_ k7
  have b7 := T7.binds (ps := ["_law_found", "_law_due"]) fun _ _ _ _ _ _ us hl => match us, hl with | [_, _], _ => rfl
  have T8 := fun_mk (st := s_p_deed_text) l8 c8_ k8
  have b8 := T8.binds (ps := ["deed"]) fun _ _ _ _ _ _ us hl => match us, hl with | [_], _ => rfl
  have T9 : FunC K "are_figures" "are_figures" s_p_are_figures f9 _ c9 := ⟨⟨oc9, od9, kV9, dc9, pm9, an9, ct9, sl9, rfl, l9, c9_⟩, k9⟩
  have b9 := T9.binds (ps := ["text"]) fun _ _ _ _ _ us hl => match us, hl with | [_], _ => rfl
  have T10 := fun_mk (st := s_p_read_number) l10 c10_ k10
  have b10 := T10.binds (ps := ["text"]) fun _ _ _ _ _ _ us hl => match us, hl with | [_], _ => rfl
  have T11 := fun_mk (st := s_p_read_thing) l11 c11_ k11
  have b11 := T11.binds (ps := ["kind", "text"]) fun _ _ _ _ _ _ us hl => match us, hl with | [_, _], _ => rfl
  have T12 := fun_mk (st := s_p_read_things) l12 c12_ k12
  have b12 := T12.binds (ps := ["form", "texts"]) fun _ _ _ _ _ _ us hl => match us, hl with | [_, _], _ => rfl
  have T13 := fun_mk (st := s_p_read_way) l13 c13_ k13
  have b13 := T13.binds (ps := ["texts"]) fun _ _ _ _ _ _ us hl => match us, hl with | [_], _ => rfl
  have T14 := fun_mk (st := s_p_read_deed) l14 c14_ k14
  have b14 := T14.binds (ps := ["text"]) fun _ _ _ _ _ _ us hl => match us, hl with | [_], _ => rfl
  have T15 := fun_mk (st := s_l_deed_text) l15 c15_ k15
  have b15 := T15.binds (ps := ["_law_deed"]) fun _ _ _ _ _ _ us hl => match us, hl with | [_], _ => rfl
  have T16 := fun_mk (st := s_l_any_number) l16 c16_ k16
  have b16 := T16.binds (ps := ["_law_drawn"]) fun _ _ _ _ _ _ us hl => match us, hl with | [_], _ => rfl
  have T17 := fun_mk (st := s_l_any_name) l17 c17_ k17
  have b17 := T17.binds (ps := ["_law_cell_here"]) fun _ _ _ _ _ _ us hl => match us, hl with | [_], _ => rfl
  have T18 := fun_mk (st := s_l_any_deed) l18 c18_ k18
  have b18 := T18.binds (ps := ["_law_cell_here"]) fun _ _ _ _ _ _ us hl => match us, hl with | [_], _ => rfl
  have T19 : FunC K "law" "law" s_LAW fa _ c19 := ⟨⟨oc19, od19, kV19, dc19, pm19, an19, ct19, sl19, rfl, l19, c19_⟩, k19⟩
  have T100 := fun_mk (st := s_p_PailError___init__) l100 c100_ k100
  have b100 := T100.binds (ps := ["self", "word"]) fun _ _ _ _ _ _ us hl => match us, hl with | [_, _], _ => rfl
  have T101 := fun_mk (st := s_p_BadText___init__) l101 c101_ k101
  have b101 := T101.binds (ps := ["self"]) fun _ _ _ _ _ _ us hl => match us, hl with | [_], _ => rfl
  have B : Bn mg := ⟨PySem.W.mg_none_of X G z_ValueError, PySem.W.mg_none_of X G z_all, PySem.W.mg_none_of X G z_bool, PySem.W.mg_none_of X G z_int, PySem.W.mg_none_of X G z_isinstance, PySem.W.mg_none_of X G z_len, PySem.W.mg_none_of X G z_list, PySem.W.mg_none_of X G z_max, PySem.W.mg_none_of X G z_min, PySem.W.mg_none_of X G z_range, PySem.W.mg_none_of X G z_str, PySem.W.mg_none_of X G z_sum, PySem.W.mg_none_of X G z_tuple, PySem.W.mg_none_of X G z_zip⟩
  have H6 := tabs _ _ _ r6 (tab_in a6 l6 rfl rfl v6 p6)
  have H9 := tabs _ _ _ r9 (tab_in a9 l9 rfl rfl v9 p9)
  have H19 := tabs _ _ _ r19 (tab_in a19 l19 rfl rfl v19 p19)
  refine ⟨PySem.W.fnOf "law" "law" (defArgs s_LAW) (defBody s_LAW) (defScope s_LAW) .none kV19 dc19 pm19 an19 (.ref c19) ct19, [(c6, P6), (c9, P9), (c19, P19)], sp_LAW K [(P6, none), (P9, none), (P19, some (("law" : Str) ++ ".<locals>." ++ "<lambda>"))], ?_, ?_, ?_, fun s v => .of_eq rfl, ?_, fun base _ _ TBs => ?_⟩
  · intro p hp
    simp only [List.mem_cons, List.not_mem_nil, or_false] at hp
    rcases hp with rfl | rfl | rfl
    · exact H6.2
    · exact H9.2
    · exact H19.2
  · intro p hp
    simp only [List.mem_cons, List.not_mem_nil, or_false] at hp
    rcases hp with rfl | rfl | rfl
    · exact n6
    · exact n9
    · exact n19
  · intro p hp
    simp only [List.mem_cons, List.not_mem_nil, or_false] at hp
    rcases hp with rfl | rfl | rfl
    · exact H6.1
    · exact H9.1
    · exact H19.1
  · intro H a ns hlen hbits hT hS
    refine ⟨a, ns, rfl, hS, hlen, hbits, ?_, fun _ => rfl⟩
    intro p hp
    simp only [List.mem_cons, List.not_mem_nil, or_false] at hp
    rcases hp with rfl | rfl | rfl
    · exact okG0 (hT (c6, P6) (by simp))
    · exact okG0 (hT (c9, P9) (by simp))
    · exact okS0 (hT (c19, P19) (by simp))
  have B6 : LamX.TabB base mg c6 P6 := TBs (c6, P6) (by simp)
  have B9 : LamX.TabB base mg c9 P9 := TBs (c9, P9) (by simp)
  have B19 : LamX.TabB base mg c19 P19 := TBs (c19, P19) (by simp)
  have okP := ok_PailError (P := l.prog) (w := w) (mg := mg) (base := base) T100 (PySem.W.mg_none_of X G z_ValueError) vV
  have R_BadText : Err l.prog w K mg base CP "BadText" "bad text" := ⟨⟨C101, f101, _, PySem.W.mg_of X G aC101, ⟨⟨nm101, q101, N101, bs101, bm101, sn101, sub101, ab101, col101, dd101, m0101, m1101, m2101, m3101, m5101, xL101, rv101⟩, sa101, eC101, tC101, kC101⟩, ⟨ga101, gg101, eC101, hC101⟩, nw101, exm_of e1P e2P e3P sC101, a101, tI101, ok_BadText T101 ⟨rdP, gaP⟩ a100 okP (PySem.W.mg_of X G aCP) k100 b100, b101⟩⟩
  have W : Word K mg CP := ⟨⟨f1, _, T1, PySem.W.mg_of X G a1, b1, PySem.W.mg_of X G aCP⟩⟩
  have kd_FORMS : KDict K w d_FORMS e_FORMS n_FORMS := ⟨l_FORMS, h_FORMS, o_FORMS⟩
  have vd_FORMS : ∀ q ∈ tab_FORMS, ∃ t, PySem.W.nsIn K d_FORMS q.1 = some (some (.ref t)) ∧ ∀ H, SqT K H t (q.2.map V.str) := fun q hq => by
    simp only [tab_FORMS, List.mem_cons, List.not_mem_nil, or_false] at hq
    rcases hq with rfl | rfl | rfl | rfl | rfl | rfl | rfl | rfl | rfl
    · exact ⟨_, v_FORMS0, tup_const x_FORMS0 w_FORMS0.1 w_FORMS0.2⟩
    · exact ⟨_, v_FORMS1, tup_const x_FORMS1 w_FORMS1.1 w_FORMS1.2⟩
    · exact ⟨_, v_FORMS2, tup_const x_FORMS2 w_FORMS2.1 w_FORMS2.2⟩
    · exact ⟨_, v_FORMS3, tup_const x_FORMS3 w_FORMS3.1 w_FORMS3.2⟩
    · exact ⟨_, v_FORMS4, tup_const x_FORMS4 w_FORMS4.1 w_FORMS4.2⟩
    · exact ⟨_, v_FORMS5, tup_const x_FORMS5 w_FORMS5.1 w_FORMS5.2⟩
    · exact ⟨_, v_FORMS6, tup_const x_FORMS6 w_FORMS6.1 w_FORMS6.2⟩
    · exact ⟨_, v_FORMS7, tup_const x_FORMS7 w_FORMS7.1 w_FORMS7.2⟩
    · exact ⟨_, v_FORMS8, tup_const x_FORMS8 w_FORMS8.1 w_FORMS8.2⟩
  have F_l_cell : Fn l.prog w K mg base 1 "_law_cell" ["_law_script", "_law_k"] (sp_l_cell K [(P6, none), (P9, none), (P19, some (("law" : Str) ++ ".<locals>." ++ "<lambda>"))]) := Fn.mk' (ok_l_cell (T := [(P6, none), (P9, none), (P19, some (("law" : Str) ++ ".<locals>." ++ "<lambda>"))]) T2 B    ) (PySem.W.mg_of X G a2) k2 b2
  have F_l_draws : Fn l.prog w K mg base 1 "_law_draws" ["_law_cell_here", "_law_parts"] (sp_l_draws K [(P6, none), (P9, none), (P19, some (("law" : Str) ++ ".<locals>." ++ "<lambda>"))]) := Fn.mk' (ok_l_draws (T := [(P6, none), (P9, none), (P19, some (("law" : Str) ++ ".<locals>." ++ "<lambda>"))]) T3    ) (PySem.W.mg_of X G a3) k3 b3
  have F_l_many : Fn l.prog w K mg base 1 "_law_many" ["_law_script", "_law_few"] (sp_l_many K [(P6, none), (P9, none), (P19, some (("law" : Str) ++ ".<locals>." ++ "<lambda>"))]) := Fn.mk' (ok_l_many (T := [(P6, none), (P9, none), (P19, some (("law" : Str) ++ ".<locals>." ++ "<lambda>"))]) T4 B    ) (PySem.W.mg_of X G a4) k4 b4
  have F_l_split : Fn l.prog w K mg base 1 "_law_split" ["_law_cell_here", "_law_many_here"] (sp_l_split K [(P6, none), (P9, none), (P19, some (("law" : Str) ++ ".<locals>." ++ "<lambda>"))]) := Fn.mk' (ok_l_split (T := [(P6, none), (P9, none), (P19, some (("law" : Str) ++ ".<locals>." ++ "<lambda>"))]) T5 B    ) (PySem.W.mg_of X G a5) k5 b5
  have F_p_is_name : Fn l.prog w K mg base 1 "is_name" ["text"] (sp_p_is_name K [(P6, none), (P9, none), (P19, some (("law" : Str) ++ ".<locals>." ++ "<lambda>"))]) := Fn.mk' (ok_p_is_name (T := [(P6, none), (P9, none), (P19, some (("law" : Str) ++ ".<locals>." ++ "<lambda>"))]) T6 hnT (by simp) (gx_lam B6) B ⟨⟨_, rfl⟩, PySem.W.mg_of X G y_MOST_LETTERS⟩   ) (PySem.W.mg_of X G a6) k6 b6
  have F_l_same : Fn l.prog w K mg base 6 "_law_same" ["_law_found", "_law_due"] (sp_l_same K [(P6, none), (P9, none), (P19, some (("law" : Str) ++ ".<locals>." ++ "<lambda>"))]) := Fn.mk' (ok_l_same (T := [(P6, none), (P9, none), (P19, some (("law" : Str) ++ ".<locals>." ++ "<lambda>"))]) T7 B (PySem.W.mg_of X G a7) b7    ) (PySem.W.mg_of X G a7) k7 b7
  have F_p_deed_text : Fn l.prog w K mg base 1 "deed_text" ["deed"] (sp_p_deed_text K [(P6, none), (P9, none), (P19, some (("law" : Str) ++ ".<locals>." ++ "<lambda>"))]) := Fn.mk' (ok_p_deed_text (T := [(P6, none), (P9, none), (P19, some (("law" : Str) ++ ".<locals>." ++ "<lambda>"))]) T8 B    ) (PySem.W.mg_of X G a8) k8 b8
  have F_p_are_figures : Fn l.prog w K mg base 1 "are_figures" ["text"] (sp_p_are_figures K [(P6, none), (P9, none), (P19, some (("law" : Str) ++ ".<locals>." ++ "<lambda>"))]) := Fn.mk' (ok_p_are_figures (T := [(P6, none), (P9, none), (P19, some (("law" : Str) ++ ".<locals>." ++ "<lambda>"))]) T9 hnT (by simp) (gx_lam B9) B ⟨⟨_, rfl⟩, PySem.W.mg_of X G y_MOST_FIGURES⟩   ) (PySem.W.mg_of X G a9) k9 b9
  have F_p_read_number : Fx l.prog w K mg base 4 "read_number" ["text"] (sp_p_read_number K [(P6, none), (P9, none), (P19, some (("law" : Str) ++ ".<locals>." ++ "<lambda>"))] CP) := Fx.mk' (ok_p_read_number (T := [(P6, none), (P9, none), (P19, some (("law" : Str) ++ ".<locals>." ++ "<lambda>"))]) T10 B  R_BadText F_p_are_figures ) (PySem.W.mg_of X G a10) k10 b10
  have F_p_read_thing : Fx l.prog w K mg base 5 "read_thing" ["kind", "text"] (sp_p_read_thing K [(P6, none), (P9, none), (P19, some (("law" : Str) ++ ".<locals>." ++ "<lambda>"))] CP) := Fx.mk' (ok_p_read_thing (T := [(P6, none), (P9, none), (P19, some (("law" : Str) ++ ".<locals>." ++ "<lambda>"))]) T11  R_BadText F_p_is_name F_p_read_number ) (PySem.W.mg_of X G a11) k11 b11
  have F_p_read_things : Fx l.prog w K mg base 6 "read_things" ["form", "texts"] (sp_p_read_things K [(P6, none), (P9, none), (P19, some (("law" : Str) ++ ".<locals>." ++ "<lambda>"))] CP) := Fx.mk' (ok_p_read_things (T := [(P6, none), (P9, none), (P19, some (("law" : Str) ++ ".<locals>." ++ "<lambda>"))]) T12 B  R_BadText F_p_read_thing ) (PySem.W.mg_of X G a12) k12 b12
  have F_p_read_way : Fx l.prog w K mg base 5 "read_way" ["texts"] (sp_p_read_way K [(P6, none), (P9, none), (P19, some (("law" : Str) ++ ".<locals>." ++ "<lambda>"))] CP) := Fx.mk' (ok_p_read_way (T := [(P6, none), (P9, none), (P19, some (("law" : Str) ++ ".<locals>." ++ "<lambda>"))]) T13 B  R_BadText F_p_read_number ) (PySem.W.mg_of X G a13) k13 b13
  have F_p_read_deed : Fx l.prog w K mg base 7 "read_deed" ["text"] (sp_p_read_deed K [(P6, none), (P9, none), (P19, some (("law" : Str) ++ ".<locals>." ++ "<lambda>"))] CP) := Fx.mk' (ok_p_read_deed (T := [(P6, none), (P9, none), (P19, some (("law" : Str) ++ ".<locals>." ++ "<lambda>"))]) T14 B (PySem.W.mg_of X G y_FORMS) kd_FORMS vd_FORMS R_BadText F_p_read_things F_p_read_way ) (PySem.W.mg_of X G a14) k14 b14
  have F_l_deed_text : Fn l.prog w K mg base 1 "_law_deed_text" ["_law_deed"] (sp_l_deed_text K [(P6, none), (P9, none), (P19, some (("law" : Str) ++ ".<locals>." ++ "<lambda>"))]) := Fn.mk' (ok_l_deed_text (T := [(P6, none), (P9, none), (P19, some (("law" : Str) ++ ".<locals>." ++ "<lambda>"))]) T15 B    ) (PySem.W.mg_of X G a15) k15 b15
  have F_l_any_number : Fn l.prog w K mg base 1 "_law_any_number" ["_law_drawn"] (sp_l_any_number K [(P6, none), (P9, none), (P19, some (("law" : Str) ++ ".<locals>." ++ "<lambda>"))]) := Fn.mk' (ok_l_any_number (T := [(P6, none), (P9, none), (P19, some (("law" : Str) ++ ".<locals>." ++ "<lambda>"))]) T16    ) (PySem.W.mg_of X G a16) k16 b16
  have F_l_any_name : Fn l.prog w K mg base 2 "_law_any_name" ["_law_cell_here"] (sp_l_any_name K [(P6, none), (P9, none), (P19, some (("law" : Str) ++ ".<locals>." ++ "<lambda>"))]) := Fn.mk' (ok_l_any_name (T := [(P6, none), (P9, none), (P19, some (("law" : Str) ++ ".<locals>." ++ "<lambda>"))]) T17   F_l_draws ) (PySem.W.mg_of X G a17) k17 b17
  have F_l_any_deed : Fn l.prog w K mg base 3 "_law_any_deed" ["_law_cell_here"] (sp_l_any_deed K [(P6, none), (P9, none), (P19, some (("law" : Str) ++ ".<locals>." ++ "<lambda>"))]) := Fn.mk' (ok_l_any_deed (T := [(P6, none), (P9, none), (P19, some (("law" : Str) ++ ".<locals>." ++ "<lambda>"))]) T18 B   F_l_draws F_l_split F_l_any_number F_l_any_name ) (PySem.W.mg_of X G a18) k18 b18
  exact ok_LAW (T := [(P6, none), (P9, none), (P19, some (("law" : Str) ++ ".<locals>." ++ "<lambda>"))]) T19 hnT (by simp) B19 B   W F_l_cell F_l_many F_l_same F_p_deed_text F_p_read_deed F_l_deed_text F_l_any_deed 
end My
open PySem PySem.W PyProof.Rows
set_option maxRecDepth 100000 in
set_option maxHeartbeats 0 in
theorem PySem.Challenge.cw_pailchain_k53_deeds_as_texts_holds : PySem.Challenge.rw_pailchain_k53_deeds_as_texts.Holds := by
  w_on; o_law; k_head; (case hw => w_witness2)
  k_fill
  refine My.walk_tabs (l := PySem.Challenge.rw_pailchain_k53_deeds_as_texts) (n := 63) (k := 24) (x := "_law_script") (CX := fun _ => L2.CX0) rfl (by decide) rfl ⟨rfl, by decide, by decide⟩ (by first | exact fun w h Y => PySem.W.kIn_of Y | exact fun w h Y => PySem.W.km_in_of Y) ?F (fun _ _ _ _ _ h => h)
  case F =>
    intro w mg fa h Y KX G hmg tabs
    refine' My.all_mk KX G hmg tabs ?a1 ?l1 ?c1_ ?k1 ?a2 ?l2 ?c2_ ?k2 ?a3 ?l3 ?c3_ ?k3 ?a4 ?l4 ?c4_ ?k4 ?a5 ?l5 ?c5_ ?k5 ?a6 ?l6 ?c6_ ?k6 ?r6 ?v6 ?p6 ?n6 ?a7 ?l7 ?c7_ ?k7 ?a8 ?l8 ?c8_ ?k8 ?a9 ?l9 ?c9_ ?k9 ?r9 ?v9 ?p9 ?n9 ?a10 ?l10 ?c10_ ?k10 ?a11 ?l11 ?c11_ ?k11 ?a12 ?l12 ?c12_ ?k12 ?a13 ?l13 ?c13_ ?k13 ?a14 ?l14 ?c14_ ?k14 ?a15 ?l15 ?c15_ ?k15 ?a16 ?l16 ?c16_ ?k16 ?a17 ?l17 ?c17_ ?k17 ?a18 ?l18 ?c18_ ?k18 ?a19 ?l19 ?c19_ ?k19 ?r19 ?v19 ?p19 ?n19 ?aCP ?rdP ?gaP ?a100 ?l100 ?c100_ ?k100 ?e1P ?e2P ?e3P ?vV ?aC101 ?xL101 ?rv101 ?sa101 ?ga101 ?gg101 ?nw101 ?a101 ?l101 ?c101_ ?k101 ?tI101 ?kC101 ?eC101 ?tC101 ?hC101 ?sC101 ?z_ValueError ?z_all ?z_bool ?z_int ?z_isinstance ?z_len ?z_list ?z_max ?z_min ?z_range ?z_str ?z_sum ?z_tuple ?z_zip ?y_FORMS ?l_FORMS ?h_FORMS ?o_FORMS ?v_FORMS0 ?x_FORMS0 ?w_FORMS0 ?v_FORMS1 ?x_FORMS1 ?w_FORMS1 ?v_FORMS2 ?x_FORMS2 ?w_FORMS2 ?v_FORMS3 ?x_FORMS3 ?w_FORMS3 ?v_FORMS4 ?x_FORMS4 ?w_FORMS4 ?v_FORMS5 ?x_FORMS5 ?w_FORMS5 ?v_FORMS6 ?x_FORMS6 ?w_FORMS6 ?v_FORMS7 ?x_FORMS7 ?w_FORMS7 ?v_FORMS8 ?x_FORMS8 ?w_FORMS8 ?y_MOST_FIGURES ?y_MOST_LETTERS ?ndT
    (case a1 => k_is)
    (case l1 => k_is)
    (case c1_ => k_is)
    (case k1 => k_is)
    (case a2 => k_is)
    (case l2 => k_is)
    (case c2_ => k_is)
    (case k2 => k_is)
    (case a3 => k_is)
    (case l3 => k_is)
    (case c3_ => k_is)
    (case k3 => k_is)
    (case a4 => k_is)
    (case l4 => k_is)
    (case c4_ => k_is)
    (case k4 => k_is)
    (case a5 => k_is)
    (case l5 => k_is)
    (case c5_ => k_is)
    (case k5 => k_is)
    (case a6 => k_is)
    (case l6 => k_is)
    (case c6_ => k_is)
    (case k6 => k_is)
    (case r6 => decide +kernel)
    (case v6 => k_is)
    (case p6 => first | exact rfl | decide +kernel)
    (case n6 => first | kernel_rfl | exact rfl)
    (case a7 => k_is)
    (case l7 => k_is)
    (case c7_ => k_is)
    (case k7 => k_is)
    (case a8 => k_is)
    (case l8 => k_is)
    (case c8_ => k_is)
    (case k8 => k_is)
    (case a9 => k_is)
    (case l9 => k_is)
    (case c9_ => k_is)
    (case k9 => k_is)
    (case r9 => decide +kernel)
    (case v9 => k_is)
    (case p9 => first | exact rfl | decide +kernel)
    (case n9 => first | kernel_rfl | exact rfl)
    (case a10 => k_is)
    (case l10 => k_is)
    (case c10_ => k_is)
    (case k10 => k_is)
    (case a11 => k_is)
    (case l11 => k_is)
    (case c11_ => k_is)
    (case k11 => k_is)
    (case a12 => k_is)
    (case l12 => k_is)
    (case c12_ => k_is)
    (case k12 => k_is)
    (case a13 => k_is)
    (case l13 => k_is)
    (case c13_ => k_is)
    (case k13 => k_is)
    (case a14 => k_is)
    (case l14 => k_is)
    (case c14_ => k_is)
    (case k14 => k_is)
    (case a15 => k_is)
    (case l15 => k_is)
    (case c15_ => k_is)
    (case k15 => k_is)
    (case a16 => k_is)
    (case l16 => k_is)
    (case c16_ => k_is)
    (case k16 => k_is)
    (case a17 => k_is)
    (case l17 => k_is)
    (case c17_ => k_is)
    (case k17 => k_is)
    (case a18 => k_is)
    (case l18 => k_is)
    (case c18_ => k_is)
    (case k18 => k_is)
    (case a19 => k_is)
    (case l19 => k_is)
    (case c19_ => k_is)
    (case k19 => k_is)
    (case r19 => decide +kernel)
    (case v19 => k_is)
    (case p19 => first | exact rfl | decide +kernel)
    (case n19 => first | kernel_rfl | exact rfl)
    (case aCP => k_is)
    (case rdP => k_is)
    (case gaP => k_is)
    (case a100 => k_is)
    (case l100 => k_is)
    (case c100_ => k_is)
    (case k100 => k_is)
    (case e1P => k_is)
    (case e2P => k_is)
    (case e3P => k_is)
    (case vV => k_is)
    (case aC101 => k_is)
    (case xL101 => k_is)
    (case rv101 => first | rfl | decide +kernel | k_is)
    (case sa101 => k_is)
    (case ga101 => k_is)
    (case gg101 => k_is)
    (case nw101 => k_is)
    (case a101 => k_is)
    (case l101 => k_is)
    (case c101_ => k_is)
    (case k101 => k_is)
    (case tI101 => k_is)
    (case kC101 => k_is)
    (case eC101 => k_is)
    (case tC101 => k_is)
    (case hC101 => k_is)
    (case sC101 => first | rfl | k_is)
    (case z_ValueError => k_is)
    (case z_all => k_is)
    (case z_bool => k_is)
    (case z_int => k_is)
    (case z_isinstance => k_is)
    (case z_len => k_is)
    (case z_list => k_is)
    (case z_max => k_is)
    (case z_min => k_is)
    (case z_range => k_is)
    (case z_str => k_is)
    (case z_sum => k_is)
    (case z_tuple => k_is)
    (case z_zip => k_is)
    (case y_FORMS => k_is)
    (case l_FORMS => k_is)
    (case h_FORMS => exact ⟨⟨_, _, rfl, rfl⟩, ⟨_, _, rfl, rfl⟩, ⟨_, _, rfl, rfl⟩, ⟨_, _, rfl, rfl⟩, ⟨_, _, rfl, rfl⟩, ⟨_, _, rfl, rfl⟩, ⟨_, _, rfl, rfl⟩, ⟨_, _, rfl, rfl⟩, ⟨_, _, rfl, rfl⟩, trivial⟩)
    (case o_FORMS => first | rfl | decide +kernel)
    (case v_FORMS0 => k_is)
    (case x_FORMS0 => k_is)
    (case w_FORMS0 => first | exact ⟨by decide, .cons ⟨_, rfl⟩ (.cons ⟨_, rfl⟩ .nil)⟩ | exact ⟨by decide, .cons ⟨_, rfl⟩ .nil⟩)
    (case v_FORMS1 => k_is)
    (case x_FORMS1 => k_is)
    (case w_FORMS1 => first | exact ⟨by decide, .cons ⟨_, rfl⟩ (.cons ⟨_, rfl⟩ .nil)⟩ | exact ⟨by decide, .cons ⟨_, rfl⟩ .nil⟩)
    (case v_FORMS2 => k_is)
    (case x_FORMS2 => k_is)
    (case w_FORMS2 => first | exact ⟨by decide, .cons ⟨_, rfl⟩ (.cons ⟨_, rfl⟩ .nil)⟩ | exact ⟨by decide, .cons ⟨_, rfl⟩ .nil⟩)
    (case v_FORMS3 => k_is)
    (case x_FORMS3 => k_is)
    (case w_FORMS3 => first | exact ⟨by decide, .cons ⟨_, rfl⟩ (.cons ⟨_, rfl⟩ .nil)⟩ | exact ⟨by decide, .cons ⟨_, rfl⟩ .nil⟩)
    (case v_FORMS4 => k_is)
    (case x_FORMS4 => k_is)
    (case w_FORMS4 => first | exact ⟨by decide, .cons ⟨_, rfl⟩ (.cons ⟨_, rfl⟩ .nil)⟩ | exact ⟨by decide, .cons ⟨_, rfl⟩ .nil⟩)
    (case v_FORMS5 => k_is)
    (case x_FORMS5 => k_is)
    (case w_FORMS5 => first | exact ⟨by decide, .cons ⟨_, rfl⟩ (.cons ⟨_, rfl⟩ .nil)⟩ | exact ⟨by decide, .cons ⟨_, rfl⟩ .nil⟩)
    (case v_FORMS6 => k_is)
    (case x_FORMS6 => k_is)
    (case w_FORMS6 => first | exact ⟨by decide, .cons ⟨_, rfl⟩ (.cons ⟨_, rfl⟩ .nil)⟩ | exact ⟨by decide, .cons ⟨_, rfl⟩ .nil⟩)
    (case v_FORMS7 => k_is)
    (case x_FORMS7 => k_is)
    (case w_FORMS7 => first | exact ⟨by decide, .cons ⟨_, rfl⟩ (.cons ⟨_, rfl⟩ .nil)⟩ | exact ⟨by decide, .cons ⟨_, rfl⟩ .nil⟩)
    (case v_FORMS8 => k_is)
    (case x_FORMS8 => k_is)
    (case w_FORMS8 => first | exact ⟨by decide, .cons ⟨_, rfl⟩ (.cons ⟨_, rfl⟩ .nil)⟩ | exact ⟨by decide, .cons ⟨_, rfl⟩ .nil⟩)
    (case y_MOST_FIGURES => k_is)
    (case y_MOST_LETTERS => k_is)
    (case ndT => decide +kernel)
