import PyProof.Rows.All
import Wide.All
import OpenK.AllK
import Wide.FinOn
import KE.KStateDown
import KE.KBits
import Lean
import HandS.ForMost
import HandS.More
import HandS.Exc
import HandS.WordsExc
import HandS.Defaults
import HandS.IsInst
import HandS.Wide
import HandS.WideBits
import HandS.Evl
import HandS.Head0
import HandS.Head1
import HandS.Head2
import HandS.HeadEnd
import HandS.HeadHook1
import HandS.HeadHook2
import KE.DataCmp
import HandS.NoneIn
import HandS.HeadHook3
import HandS.HeadHook4
import HandS.Iter
import HandS.More
import HandS.Style
import PyProof.Rows.StrOr
import KE.KIntText
import KE.IntTextLaws
import HandS.Codes
import HandS.Text
import HandS.StrMore
import KE.OsScanText
import HandS.Comp
import HandS.Hot
import HandS.HotCalls
import HandS.ExcIs
import HandS.MakeKwOnly
import PyProof.ZipIter
import HandS.RaiseMore
import KE.KTryMore
import HandS.HeadEnd
import HandS.SlotsOwn
import PySem.Challenge.RW_oncenear_k81_whole_texts_of_numbers_bent
set_option Elab.async false
set_option linter.all false
set_option maxRecDepth 100000
set_option maxHeartbeats 2000000
namespace Onc
open PySem PySem.Spec PyProof.Rows L2 Evl
/-! ### defs and calls -/
section
variable {P : Program} {w : World} {K : PySem.W.Frag} {mg : Str → Option Value} {base : Heap} {x qual : Str} {params : Arguments} {body : List Stmt} {scope : Scope} {dvs : List V} {kws : List (Str × V)} {f : Addr} {fd : FuncData}
theorem ok0 {N ps : List Str} {k : Nat} {sp : Sp} (F : FunD K x qual params body scope dvs kws f fd) (S : FnScope N ps scope) (len : ∀ vs H Q E, sp vs H Q E → vs.length = ps.length)
    (hbody : ∀ (cdv : Value) (A : Around) (outer : List Env) (s : Shared) (H : Hp) (vs : List V) (Q : VK) (E : XK), Room k (A.deeper (envOfC qual scope s.heap.objs.size f cdv)) → sp vs H Q E →
      ∃ t, PSs (cxOf CX0 P w K mg base N qual scope f cdv A outer s H E).nox body t ∧ t { nx := fun _ H' => Q .non H', rt := Q } (start N vs) H) : FnOk P w K mg base CX0 (k + 1) f fd ps sp :=
  F.ok S len fun cdv A outer s H vs Q E hr h => by
    obtain ⟨t, h1, h2⟩ := hbody cdv A outer s H vs Q E hr h
    exact ⟨t, h1.nox, h2⟩
end
structure Cal (P : Program) (w : World) (K : PySem.W.Frag) (mg : Str → Option Value) (base : Heap) (CX : CXT) (k : Nat) (x : Str) (ps : List Str) (sp : Sp) (f : Addr) (fd : FuncData) : Prop where
  ok : FnOk P w K mg base CX k f fd ps sp
  m : mg x = some (.ref f)
  kp : PySem.W.keepIn K (.ref f) = true
  b : Binds K fd ps []
section
variable {X : Cx} {CX : CXT} {k n : Nat} {f : Addr} {fd : FuncData} {ps ks : List Str} {sp : Sp} {E : XK} {x : Str} {p pos : Pos} {kws : List Keyword} {tk : TA} {g : List Value → List Value → List Value} {gV : List V → List V → List V}
/-- f(k = v, ..), no positional ones -/
theorem pe_callN0 (F : FnOk X.prog X.w X.K X.mg X.base CX k f fd ps sp) (hr : Room k X.A) (hg : Gl X x) (hm : X.mg x = some (.ref f)) (hk : PySem.W.keepIn X.K (.ref f) = true) (hb : KBn X.K fd ps 0 ks g gV) (hx : Passes CX X E)
    (hkw : PK X kws tk) (hall : (backToKw pos (keywordEach kws X.env)).all (·.1.isSome) = true := by rfl) (hks : (backToKw pos (keywordEach kws X.env)).filterMap (·.1) = ks := by rfl)
    (hdb : (x == ("__debug__" : Str)) = false := by decide)
    (hpl : ((backTo pos (starEach [] X.env)).any (·.1) || (backToKw pos (keywordEach kws X.env)).any (·.1.isNone)) = false := by rfl) :
    PE X (.Call (.Name x p) [] kws pos) (tCallN 0 ks.length sp gV E tNil tk) := by
  refine ⟨fun pins s σ H Q I h => ?_⟩
  refine wpAny_Call_Name_kw (ld_glob I hg hm ?_ hdb)
  refine PySem.W.callWith_KW0 (h₀ := X.base) I.ok.mod.kin hk hall ?_ hpl
  refine thn (hkw.run pos pins s σ H _ I h) fun ws s2 ⟨zs, H2, I2, rz, l1, l2, q2⟩ => ⟨I2.kIn, ?_⟩
  rw [hks]
  exact run_fnN (us := []) (vs := []) F hr hb hx I2 .nil rz l1 l2 q2
end
section
variable {K : PySem.W.Frag} {x qual : Str} {params : Arguments} {body : List Stmt} {scope : Scope} {dvs : List V} {kws : List (Str × V)} {f : Addr} {fd : FuncData} {ps : List Str}
/-- keywords alone, a def without defaults -/
theorem kb_plain (F : FunD K x qual params body scope [] kws f fd) (ks : List Str) (g : {α : Type} → List α → List α)
    (hrel : ∀ {zs : List V} {ws : List Value}, Vals zs ws → Vals (g zs) (g ws))
    (h : ∀ (kV doc pm : Value) (an : Option Addr) (cdv ct : Value) (ws : List Value), ws.length = ks.length → bindArgs (PySem.W.fnOf x qual params body scope .none kV doc pm an cdv ct) ⟨[], ks.zip ws⟩ = pure (ps.zip (g ws))) : KBn K fd ps 0 ks (fun _ ws => g ws) (fun _ zs => g zs) := by
  obtain ⟨oc, od, dV, kV, doc, pm, an, cdv, ct, osl, rfl, lk, hcd, hD, hK⟩ := F.ex
  rcases hD with ⟨_, rfl⟩ | ⟨e, _⟩
  · refine ⟨fun s us ws X l1 l2 => ?_, fun _ r2 => hrel r2⟩
    have e0 : us = [] := List.length_eq_zero_iff.mp l1
    subst e0
    exact .of_eq (h kV doc pm an cdv ct ws l2)
  · exact absurd rfl e
/-- keywords alone, a def with defaults -/
theorem kb_dfl (F : FunD K x qual params body scope dvs kws f fd) (hd : dvs ≠ []) (ks : List Str) (g : {α : Type} → List α → List α → List α)
    (hrel : ∀ {ds zs : List V} {its ws : List Value}, Vals ds its → Vals zs ws → Vals (g ds zs) (g its ws))
    (h : ∀ (T : Addr) (kV doc pm : Value) (an : Option Addr) (cdv ct : Value) (its ws : List Value), its.length = dvs.length → ws.length = ks.length →
      ∃ k, bindArgs (PySem.W.fnOf x qual params body scope (.ref T) kV doc pm an cdv ct) ⟨[], ks.zip ws⟩ = seqItems? (.ref T) >>= k ∧ k (some its.toArray) = pure (ps.zip (g its ws))) :
    ∃ its : List Value, KBn K fd ps 0 ks (fun _ ws => g its ws) (fun _ zs => g dvs zs) := by
  obtain ⟨oc, od, dV, kV, doc, pm, an, cdv, ct, osl, rfl, lk, hcd, hD, hK⟩ := F.ex
  rcases hD with ⟨e, _⟩ | ⟨_, T, o, its, m, rfl, lT, oT, rT⟩
  · exact absurd e hd
  · refine ⟨its, fun s us ws X l1 l2 => ?_, fun _ r2 => hrel rT r2⟩
    have e0 : us = [] := List.length_eq_zero_iff.mp l1
    subst e0
    obtain ⟨k, e1, e2⟩ := h T kV doc pm an cdv ct its ws rT.length.symm l2
    refine BindsTo.of_looks fun M => ?_
    rw [e1]
    exact looks_items X lT oT (.of_pure e2)
end
/-! ### kinds -/
section
variable {K : PySem.W.Frag} {H H' : Hp}
theorem tyX_ex {v : V} {t : Value} (e : Ex H H') (h : TyX K H v t) : TyX K H' v t := by
  cases h with
  | base b =>
    cases b with
    | non => exact .base .non
    | bl x => exact .base (.bl x)
    | int x => exact .base (.int x)
    | str x => exact .base (.str x)
    | flt x => exact .base (.flt x)
    | lst q => exact .base (.lst (e _ _ q))
    | frz q => exact .base (.frz (e _ _ q))
    | tup q => exact .base (.tup (e _ _ q))
    | dK q => exact .base (.dK (e _ _ q))
    | dT q => exact .base (.dT (e _ _ q))
    | ins q a b c d f => exact .base (.ins (e _ _ q) a b c d f)
  | byt b => exact .byt b
  | set q => exact .set (e _ _ q)
  | kList q c => exact .kList q c
  | kTuple q c => exact .kTuple q c
  | kDict q c => exact .kDict q c
  | fTuple q => exact .fTuple (e _ _ q)
  | fDict q => exact .fDict (e _ _ q)
theorem sqT_ty {a : Addr} {xs : List V} (h : SqT K H a xs) : TyX K H (.ref a) (.type "tuple") := by
  rcases h with (h | ⟨o, h⟩) | ⟨o, its, n, h1, h2, _⟩
  · exact .base (.tup h)
  · exact .fTuple h
  · exact .kTuple h1 h2
theorem sqL_ty {a : Addr} {xs : List V} (h : SqL K H a xs) : TyX K H (.ref a) (.type "list") := by
  rcases h with (h | ⟨o, h⟩) | ⟨o, its, n, h1, h2, _⟩
  · exact .base (.lst h)
  · exact .base (.frz h)
  · exact .kList h1 h2
/-- whether v is a whole number, by its kind -/
inductive WholeIs (K : PySem.W.Frag) (H : Hp) : V → Bool → Prop
  | int (i : Int) : WholeIs K H (.int i) true
  | bl (x : Bool) : WholeIs K H (.bl x) false
  | no {v : V} {t : Value} {b2 : Bool} (h : TyX K H v t) (k1 : PySem.W.kitOne K t (.type "int") = some false) (k2 : PySem.W.kitOne K t (.type "bool") = some b2) : WholeIs K H v false
theorem ty_int (i : Int) : TyX K H (.int i) (.type "int") := .base (.int i)
theorem ty_bl (x : Bool) : TyX K H (.bl x) (.type "bool") := .base (.bl x)
theorem kit_ii : PySem.W.kitOne K (.type "int") (.type "int") = some true := kit_ty (by decide +kernel : kitB "int" "int" = some true)
theorem kit_ib : PySem.W.kitOne K (.type "int") (.type "bool") = some false := kit_ty (by decide +kernel : kitB "int" "bool" = some false)
theorem kit_bi : PySem.W.kitOne K (.type "bool") (.type "int") = some true := kit_ty (by decide +kernel : kitB "bool" "int" = some true)
theorem kit_bb : PySem.W.kitOne K (.type "bool") (.type "bool") = some true := kit_ty (by decide +kernel : kitB "bool" "bool" = some true)
theorem WholeIs.kinds {v : V} {b : Bool} (h : WholeIs K H v b) : ∃ t b1 b2, TyX K H v t ∧ PySem.W.kitOne K t (.type "int") = some b1 ∧ PySem.W.kitOne K t (.type "bool") = some b2 ∧ b = (b1 && !b2) := by
  cases h with
  | int i => exact ⟨_, _, _, ty_int i, kit_ii, kit_ib, rfl⟩
  | bl x => exact ⟨_, _, _, ty_bl x, kit_bi, kit_bb, rfl⟩
  | no h k1 k2 => exact ⟨_, _, _, h, k1, k2, rfl⟩
def isNumB (m e : Int) : Bool := decide (m % 2 = 1) || (decide (m = 0) && decide (e = 0))
inductive NumIs (K : PySem.W.Frag) (H : Hp) : V → Bool → Prop
  | no {v : V} {t : Value} (h : TyX K H v t) (k : PySem.W.kitOne K t (.type "tuple") = some false) : NumIs K H v false
  | len {a : Addr} {xs : List V} (h : SqT K H a xs) (l : xs.length ≠ 2) : NumIs K H (.ref a) false
  | fst {a : Addr} {x y : V} {b : Bool} (h : SqT K H a [x, y]) (p : WholeIs K H x false) (q : WholeIs K H y b) : NumIs K H (.ref a) false
  | snd {a : Addr} {x y : V} (h : SqT K H a [x, y]) (p : WholeIs K H x true) (q : WholeIs K H y false) : NumIs K H (.ref a) false
  | num {a : Addr} {m e : Int} (h : SqT K H a [.int m, .int e]) : NumIs K H (.ref a) (isNumB m e)
theorem whole_ex {v : V} {b : Bool} (e : Ex H H') (h : WholeIs K H v b) : WholeIs K H' v b := by
  cases h with
  | int i => exact .int i
  | bl x => exact .bl x
  | no h k1 k2 => exact .no (tyX_ex e h) k1 k2
theorem whole_int (i : Int) : WholeIs K H (.int i) true := .int i
def isWholeD : PyData → Bool
  | .int _ => true
  | _ => false
theorem whole_dp {v : V} {d : PyData} (h : Dp K H v d) : WholeIs K H v (isWholeD d) := by
  cases h with
  | non => exact .no (.base .non) (kit_ty (by decide +kernel : kitB "NoneType" "int" = some false)) (kit_ty (by decide +kernel : kitB "NoneType" "bool" = some false))
  | bl b => exact .bl b
  | int i => exact .int i
  | str x => exact .no (.base (.str x)) (kit_ty (by decide +kernel : kitB "str" "int" = some false)) (kit_ty (by decide +kernel : kitB "str" "bool" = some false))
  | lst q _ => exact .no (sqL_ty q) (kit_ty (by decide +kernel : kitB "list" "int" = some false)) (kit_ty (by decide +kernel : kitB "list" "bool" = some false))
  | tup q _ => exact .no (sqT_ty q) (kit_ty (by decide +kernel : kitB "tuple" "int" = some false)) (kit_ty (by decide +kernel : kitB "tuple" "bool" = some false))
theorem num_dp {v : V} {d : PyData} (h : Dp K H v d) : ∃ b, NumIs K H v b := by
  cases h with
  | non => exact ⟨_, .no (.base .non) (kit_ty (by decide +kernel : kitB "NoneType" "tuple" = some false))⟩
  | bl b => exact ⟨_, .no (.base (.bl b)) (kit_ty (by decide +kernel : kitB "bool" "tuple" = some false))⟩
  | int i => exact ⟨_, .no (.base (.int i)) (kit_ty (by decide +kernel : kitB "int" "tuple" = some false))⟩
  | str x => exact ⟨_, .no (.base (.str x)) (kit_ty (by decide +kernel : kitB "str" "tuple" = some false))⟩
  | lst q _ => exact ⟨_, .no (sqL_ty q) (kit_ty (by decide +kernel : kitB "list" "tuple" = some false))⟩
  | @tup a xs ds q r =>
    cases r with
    | nil => exact ⟨_, .len q (by decide)⟩
    | @cons x xs' d1 ds' r1 r2 =>
      cases r2 with
      | nil => exact ⟨_, .len q (by simp)⟩
      | @cons y ys d2 ds'' r3 r4 =>
        cases r4 with
        | cons r5 r6 => exact ⟨_, .len q (by simp)⟩
        | nil =>
          have w1 := whole_dp r1
          have w2 := whole_dp r3
          cases r1 with
          | int m =>
            cases r3 with
            | int e => exact ⟨_, .num q⟩
            | _ => exact ⟨_, .snd q w1 w2⟩
          | _ => exact ⟨_, .fst q w1 w2⟩
theorem num_ex {v : V} {b : Bool} (e : Ex H H') (h : NumIs K H v b) : NumIs K H' v b := by
  cases h with
  | no h k => exact .no (tyX_ex e h) k
  | len h l => exact .len (ex_t e h) l
  | fst h p q => exact .fst (ex_t e h) (whole_ex e p) (whole_ex e q)
  | snd h p q => exact .snd (ex_t e h) (whole_ex e p) (whole_ex e q)
  | num h => exact .num (ex_t e h)
mutual
theorem dp_ex (e : Ex H H') : ∀ (d : PyData) (v : V), Dp K H v d → Dp K H' v d
  | .none, _, h => by cases h; exact .non
  | .bool b, _, h => by cases h; exact .bl b
  | .int i, _, h => by cases h; exact .int i
  | .str x, _, h => by cases h; exact .str x
  | .list ds, _, h => by
    cases h with
    | lst hs ha => exact .lst (ex_l e hs) (dpAll_ex e ds _ ha)
  | .tuple ds, _, h => by
    cases h with
    | tup hs ha => exact .tup (ex_t e hs) (dpAll_ex e ds _ ha)
  | .dict _, _, h => by cases h
theorem dpAll_ex (e : Ex H H') : ∀ (ds : List PyData) (vs : List V), DpAll K H vs ds → DpAll K H' vs ds
  | [], _, h => by cases h; exact .nil
  | d :: ds, _, h => by
    cases h with
    | cons h1 h2 => exact .cons (dp_ex e d _ h1) (dpAll_ex e ds _ h2)
end
theorem dpAll_mem {vs : List V} {ds : List PyData} (h : DpAll K H vs ds) : ∀ {i : Nat} {v : V}, vs[i]? = some v → ∃ d, Dp K H v d := by
  intro i v hv
  induction vs generalizing ds i with
  | nil => simp at hv
  | cons x xs ih =>
    cases h with
    | cons h1 h2 =>
      cases i with
      | zero =>
        have e : x = v := Option.some.inj hv
        subst e
        exact ⟨_, h1⟩
      | succ j => exact ih h2 hv
theorem dpAll_append : ∀ {xs ys : List V} {ds es : List PyData}, DpAll K H xs ds → DpAll K H ys es → DpAll K H (xs ++ ys) (ds ++ es)
  | [], _, [], _, _, h => h
  | _ :: _, _, _ :: _, _, .cons h1 h2, h => .cons h1 (dpAll_append h2 h)
/-! ### data by evaluation -/
def EvD (K : PySem.W.Frag) (te : TE) (σ : L2.St) (H : Hp) : Prop := ∀ H1, Ex H H1 → ∀ Q : VK, (∀ v H2, Ex H1 H2 → (∃ d, Dp K H2 v d) → Q v H2) → te σ H1 Q
def EvDs (K : PySem.W.Frag) (ta : TA) (σ : L2.St) (H : Hp) (n : Nat) : Prop := ∀ H1, Ex H H1 → ∀ Q : List V → Hp → Prop, (∀ vs H2, Ex H1 H2 → (∃ ds, DpAll K H2 vs ds) → vs.length = n → Q vs H2) → ta σ H1 Q
variable {σ : L2.St} {ta tb te : TE}
theorem ed_of {v : V} {d : PyData} (h : Ev te σ H v) (hd : Dp K H v d) : EvD K te σ H := fun H1 e Q q => h H1 e Q fun H2 e2 => q v H2 e2 ⟨d, dp_ex (e.trans e2) d v hd⟩
theorem ed_int {i : Int} (h : Ev te σ H (.int i)) : EvD K te σ H := ed_of h (.int i)
theorem ed_c {v : V} {d : PyData} (hd : Dp K H v d) : EvD K (tC v) σ H := ed_of ev_c hd
theorem eds_nil : EvDs K tNil σ H 0 := fun H1 _ _ q => q [] H1 (Ex.refl H1) ⟨[], .nil⟩ rfl
theorem eds_cons {tr : TA} {n : Nat} (h : EvD K ta σ H) (hr : EvDs K tr σ H n) : EvDs K (tCons ta tr) σ H (n + 1) := fun H1 e Q q =>
  h H1 e _ fun v H2 e2 ⟨d, hd⟩ => hr H2 (e.trans e2) _ fun vs H3 e3 ⟨ds, hds⟩ hl => q (v :: vs) H3 (e2.trans e3) ⟨d :: ds, .cons (dp_ex e3 d v hd) hds⟩ (congrArg Nat.succ hl)
theorem ed_tup {tr : TA} {n : Nat} (h : EvDs K tr σ H n) (hn : n ≤ 100000 := by decide) : EvD K (tTup tr) σ H := fun H1 e Q q =>
  h H1 e _ fun vs H2 e2 ⟨ds, hds⟩ hl => ⟨sz_of (by rw [hl]; exact hn), fun p hp => q (.ref p) _ (e2.trans (Ex.new hp)) ⟨.tuple ds, .tup (st_of upd_same) (dpAll_ex (Ex.new hp) ds vs hds)⟩⟩
theorem ed_lst {tr : TA} {n : Nat} (h : EvDs K tr σ H n) (hn : n ≤ 100000 := by decide) : EvD K (tLst tr) σ H := fun H1 e Q q =>
  h H1 e _ fun vs H2 e2 ⟨ds, hds⟩ hl => ⟨sz_of (by rw [hl]; exact hn), fun p hp => q (.ref p) _ (e2.trans (Ex.new hp)) ⟨.list ds, .lst (sq_of upd_same) (dpAll_ex (Ex.new hp) ds vs hds)⟩⟩
/-- a new list of data -/
def EvLD (K : PySem.W.Frag) (te : TE) (σ : L2.St) (H : Hp) (n : Nat) : Prop := ∀ H1, Ex H H1 → ∀ Q : VK, (∀ p vs H2, Ex H1 H2 → H1 p = none → H2 p = some (.lst vs) → (∃ ds, DpAll K H2 vs ds) → vs.length = n → Q (.ref p) H2) → te σ H1 Q
theorem eld_lst {tr : TA} {n : Nat} (h : EvDs K tr σ H n) (hn : n ≤ 100000 := by decide) : EvLD K (tLst tr) σ H n := fun H1 e Q q =>
  h H1 e _ fun vs H2 e2 ⟨ds, hds⟩ hl => ⟨sz_of (by rw [hl]; exact hn), fun p hp => q p vs _ (e2.trans (Ex.new hp)) (fresh_back e2 hp) upd_same ⟨ds, dpAll_ex (Ex.new hp) ds vs hds⟩ hl⟩
/-- at slot i stands a list of n data -/
def LdAt (K : PySem.W.Frag) (H : Hp) (v : V) (n : Nat) : Prop := ∃ p vs, v = .ref p ∧ H p = some (.lst vs) ∧ vs.length = n ∧ ∃ ds, DpAll K H vs ds
theorem ldAt_ex {v : V} {n : Nat} (e : Ex H H') (h : LdAt K H v n) : LdAt K H' v n := by
  obtain ⟨p, vs, e1, h1, h2, ds, h3⟩ := h
  exact ⟨p, vs, e1, e _ _ h1, h2, ds, dpAll_ex e ds vs h3⟩
theorem eld_cat {v : V} {i n m : Nat} (hv : σ[i]? = some (some v)) (hl : LdAt K H v n) (h : EvLD K tb σ H m) (hn : n + m ≤ 100000 := by decide) : EvLD K (tOp rCat (tVar i) tb) σ H (n + m) := fun H1 e Q q => by
  obtain ⟨a, us, rfl, h1, h2, ds, h3⟩ := hl
  refine ⟨.ref a, hv, h H1 e _ fun p vs H2 e2 hp hvs ⟨es, hes⟩ hlen => ?_⟩
  refine ⟨a, p, us, vs, rfl, rfl, (e.trans e2) _ _ h1, hvs, sz_of (by rw [h2, hlen]; exact hn), fun r hr => ?_⟩
  exact q r (us ++ vs) _ (e2.trans (Ex.new hr)) (fresh_back e2 hr) upd_same ⟨ds ++ es, dpAll_append (dpAll_ex ((e.trans e2).trans (Ex.new hr)) ds us h3) (dpAll_ex (Ex.new hr) es vs hes)⟩ (by rw [List.length_append, h2, hlen])
end
/-! ### isinstance by kinds -/
section
variable {K : PySem.W.Frag} {H : Hp} {v : V} {t : Value} {b : Bool} {Q : VK}
theorem isi_at {T : String} (h : TyX K H v t) (k : PySem.W.kitOne K t (.type T) = some b) (q : Q (.bl b) H) : rIsi K [v, .ty T] H Q := ⟨v, .ty T, t, .type T, b, rfl, .ty T, h, k, q⟩
theorem isi_tup {a : Addr} {xs : List V} (h : SqT K H a xs) (q : Q (.bl true) H) : rIsi K [.ref a, .ty "tuple"] H Q := isi_at (sqT_ty h) (kit_ty (by decide +kernel : kitB "tuple" "tuple" = some true)) q
theorem rd_isi {σ : L2.St} {i : Nat} {T : String} (hv : σ[i]? = some (some v)) (h : TyX K H v t) (k : PySem.W.kitOne K t (.type T) = some b) (q : Q (.bl b) H) : tCB (rIsi K) (tCons (tVar i) (tCons (tC (.ty T)) tNil)) σ H Q := ⟨v, hv, isi_at h k q⟩
theorem rd_tup {σ : L2.St} {i : Nat} {a : Addr} {xs : List V} (hv : σ[i]? = some (some (.ref a))) (h : SqT K H a xs) (q : Q (.bl true) H) : tCB (rIsi K) (tCons (tVar i) (tCons (tC (.ty "tuple")) tNil)) σ H Q := ⟨_, hv, isi_tup h q⟩
theorem rd_isiE {σ : L2.St} {ta : TE} {T : String} (hv : ∀ Q' : VK, Q' v H → ta σ H Q') (h : TyX K H v t) (k : PySem.W.kitOne K t (.type T) = some b) (q : Q (.bl b) H) : tCB (rIsi K) (tCons ta (tCons (tC (.ty T)) tNil)) σ H Q := hv _ (isi_at h k q)
theorem rd_tupC {σ : L2.St} {ta : TE} {W : V → Hp → Prop} (hv : ∀ Q' : VK, (∀ v H', W v H' → Q' v H') → ta σ H Q') (hW : ∀ v H', W v H' → ∃ a xs, v = .ref a ∧ SqT K H' a xs) (q : ∀ v H', W v H' → Q (.bl true) H') : tCB (rIsi K) (tCons ta (tCons (tC (.ty "tuple")) tNil)) σ H Q := hv _ fun v H' hw => by
  obtain ⟨a, xs, rfl, h⟩ := hW v H' hw
  exact isi_tup h (q _ H' hw)
theorem g_name {σ : L2.St} {i : Nat} {Q : L2.St → Hp → Prop} (h : Q (σ.set i (some v)) H) : gName i v σ H Q := h
section
variable {σ : L2.St} {D : Ends} {c u' : TT} {t1 t2 : TS} {te ta' tb' : TE} {B : Bool → Hp → Prop} {g : TG}
theorem o_if (h : c σ H fun b H1 => if b = true then t1 D σ H1 else t2 D σ H1) : tIfS c t1 t2 D σ H := h
theorem o_or (h : c σ H fun b H1 => if b = true then B true H1 else u' σ H1 B) : tOr c u' σ H B := h
theorem o_and (h : c σ H fun b H1 => if b = true then u' σ H1 B else B false H1) : tAnd c u' σ H B := h
theorem o_not (h : c σ H fun b H1 => B (!b) H1) : tNot c σ H B := h
theorem o_b (h : te σ H fun x H1 => ∃ b, x = .bl b ∧ B b H1) : tB te σ H B := h
theorem o_test (h : te σ H fun x H1 => ∃ b, x = .bl b ∧ B b H1) : tTest te σ H B := h
theorem o_seq (h : t1 { D with nx := t2 D } σ H) : tSeq t1 t2 D σ H := h
theorem o_asg (h : te σ H fun x H1 => g x σ H1 D.nx) : tAsg te g D σ H := h
theorem o_ret (h : te σ H D.rt) : tRet te D σ H := h
theorem o_orV (h : ta' σ H fun x H1 => ∃ b, x = .bl b ∧ if b = true then Q (.bl true) H1 else tb' σ H1 Q) : tOrV ta' tb' σ H Q := h
theorem o_andV (h : ta' σ H fun x H1 => ∃ b, x = .bl b ∧ if b = true then tb' σ H1 Q else Q (.bl false) H1) : tAndV ta' tb' σ H Q := h
end
theorem isi_noTup (h : TyX K H v t) (k : PySem.W.kitOne K t (.type "tuple") = some false) (q : Q (.bl false) H) : rIsi K [v, .ty "tuple"] H Q := isi_at h k q
end
/-! ### x is True, x & 1 of what may be a truth -/
def intOrBl : V → Bool
  | .int _ => true
  | .bl _ => true
  | _ => false
def rIsT : R2 := fun x y H Q => ∃ b, y = .bl b ∧ intOrBl x = true ∧ Q (.bl (decide (x = .bl b))) H
def rNotT : R2 := fun x y H Q => ∃ b, y = .bl b ∧ intOrBl x = true ∧ Q (.bl (!decide (x = .bl b))) H
theorem gives_int_and_bi (p : Bool) (b : Int) (u : Tok) : Gives (Builtin.«int.__and__» ⟨[.bool p, .int b u], []⟩) (.int (Builtin.bitAnd (if p = true then (1 : Int) else 0) b)) :=
  .of_wp fun M A E s Q h => by obtain ⟨hp, g, d, tk, os⟩ := s; wp_walk; exact ⟨_, rfl, h⟩
theorem gives_bool_and_bi (p : Bool) (b : Int) (u : Tok) : Gives (Builtin.«bool.__and__» ⟨[.bool p, .int b u], []⟩) (.int (Builtin.bitAnd (if p = true then (1 : Int) else 0) b)) := by
  show Gives (do rule "bool.bitwise.as-ints"; again (.builtin "int.__and__" ⟨[.bool p, .int b u], []⟩)) _
  exact .rule (.again rfl (by decide +kernel) PySem.F.entry_int_and (gives_int_and_bi p b u))
theorem and_bool_int {prog : Program} {w : World} {A : Around} {E : Value → Shared → Prop} {s : Shared} {p : Bool} {b : Int} {u : Tok} {Q : Value → Shared → Prop} (h : Q (.int (Builtin.bitAnd (if p = true then (1 : Int) else 0) b) s.toks) { s with toks := s.toks + 1 }) : wpAny (model prog w) A (binaryOp .BitAnd (.bool p) (.int b u)) Q E s :=
  binaryOp_left_gives (op := .BitAnd) (T := "bool") (U := "int") (by decide) (typeIs_bool' s p) (fun s' => typeIs_int s' b u) PySem.F.fills_bool_and PySem.F.fills_int_and isSubtype_int_bool PySem.F.slot_bool_and PySem.F.slot_int_rand PySem.F.entry_bool_and (PySem.F.args_bool_and_2 _ _) (gives_bool_and_bi p b u) trivial h
def rAnd1 : R2 := fun x y H Q => y = .int 1 ∧ ((∃ i, x = .int i ∧ Q (.int (i % 2)) H) ∨ (∃ k : Bool, x = .bl k ∧ Q (.int (if k = true then 1 else 0)) H))
section
variable {X : Cx}
theorem op_isT : OpR X (compareOp .Is) rIsT := by
  intro pins s σ H x y v u Q I rx ry h
  obtain ⟨b, rfl, hx, q⟩ := h
  cases (show u = Value.bool b from ry)
  cases x with
  | int i =>
    obtain ⟨t, rfl⟩ := rx
    refine wpAny_is_other rfl (fun z => by cases z) ⟨.bl false, H, I, rfl, ?_⟩
    rw [decide_eq_false (fun z => by cases z)] at q
    exact q
  | bl a =>
    cases (show v = Value.bool a from rx)
    by_cases e : a = b
    · subst e
      exact wpAny_is_self rfl ⟨.bl true, H, I, rfl, by simpa using q⟩
    · exact wpAny_is_other rfl (fun z => e (Value.bool.inj z)) ⟨.bl false, H, I, rfl, by simpa [e] using q⟩
  | _ => cases hx
theorem op_notT : OpR X (compareOp .IsNot) rNotT := by
  intro pins s σ H x y v u Q I rx ry h
  obtain ⟨b, rfl, hx, q⟩ := h
  cases (show u = Value.bool b from ry)
  cases x with
  | int i =>
    obtain ⟨t, rfl⟩ := rx
    refine wpAny_isNot_other rfl (fun z => by cases z) ⟨.bl true, H, I, rfl, ?_⟩
    rw [decide_eq_false (fun z => by cases z)] at q
    exact q
  | bl a =>
    cases (show v = Value.bool a from rx)
    by_cases e : a = b
    · subst e
      exact wpAny_isNot_self rfl ⟨.bl false, H, I, rfl, by simpa using q⟩
    · exact wpAny_isNot_other rfl (fun z => e (Value.bool.inj z)) ⟨.bl true, H, I, rfl, by simpa [e] using q⟩
  | _ => cases hx
theorem op_and1 : OpR X (binaryOp .BitAnd) rAnd1 := by
  intro pins s σ H x y v u Q I rx ry h
  obtain ⟨rfl, ⟨i, rfl, q⟩ | ⟨k, rfl, q⟩⟩ := h
  · obtain ⟨t, rfl⟩ := rx
    obtain ⟨t', rfl⟩ := ry
    rw [← bitAnd_m1] at q
    exact and_int ⟨.int _, H, I.tok _, ⟨_, rfl⟩, q⟩
  · obtain ⟨t', rfl⟩ := ry
    cases (show v = Value.bool k from rx)
    have e : Builtin.bitAnd (if k = true then (1 : Int) else 0) 1 = if k = true then 1 else 0 := by cases k <;> decide
    exact and_bool_int (by rw [e]; exact ⟨.int _, H, I.tok _, ⟨_, rfl⟩, q⟩)
end
/-! ### odd parts -/
theorem pow_pos2 (k : Nat) : (0 : Int) < 2 ^ k := Int.pow_pos (by decide)
theorem pow_two_cast (k : Nat) : ((2 ^ k : Nat) : Int) = 2 ^ k := by
  induction k with
  | zero => rfl
  | succ n ih => rw [Nat.pow_succ, Int.pow_succ, Int.natCast_mul, ih] <;> rfl
def tz : Nat → Nat → Nat
  | 0, _ => 0
  | f + 1, n => if n % 2 = 0 then tz f (n / 2) + 1 else 0
theorem tz_spec : ∀ (f n : Nat), 0 < n → n ≤ f → ∃ a, n = 2 ^ tz f n * (2 * a + 1)
  | 0, n, h, l => by omega
  | f + 1, n, h, l => by
    unfold tz
    by_cases e : n % 2 = 0
    · rw [if_pos e]
      obtain ⟨a, ha⟩ := tz_spec f (n / 2) (by omega) (by omega)
      refine ⟨a, ?_⟩
      rw [Nat.pow_succ, Nat.mul_comm (2 ^ tz f (n / 2)) 2, Nat.mul_assoc, ← ha]
      omega
    · rw [if_neg e]
      exact ⟨n / 2, by omega⟩
def v2 (m : Int) : Nat := tz m.natAbs m.natAbs
theorem v2_spec {m : Int} (h : m ≠ 0) : ∃ a : Int, m = 2 ^ v2 m * (2 * a + 1) := by
  obtain ⟨a, ha⟩ := tz_spec m.natAbs m.natAbs (by omega) (Nat.le_refl _)
  have hc : (m.natAbs : Int) = 2 ^ v2 m * (2 * (a : Int) + 1) := by
    have h1 : (m.natAbs : Int) = ((2 ^ v2 m * (2 * a + 1) : Nat) : Int) := congrArg Int.ofNat ha
    rw [h1, Int.natCast_mul, pow_two_cast]
    rfl
  rcases Int.natAbs_eq m with e | e
  · exact ⟨a, e.trans hc⟩
  · refine ⟨-(a : Int) - 1, ?_⟩
    have h2 : m = -(2 ^ v2 m * (2 * (a : Int) + 1)) := by rw [← hc]; exact e
    have h3 : (2 * (-(a : Int) - 1) + 1) = -(2 * (a : Int) + 1) := by omega
    rw [h3, Int.mul_neg]
    exact h2
theorem odd_unique {k j : Nat} {a b : Int} (h : (2 : Int) ^ k * (2 * a + 1) = 2 ^ j * (2 * b + 1)) : k = j ∧ a = b := by
  rcases Nat.lt_trichotomy k j with l | l | l
  · obtain ⟨i, rfl⟩ : ∃ i, j = k + (i + 1) := ⟨j - k - 1, by omega⟩
    rw [Int.pow_add, Int.mul_assoc] at h
    have h2 := Int.eq_of_mul_eq_mul_left (Int.ne_of_gt (pow_pos2 k)) h
    rw [Int.pow_succ, Int.mul_assoc, Int.mul_left_comm] at h2
    generalize (2 : Int) ^ i * (2 * b + 1) = z at h2
    omega
  · subst l
    have h2 := Int.eq_of_mul_eq_mul_left (Int.ne_of_gt (pow_pos2 k)) h
    exact ⟨rfl, by omega⟩
  · obtain ⟨i, rfl⟩ : ∃ i, k = j + (i + 1) := ⟨k - j - 1, by omega⟩
    rw [Int.pow_add, Int.mul_assoc] at h
    have h2 := Int.eq_of_mul_eq_mul_left (Int.ne_of_gt (pow_pos2 j)) h
    rw [Int.pow_succ, Int.mul_assoc, Int.mul_left_comm] at h2
    generalize (2 : Int) ^ i * (2 * a + 1) = z at h2
    omega
/-- the number m times 2 ** e, told its one way -/
def nrm (m e : Int) : Int × Int := if m = 0 then (0, 0) else (m / 2 ^ v2 m, e + v2 m)
theorem nrm_zero (e : Int) : nrm 0 e = (0, 0) := rfl
theorem nrm_of {m a : Int} {k : Nat} (e : Int) (h : m = 2 ^ k * (2 * a + 1)) : nrm m e = (2 * a + 1, e + k) := by
  have h0 : m ≠ 0 := by
    intro z
    rw [z] at h
    rcases Int.mul_eq_zero.mp h.symm with q | q
    · exact absurd q (Int.ne_of_gt (pow_pos2 k))
    · omega
  obtain ⟨b, hb⟩ := v2_spec h0
  obtain ⟨e1, e2⟩ := odd_unique (hb.symm.trans h)
  unfold nrm
  rw [if_neg h0, e1]
  have h3 : m / 2 ^ k = 2 * a + 1 := by
    rw [h]
    exact Int.mul_ediv_cancel_left _ (Int.ne_of_gt (pow_pos2 k))
  rw [h3]
theorem nrm_num (m e : Int) : isNumB (nrm m e).1 (nrm m e).2 = true := by
  by_cases h : m = 0
  · subst h
    rfl
  · obtain ⟨a, ha⟩ := v2_spec h
    rw [nrm_of e ha]
    unfold isNumB
    rw [decide_eq_true (show (2 * a + 1) % 2 = 1 by omega)]
    rfl
theorem nrm_self {m e : Int} (h : isNumB m e = true) : nrm m e = (m, e) := by
  unfold isNumB at h
  rcases Bool.or_eq_true_iff.mp h with q | q
  · have q2 : m % 2 = 1 := of_decide_eq_true q
    have e1 : m = 2 ^ 0 * (2 * (m / 2) + 1) := by
      rw [Int.pow_zero, Int.one_mul]
      omega
    rw [nrm_of e e1]
    have e2 : 2 * (m / 2) + 1 = m := by omega
    rw [e2]
    show (m, e + 0) = (m, e)
    rw [Int.add_zero]
  · obtain ⟨q1, q2⟩ := Bool.and_eq_true_iff.mp q
    have e1 : m = 0 := of_decide_eq_true q1
    have e2 : e = 0 := of_decide_eq_true q2
    subst e1 e2
    rfl
theorem nrm_abs (m e : Int) : (nrm m e).1.natAbs ≤ m.natAbs := by
  by_cases h : m = 0
  · subst h
    exact Nat.le_refl _
  · obtain ⟨a, ha⟩ := v2_spec h
    rw [nrm_of e ha]
    show (2 * a + 1).natAbs ≤ m.natAbs
    have e1 : m.natAbs = ((2 : Int) ^ v2 m).natAbs * (2 * a + 1).natAbs := by
      have := congrArg Int.natAbs ha
      rw [Int.natAbs_mul] at this
      exact this
    rw [e1]
    refine Nat.le_mul_of_pos_left _ ?_
    have := pow_pos2 (v2 m)
    omega
theorem v2_lt {m : Int} {k : Nat} (h : m.natAbs < 2 ^ k) (h0 : m ≠ 0) : v2 m < k := by
  obtain ⟨a, ha⟩ := v2_spec h0
  have e1 : m.natAbs = ((2 : Int) ^ v2 m).natAbs * (2 * a + 1).natAbs := by
    have := congrArg Int.natAbs ha
    rw [Int.natAbs_mul] at this
    exact this
  have e2 : ((2 : Int) ^ v2 m).natAbs = 2 ^ v2 m := by rw [← pow_two_cast]; rfl
  have h1 : 2 ^ v2 m ≤ m.natAbs := by
    rw [e1, e2]
    exact Nat.le_mul_of_pos_right _ (by omega)
  exact (Nat.pow_lt_pow_iff_right (by decide)).mp (Nat.lt_of_le_of_lt h1 h)
theorem nrm_exp {m e : Int} {k : Nat} (h : m.natAbs < 2 ^ k) : (nrm m e).2.natAbs ≤ e.natAbs + k := by
  by_cases h0 : m = 0
  · subst h0
    exact Nat.zero_le _
  · have := v2_lt h h0
    unfold nrm
    rw [if_neg h0]
    show (e + (v2 m : Int)).natAbs ≤ _
    omega
theorem bits_two (k : Nat) : Builtin.Int.intBits (2 ^ k) = k + 1 := by
  have h : (2 : Int) ^ k ≠ 0 := Int.ne_of_gt (pow_pos2 k)
  unfold Builtin.Int.intBits
  have e : ((2 : Int) ^ k == 0) = false := by
    rw [beq_eq_false_iff_ne]
    exact h
  rw [e]
  have e2 : ((2 : Int) ^ k).natAbs = 2 ^ k := by rw [← pow_two_cast]; rfl
  rw [e2, Nat.log2_two_pow]
  rfl
end Onc

namespace Onc
open PySem PySem.Spec PyProof.Rows L2 Evl
/-! ### numbers at a power -/
def at_ (n : Int × Int) (E : Int) : Int := n.1 * 2 ^ (n.2 - E).toNat
theorem nrm_shift (m e : Int) (k : Nat) : nrm (m * 2 ^ k) e = nrm m (e + k) := by
  by_cases h : m = 0
  · subst h
    rw [Int.zero_mul]
    rfl
  · obtain ⟨a, ha⟩ := v2_spec h
    have e1 : m * 2 ^ k = 2 ^ (v2 m + k) * (2 * a + 1) := by
      rw [Int.pow_add, Int.mul_assoc, Int.mul_comm (2 ^ k) (2 * a + 1), ← Int.mul_assoc, ← ha]
    rw [nrm_of e e1, nrm_of (e + k) ha]
    congr 1
    omega
theorem nrm_at {x E E' : Int} (h : E' ≤ E) : at_ (nrm x E) E' = x * 2 ^ (E - E').toNat := by
  by_cases h0 : x = 0
  · subst h0
    unfold at_
    rw [nrm_zero, Int.zero_mul, Int.zero_mul]
  · obtain ⟨a, ha⟩ := v2_spec h0
    rw [nrm_of E ha]
    show (2 * a + 1) * 2 ^ (E + (v2 x : Int) - E').toNat = x * 2 ^ (E - E').toNat
    have e1 : (E + (v2 x : Int) - E').toNat = v2 x + (E - E').toNat := by omega
    rw [e1, Int.pow_add, ← Int.mul_assoc, Int.mul_comm (2 * a + 1) (2 ^ v2 x), ← ha]
theorem at_same (x E : Int) : at_ (nrm x E) E = x := by
  rw [nrm_at (Int.le_refl E), show (E - E).toNat = 0 by omega, Int.pow_zero, Int.mul_one]
theorem nrm_le {x E : Int} (h : E ≤ 0) : E ≤ (nrm x E).2 := by
  unfold nrm
  by_cases h0 : x = 0
  · rw [if_pos h0]
    exact h
  · rw [if_neg h0]
    show E ≤ E + (v2 x : Int)
    omega
theorem nrm_inj {x y E : Int} (h : nrm x E = nrm y E) : x = y := by
  rw [← at_same x E, h, at_same]
theorem at_split {n : Int × Int} {E M : Int} (h : E ≤ M) (hM : M ≤ n.2) : at_ n E = at_ n M * 2 ^ (M - E).toNat := by
  unfold at_
  rw [show (n.2 - E).toNat = (n.2 - M).toNat + (M - E).toNat by omega, Int.pow_add, Int.mul_assoc]
theorem num_at {n : Int × Int} {E : Int} (hn : isNumB n.1 n.2 = true) (h : E ≤ n.2) : nrm (at_ n E) E = n := by
  unfold at_
  rw [nrm_shift, show E + ((n.2 - E).toNat : Int) = n.2 by omega, nrm_self hn]
def padd (a b : Int × Int) : Int × Int := nrm (at_ a (min a.2 b.2) + at_ b (min a.2 b.2)) (min a.2 b.2)
theorem padd_at {a b : Int × Int} {E : Int} (ha : E ≤ a.2) (hb : E ≤ b.2) : padd a b = nrm (at_ a E + at_ b E) E := by
  have hM : E ≤ min a.2 b.2 := by omega
  rw [at_split (n := a) hM (by omega), at_split (n := b) hM (by omega), ← Int.add_mul, nrm_shift, show E + ((min a.2 b.2 - E).toNat : Int) = min a.2 b.2 by omega]
  rfl
def pneg (a : Int × Int) : Int × Int := (-a.1, a.2)
theorem at_neg (a : Int × Int) (E : Int) : at_ (pneg a) E = -at_ a E := by
  unfold at_ pneg
  rw [Int.neg_mul]
def psub (a b : Int × Int) : Int × Int := padd a (pneg b)
theorem psub_at {a b : Int × Int} {E : Int} (ha : E ≤ a.2) (hb : E ≤ b.2) : psub a b = nrm (at_ a E - at_ b E) E := by
  unfold psub
  rw [padd_at ha (show E ≤ (pneg b).2 from hb), at_neg]
  rfl
def pmul (a b : Int × Int) : Int × Int := nrm (a.1 * b.1) (a.2 + b.2)
theorem pmul_at {a b : Int × Int} {E F : Int} (ha : E ≤ a.2) (hb : F ≤ b.2) : pmul a b = nrm (at_ a E * at_ b F) (E + F) := by
  unfold at_
  have e1 : a.1 * 2 ^ (a.2 - E).toNat * (b.1 * 2 ^ (b.2 - F).toNat) = a.1 * b.1 * 2 ^ ((a.2 - E).toNat + (b.2 - F).toNat) := by
    rw [Int.pow_add, Int.mul_assoc, Int.mul_assoc, Int.mul_left_comm (2 ^ (a.2 - E).toNat) b.1]
  rw [e1, nrm_shift, show E + F + (((a.2 - E).toNat + (b.2 - F).toNat : Nat) : Int) = a.2 + b.2 by omega]
  rfl
/-! ### signs -/
def sgn (x : Int) : Int := if x = 0 then 0 else if 0 < x then 1 else -1
theorem sgn_pos {x : Int} (h : 0 < x) : sgn x = 1 := by
  unfold sgn
  rw [if_neg (by omega), if_pos h]
theorem sgn_neg {x : Int} (h : x < 0) : sgn x = -1 := by
  unfold sgn
  rw [if_neg (by omega), if_neg (by omega)]
theorem sgn_zero : sgn 0 = 0 := rfl
theorem sgn_mul (x : Int) (k : Nat) : sgn (x * 2 ^ k) = sgn x := by
  have hp := pow_pos2 k
  rcases Int.lt_trichotomy x 0 with h | h | h
  · rw [sgn_neg h, sgn_neg (Int.mul_neg_of_neg_of_pos h hp)]
  · subst h
    rw [Int.zero_mul]
  · rw [sgn_pos h, sgn_pos (Int.mul_pos h hp)]
theorem sgn_nrm (x E : Int) : sgn (nrm x E).1 = sgn x := by
  have h := nrm_at (x := x) (E := E) (E' := E) (Int.le_refl E)
  unfold at_ at h
  rw [show (E - E).toNat = 0 by omega, Int.pow_zero, Int.mul_one] at h
  rw [← sgn_mul (nrm x E).1, h]
def pord (a b : Int × Int) : Int := sgn (at_ a (min a.2 b.2) - at_ b (min a.2 b.2))
theorem pord_at {a b : Int × Int} {E : Int} (ha : E ≤ a.2) (hb : E ≤ b.2) : pord a b = sgn (at_ a E - at_ b E) := by
  have hM : E ≤ min a.2 b.2 := by omega
  rw [at_split (n := a) hM (by omega), at_split (n := b) hM (by omega), ← Int.sub_mul, sgn_mul]
  rfl
theorem pord_sub (a b : Int × Int) : sgn (psub a b).1 = pord a b := by
  rw [psub_at (E := min a.2 b.2) (by omega) (by omega), sgn_nrm]
  rfl
/-! ### sizes -/
def psize (a : Int × Int) : Int := (Builtin.Int.intBits a.1 : Int) - 1 + a.2
def prank (a : Int × Int) : Int × Int := (sgn a.1, sgn a.1 * psize a)
theorem bits_of {m : Int} (h : m ≠ 0) : Builtin.Int.intBits m = m.natAbs.log2 + 1 := by
  unfold Builtin.Int.intBits
  rw [show (m == 0) = false from by rw [beq_eq_false_iff_ne]; exact h]
  rfl
theorem at_abs (a : Int × Int) (E : Int) : (at_ a E).natAbs = a.1.natAbs * 2 ^ (a.2 - E).toNat := by
  unfold at_
  rw [Int.natAbs_mul]
  have e : ((2 : Int) ^ (a.2 - E).toNat).natAbs = 2 ^ (a.2 - E).toNat := by
    rw [← pow_two_cast]
    rfl
  rw [e]
theorem size_lt {a b : Int × Int} {E : Int} (ha : a.1 ≠ 0) (hb : b.1 ≠ 0) (ea : E ≤ a.2) (eb : E ≤ b.2) (h : psize a < psize b) : (at_ a E).natAbs < (at_ b E).natAbs := by
  unfold psize at h
  rw [bits_of ha, bits_of hb] at h
  rw [at_abs, at_abs]
  have l1 : a.1.natAbs < 2 ^ (a.1.natAbs.log2 + 1) := Nat.lt_log2_self
  have l2 : 2 ^ b.1.natAbs.log2 ≤ b.1.natAbs := Nat.log2_self_le (by omega)
  have hp : ∀ k : Nat, 0 < 2 ^ k := fun k => Nat.pow_pos (by decide)
  refine Nat.lt_of_lt_of_le (Nat.mul_lt_mul_of_pos_right l1 (hp _)) (Nat.le_trans ?_ (Nat.mul_le_mul_right _ l2))
  rw [← Nat.pow_add, ← Nat.pow_add]
  exact Nat.pow_le_pow_right (by decide) (by omega)
theorem at_sgn (a : Int × Int) (E : Int) : sgn (at_ a E) = sgn a.1 := sgn_mul _ _
theorem sgn_of_pos {x : Int} (h : sgn x = 1) : 0 < x := by
  rcases Int.lt_trichotomy x 0 with q | q | q
  · rw [sgn_neg q] at h
    cases h
  · subst q
    cases h
  · exact q
theorem sgn_of_neg {x : Int} (h : sgn x = -1) : x < 0 := by
  rcases Int.lt_trichotomy x 0 with q | q | q
  · exact q
  · subst q
    cases h
  · rw [sgn_pos q] at h
    cases h
theorem sgn_of_zero {x : Int} (h : sgn x = 0) : x = 0 := by
  rcases Int.lt_trichotomy x 0 with q | q | q
  · rw [sgn_neg q] at h
    cases h
  · exact q
  · rw [sgn_pos q] at h
    cases h
theorem sgn_cases (x : Int) : sgn x = 1 ∨ sgn x = -1 ∨ sgn x = 0 := by
  rcases Int.lt_trichotomy x 0 with q | q | q
  · exact .inr (.inl (sgn_neg q))
  · subst q
    exact .inr (.inr rfl)
  · exact .inl (sgn_pos q)
/-- ranks that differ are in the order of the numbers -/
theorem rank_gt {a b : Int × Int} (h : (prank b).1 < (prank a).1 ∨ ((prank b).1 = (prank a).1 ∧ (prank b).2 < (prank a).2)) : pord a b = 1 := by
  have ea : min a.2 b.2 ≤ a.2 := by omega
  have eb : min a.2 b.2 ≤ b.2 := by omega
  refine sgn_pos ?_
  generalize min a.2 b.2 = E at *
  have sa := at_sgn a E
  have sb := at_sgn b E
  unfold prank at h
  simp only at h
  rcases sgn_cases a.1 with qa | qa | qa <;> rcases sgn_cases b.1 with qb | qb | qb <;> rw [qa] at sa h <;> rw [qb] at sb h
  · have pa := sgn_of_pos sa
    have pb := sgn_of_pos sb
    have na : a.1 ≠ 0 := fun z => by rw [z] at qa; cases qa
    have nb : b.1 ≠ 0 := fun z => by rw [z] at qb; cases qb
    have := size_lt (E := E) nb na eb ea (by omega)
    omega
  · have pa := sgn_of_pos sa
    have pb := sgn_of_neg sb
    omega
  · have pa := sgn_of_pos sa
    have pb := sgn_of_zero sb
    omega
  · omega
  · have pa := sgn_of_neg sa
    have pb := sgn_of_neg sb
    have na : a.1 ≠ 0 := fun z => by rw [z] at qa; cases qa
    have nb : b.1 ≠ 0 := fun z => by rw [z] at qb; cases qb
    have := size_lt (E := E) na nb ea eb (by omega)
    omega
  · omega
  · omega
  · have pa := sgn_of_zero sa
    have pb := sgn_of_neg sb
    omega
  · omega
theorem sgn_swap (x : Int) : sgn (-x) = -sgn x := by
  rcases Int.lt_trichotomy x 0 with q | q | q
  · rw [sgn_neg q, sgn_pos (by omega)]
    rfl
  · subst q
    rfl
  · rw [sgn_pos q, sgn_neg (by omega)]
theorem pord_swap (a b : Int × Int) : pord b a = -pord a b := by
  rw [pord_at (a := b) (b := a) (E := min a.2 b.2) (by omega) (by omega), ← Int.neg_sub, sgn_swap]
  rfl
/-! ### bounds -/
def Bd (a : Int × Int) (B : Nat) : Prop := a.1.natAbs < 2 ^ B ∧ a.2.natAbs ≤ B
theorem Bd.mono {a : Int × Int} {B C : Nat} (h : Bd a B) (l : B ≤ C) : Bd a C := ⟨Nat.lt_of_lt_of_le h.1 (Nat.pow_le_pow_right (by decide) l), Nat.le_trans h.2 l⟩
theorem bd_neg {a : Int × Int} {B : Nat} (h : Bd a B) : Bd (pneg a) B := ⟨by show (-a.1).natAbs < _; rw [Int.natAbs_neg]; exact h.1, h.2⟩
theorem bd_nrm {m e : Int} {k B : Nat} (hm : m.natAbs < 2 ^ k) (he : e.natAbs + k ≤ B) : Bd (nrm m e) B :=
  ⟨Nat.lt_of_le_of_lt (nrm_abs m e) (Nat.lt_of_lt_of_le hm (Nat.pow_le_pow_right (by decide) (by omega))), Nat.le_trans (nrm_exp hm) he⟩
theorem at_bd {a : Int × Int} {B C : Nat} {E : Int} (h : Bd a B) (hE : E.natAbs ≤ C) : (at_ a E).natAbs < 2 ^ (2 * B + C) := by
  rw [at_abs]
  have h1 : a.1.natAbs * 2 ^ (a.2 - E).toNat < 2 ^ B * 2 ^ (a.2 - E).toNat := Nat.mul_lt_mul_of_pos_right h.1 (Nat.pow_pos (by decide))
  rw [← Nat.pow_add] at h1
  have h2 := h.2
  exact Nat.lt_of_lt_of_le h1 (Nat.pow_le_pow_right (by decide) (by omega))
theorem bd_add {a b : Int × Int} {B : Nat} (ha : Bd a B) (hb : Bd b B) : Bd (padd a b) (4 * B + 1) := by
  have hE : (min a.2 b.2).natAbs ≤ B := by
    have := ha.2
    have := hb.2
    omega
  have h1 := at_bd ha hE
  have h2 := at_bd hb hE
  refine bd_nrm (k := 2 * B + B + 1) ?_ (by omega)
  have e : 2 ^ (2 * B + B + 1) = 2 ^ (2 * B + B) * 2 := Nat.pow_succ ..
  omega
theorem bd_sub {a b : Int × Int} {B : Nat} (ha : Bd a B) (hb : Bd b B) : Bd (psub a b) (4 * B + 1) := bd_add ha (bd_neg hb)
theorem bd_mul {a b : Int × Int} {B : Nat} (ha : Bd a B) (hb : Bd b B) : Bd (pmul a b) (4 * B) := by
  refine bd_nrm (k := 2 * B) ?_ ?_
  · rw [Int.natAbs_mul, Nat.two_mul, Nat.pow_add]
    exact Nat.mul_lt_mul'' ha.1 hb.1
  · have := ha.2
    have := hb.2
    omega
theorem num_neg {a : Int × Int} (h : isNumB a.1 a.2 = true) : isNumB (pneg a).1 (pneg a).2 = true := by
  unfold isNumB at *
  show (decide (-a.1 % 2 = 1) || (decide (-a.1 = 0) && decide (a.2 = 0))) = true
  rcases Bool.or_eq_true_iff.mp h with q | q
  · have q2 : a.1 % 2 = 1 := of_decide_eq_true q
    rw [decide_eq_true (show -a.1 % 2 = 1 by omega)]
    rfl
  · obtain ⟨q1, q2⟩ := Bool.and_eq_true_iff.mp q
    have e1 : a.1 = 0 := of_decide_eq_true q1
    rw [q2, decide_eq_true (show -a.1 = 0 by omega), Bool.and_true, Bool.or_true]
theorem num_add (a b : Int × Int) : isNumB (padd a b).1 (padd a b).2 = true := nrm_num _ _
theorem num_mul (a b : Int × Int) : isNumB (pmul a b).1 (pmul a b).2 = true := nrm_num _ _
/-! ### t > u of data -/
section
variable {X : Cx}
def rGtD (K : PySem.W.Frag) : R2 := fun x y H Q => ∃ d e, Dp K H x d ∧ Dp K H y e ∧ PySem.W.alike d e = true ∧ d ≠ .none ∧ d.depth ≤ 64 ∧ Q (.bl (PySem.W.dataLt e d)) H
theorem op_gtD (hu : X.A.units + 64 < cLine) : OpR X (compareOp .Gt) (rGtD X.K) := by
  intro pins s σ H x y v u Q I rx ry h
  obtain ⟨d, e, hd, he, al, nn, dp, q⟩ := h
  obtain ⟨as, r1⟩ := Dp.reads I d x v hd rx
  obtain ⟨bs, r2⟩ := Dp.reads I e y u he ry
  exact PySem.W.gt_data r1 r2 al nn (by have := Nat.min_le_left d.depth e.depth; omega) ⟨.bl _, H, I, rfl, q⟩
end
theorem lt_pairs (a b c d : Int) : PySem.W.dataLt (.tuple [.int a, .int b]) (.tuple [.int c, .int d]) = if a = c then decide (b < d) else decide (a < c) := by
  show lexLt itemOrd [.inl 1, .inl a, .inl 1, .inl b, .inl 0] [.inl 1, .inl c, .inl 1, .inl d, .inl 0] = _
  rw [lex_self (O := itemOrd)]
  by_cases h : a = c
  · subst h
    rw [if_pos rfl, lex_self (O := itemOrd), lex_self (O := itemOrd)]
    by_cases h2 : b = d
    · subst h2
      rw [lex_self (O := itemOrd), lex_self (O := itemOrd), decide_eq_false (Int.lt_irrefl b)]
      rfl
    · rw [lex_diff (O := itemOrd) (fun z => h2 (Sum.inl.inj z))]
      rfl
  · rw [if_neg h, lex_diff (O := itemOrd) (fun z => h (Sum.inl.inj z))]
    rfl
theorem alike_pairs (a b c d : Int) : PySem.W.alike (.tuple [.int a, .int b]) (.tuple [.int c, .int d]) = true := by
  simp [PySem.W.alike, PySem.W.alikeAll]
theorem depth_pair (a b : Int) : (PyData.tuple [.int a, .int b]).depth ≤ 64 := by
  simp [PyData.depth, PyData.depthAll]
theorem eqv_pairs (a b c d : Int) : PyData.eqv (.tuple [.int a, .int b]) (.tuple [.int c, .int d]) = (decide (a = c) && decide (b = d)) := by
  simp [PyData.eqv, PyData.eqvAll]
  rfl
/-! ### numbers in the heap -/
def NumAt (K : PySem.W.Frag) (H : Hp) (v : V) (n : Int × Int) : Prop := ∃ a, v = .ref a ∧ SqT K H a [.int n.1, .int n.2]
theorem numAt_ex {K : PySem.W.Frag} {H H' : Hp} {v : V} {n : Int × Int} (e : Ex H H') (h : NumAt K H v n) : NumAt K H' v n := by
  obtain ⟨a, rfl, h⟩ := h
  exact ⟨a, rfl, ex_t e h⟩
theorem numAt_of {K : PySem.W.Frag} {H : Hp} {p : Addr} {m e : Int} (h : H p = some (.tup [.int m, .int e])) : NumAt K H (.ref p) (m, e) := ⟨p, rfl, st_of h⟩
/-- a good number within bounds -/
structure Gn (K : PySem.W.Frag) (H : Hp) (v : V) (n : Int × Int) (B : Nat) : Prop where
  at_ : NumAt K H v n
  nb : isNumB n.1 n.2 = true
  bd : Bd n B
theorem Gn.ex {K : PySem.W.Frag} {H H' : Hp} {v : V} {n : Int × Int} {B : Nat} (g : Gn K H v n B) (e : Ex H H') : Gn K H' v n B := ⟨numAt_ex e g.at_, g.nb, g.bd⟩
theorem Gn.mono {K : PySem.W.Frag} {H : Hp} {v : V} {n : Int × Int} {B C : Nat} (g : Gn K H v n B) (l : B ≤ C) : Gn K H v n C := ⟨g.at_, g.nb, g.bd.mono l⟩
theorem Gn.num {K : PySem.W.Frag} {H : Hp} {v : V} {n : Int × Int} {B : Nat} (g : Gn K H v n B) : NumIs K H v true := by
  obtain ⟨a, rfl, h⟩ := g.at_
  have := NumIs.num h
  rw [g.nb] at this
  exact this
def LIM : Nat := 20000000
/-- a new pair -/
def NewP (H : Hp) (Q : VK) (n : Int × Int) : Prop := ∀ H' p, Ex H H' → H p = none → H' p = some (.tup [.int n.1, .int n.2]) → Q (.ref p) H'
def spNeed (K : PySem.W.Frag) : Sp := fun vs H Q _ => ∃ v, vs = [v] ∧ NumIs K H v true ∧ ∀ H', Ex H H' → Q .non H'
def spSign : Sp := fun vs H Q _ => ∃ x : Int, vs = [.int x] ∧ Q (.int (sgn x)) H
def spNeg (K : PySem.W.Frag) : Sp := fun vs H Q _ => ∃ v n, vs = [v] ∧ NumAt K H v n ∧ NewP H Q (pneg n)
def spSize (K : PySem.W.Frag) : Sp := fun vs H Q _ => ∃ v n, vs = [v] ∧ NumAt K H v n ∧ Q (.int (psize n)) H
def spFloor (K : PySem.W.Frag) : Sp := fun vs H Q _ => ∃ v n E, vs = [v, .int E] ∧ NumAt K H v n ∧ E ≤ n.2 ∧ Bd n LIM ∧ E.natAbs ≤ LIM ∧ Q (.int (at_ n E)) H
def spRank (K : PySem.W.Frag) : Sp := fun vs H Q _ => ∃ v n, vs = [v] ∧ NumAt K H v n ∧ NewP H Q (prank n)
def spNeed2 (K : PySem.W.Frag) : Sp := fun vs H Q _ => ∃ u v, vs = [u, v] ∧ NumIs K H u true ∧ NumIs K H v true ∧ ∀ H', Ex H H' → Q .non H'
/-- a pair, new or handed in -/
def GotP (K : PySem.W.Frag) (H : Hp) (Q : VK) (n : Int × Int) : Prop := ∀ H' v, Ex H H' → NumAt K H' v n → Q v H'
def spTwo (K : PySem.W.Frag) (g : Int × Int → Int × Int → Int × Int) : Sp := fun vs H Q _ => ∃ u v a b, vs = [u, v] ∧ Gn K H u a LIM ∧ Gn K H v b LIM ∧ GotP K H Q (g a b)
def spLes (K : PySem.W.Frag) : Sp := fun vs H Q _ => ∃ u v a b, vs = [u, v] ∧ Gn K H u a LIM ∧ Gn K H v b LIM ∧ ((pord a b ≤ 0 → ∀ H', Ex H H' → Q u H') ∧ (0 < pord a b → ∀ H', Ex H H' → Q v H'))
def spGre (K : PySem.W.Frag) : Sp := fun vs H Q _ => ∃ u v a b, vs = [u, v] ∧ Gn K H u a LIM ∧ Gn K H v b LIM ∧ ((0 ≤ pord a b → ∀ H', Ex H H' → Q u H') ∧ (pord a b < 0 → ∀ H', Ex H H' → Q v H'))
def spOrd (K : PySem.W.Frag) : Sp := fun vs H Q _ => ∃ u v a b, vs = [u, v] ∧ Gn K H u a LIM ∧ Gn K H v b LIM ∧ ∀ H', Ex H H' → Q (.int (pord a b)) H'
/-! ### evaluation to something -/
section
variable {K : PySem.W.Frag} {σ : L2.St} {H H' : Hp} {ta tb tc te : TE}
def Mono (P : Hp → V → Prop) : Prop := ∀ H H' v, Ex H H' → P H v → P H' v
def EvP (P : Hp → V → Prop) (te : TE) (σ : L2.St) (H : Hp) : Prop := ∀ H1, Ex H H1 → ∀ Q : VK, (∀ v H2, Ex H1 H2 → P H2 v → Q v H2) → te σ H1 Q
theorem EvP.mono {P : Hp → V → Prop} (h : EvP P te σ H) (e : Ex H H') : EvP P te σ H' := fun H1 e1 Q q => h H1 (e.trans e1) Q q
theorem evp_of {P : Hp → V → Prop} {v : V} (h : Ev te σ H v) (m : Mono P) (hv : P H v) : EvP P te σ H := fun H1 e Q q => h H1 e Q fun H2 e2 => q v H2 e2 (m _ _ _ (e.trans e2) hv)
theorem evp_tup2 {P1 P2 : Hp → V → Prop} (m1 : Mono P1) (m2 : Mono P2) (h1 : EvP P1 ta σ H) (h2 : EvP P2 tb σ H) :
    EvP (fun H v => ∃ p x y, v = .ref p ∧ H p = some (.tup [x, y]) ∧ P1 H x ∧ P2 H y) (tTup (tCons ta (tCons tb tNil))) σ H := fun H1 e Q q =>
  h1 H1 e _ fun x H2 e2 p1 => h2 H2 (e.trans e2) _ fun y H3 e3 p2 => ⟨by show 2 ≤ sizeLine; decide, fun p hp => q (.ref p) _ ((e2.trans e3).trans (Ex.new hp)) ⟨p, x, y, rfl, upd_same, m1 _ _ _ (e3.trans (Ex.new hp)) p1, m2 _ _ _ (Ex.new hp) p2⟩⟩
theorem evp_tup3 {P1 P2 P3 : Hp → V → Prop} (m1 : Mono P1) (m2 : Mono P2) (m3 : Mono P3) (h1 : EvP P1 ta σ H) (h2 : EvP P2 tb σ H) (h3 : EvP P3 tc σ H) :
    EvP (fun H v => ∃ p x y z, v = .ref p ∧ H p = some (.tup [x, y, z]) ∧ P1 H x ∧ P2 H y ∧ P3 H z) (tTup (tCons ta (tCons tb (tCons tc tNil)))) σ H := fun H1 e Q q =>
  h1 H1 e _ fun x H2 e2 p1 => h2 H2 (e.trans e2) _ fun y H3 e3 p2 => h3 H3 ((e.trans e2).trans e3) _ fun z H4 e4 p3 => ⟨by show 3 ≤ sizeLine; decide, fun p hp => q (.ref p) _ (((e2.trans e3).trans e4).trans (Ex.new hp)) ⟨p, x, y, z, rfl, upd_same, m1 _ _ _ ((e3.trans e4).trans (Ex.new hp)) p1, m2 _ _ _ (e4.trans (Ex.new hp)) p2, m3 _ _ _ (Ex.new hp) p3⟩⟩
def EvAll (P : Hp → V → Prop) (ta : TA) (σ : L2.St) (H : Hp) (n : Nat) : Prop := ∀ H1, Ex H H1 → ∀ Q : List V → Hp → Prop, (∀ vs H2, Ex H1 H2 → vs.length = n → (∀ v ∈ vs, P H2 v) → Q vs H2) → ta σ H1 Q
theorem eva_nil {P : Hp → V → Prop} : EvAll P tNil σ H 0 := fun H1 _ _ q => q [] H1 (Ex.refl H1) rfl (fun _ h => by cases h)
theorem eva_cons {P : Hp → V → Prop} {tr : TA} {n : Nat} (m : Mono P) (h : EvP P ta σ H) (hr : EvAll P tr σ H n) : EvAll P (tCons ta tr) σ H (n + 1) := fun H1 e Q q =>
  h H1 e _ fun v H2 e2 p => hr H2 (e.trans e2) _ fun vs H3 e3 hl hv => q (v :: vs) H3 (e2.trans e3) (congrArg Nat.succ hl) fun x hx => by
    rcases List.mem_cons.mp hx with z | z
    · rw [z]
      exact m _ _ _ e3 p
    · exact hv x z
/-- a new list, all of P -/
def EvLP (P : Hp → V → Prop) (te : TE) (σ : L2.St) (H : Hp) (n : Nat) : Prop := ∀ H1, Ex H H1 → ∀ Q : VK, (∀ p vs H2, Ex H1 H2 → H1 p = none → H2 p = some (.lst vs) → vs.length = n → (∀ v ∈ vs, P H2 v) → Q (.ref p) H2) → te σ H1 Q
theorem elp_lst {P : Hp → V → Prop} {tr : TA} {n : Nat} (m : Mono P) (h : EvAll P tr σ H n) (hn : n ≤ 100000 := by decide) : EvLP P (tLst tr) σ H n := fun H1 e Q q =>
  h H1 e _ fun vs H2 e2 hl hv => ⟨sz_of (by rw [hl]; exact hn), fun p hp => q p vs _ (e2.trans (Ex.new hp)) (fresh_back e2 hp) upd_same hl fun v hx => m _ _ _ (Ex.new hp) (hv v hx)⟩
def LpAt (P : Hp → V → Prop) (H : Hp) (v : V) (n : Nat) : Prop := ∃ p vs, v = .ref p ∧ H p = some (.lst vs) ∧ vs.length = n ∧ ∀ x ∈ vs, P H x
theorem elp_cat {P : Hp → V → Prop} {v : V} {i n k : Nat} (m : Mono P) (hv : σ[i]? = some (some v)) (hl : LpAt P H v n) (h : EvLP P tb σ H k) (hn : n + k ≤ 100000 := by decide) : EvLP P (tOp rCat (tVar i) tb) σ H (n + k) := fun H1 e Q q => by
  obtain ⟨a, us, rfl, h1, h2, h3⟩ := hl
  refine ⟨.ref a, hv, h H1 e _ fun p vs H2 e2 hp hvs hlen hall => ?_⟩
  refine ⟨a, p, us, vs, rfl, rfl, (e.trans e2) _ _ h1, hvs, sz_of (by rw [h2, hlen]; exact hn), fun r hr => ?_⟩
  refine q r (us ++ vs) _ (e2.trans (Ex.new hr)) (fresh_back e2 hr) upd_same (by rw [List.length_append, h2, hlen]) fun x hx => ?_
  rcases List.mem_append.mp hx with z | z
  · exact m _ _ _ ((e.trans e2).trans (Ex.new hr)) (h3 x z)
  · exact m _ _ _ (Ex.new hr) (hall x z)
theorem q_asgLP {P : Hp → V → Prop} {tz : TS} {D : Ends} {i n : Nat} (h : EvLP P te σ H n) (k : ∀ v H1, Ex H H1 → LpAt P H1 v n → tz D (σ.set i (some v)) H1) : tSeq (tAsg te (gName i)) tz D σ H :=
  h H (Ex.refl H) _ fun p vs H2 e2 _ hv hl hd => k (.ref p) H2 e2 ⟨p, vs, rfl, hv, hl, hd⟩
theorem q_asgP {P : Hp → V → Prop} {tz : TS} {D : Ends} {i : Nat} (h : EvP P te σ H) (k : ∀ v H1, Ex H H1 → P H1 v → tz D (σ.set i (some v)) H1) : tSeq (tAsg te (gName i)) tz D σ H :=
  h H (Ex.refl H) _ fun v H2 e2 p => k v H2 e2 p
theorem s_forLP {P : Hp → V → Prop} {n : Nat} {tl : TE} {g : TG} {tu : TS} {D : Ends} (m : Mono P) (h : EvLP P tl σ H n) (Iv : L2.St → Prop) (h0 : Iv σ)
    (hs : ∀ H2 v σ' H', Ex H H2 → Ex H2 H' → Iv σ' → P H' v → g v σ' H' fun σ2 H3 => tu { D with nx := fun σ3 H4 => Iv σ3 ∧ Ex H2 H4, ct := fun σ3 H4 => Iv σ3 ∧ Ex H2 H4, bk := D.nx } σ2 H3)
    (hd : ∀ σ' H', Ex H H' → Iv σ' → D.nx σ' H') : tFor (iList K tl) g tu D σ H :=
  h H (Ex.refl H) _ fun p vs H2 e2 _ hv _ hall => ⟨p, rfl, ⟨_, sq_of hv⟩, for_list (xs := vs) (fun _ σ' H' => Iv σ' ∧ Ex H2 H') ⟨h0, Ex.refl H2⟩ (fun _ _ _ _ hp => sq_of (hp.2 _ _ hv))
    (fun i x σ' H' hx hp => hs H2 x σ' H' e2 hp.2 hp.1 (m _ _ _ hp.2 (hall x (List.mem_of_getElem? hx)))) (fun σ' H' hp => hd σ' H' (e2.trans hp.2) hp.1)⟩
theorem s_forLA {P : Hp → V → Prop} {n i : Nat} {v : V} {g : TG} {tu : TS} {D : Ends} (m : Mono P) (hv : σ[i]? = some (some v)) (h : LpAt P H v n) (Iv : L2.St → Prop) (h0 : Iv σ)
    (hs : ∀ v σ' H', Ex H H' → Iv σ' → P H' v → g v σ' H' fun σ2 H3 => tu { D with nx := fun σ3 H4 => Iv σ3 ∧ Ex H H4, ct := fun σ3 H4 => Iv σ3 ∧ Ex H H4, bk := D.nx } σ2 H3)
    (hd : ∀ σ' H', Ex H H' → Iv σ' → D.nx σ' H') : tFor (iList K (tVar i)) g tu D σ H := by
  obtain ⟨p, vs, rfl, hp, _, hall⟩ := h
  exact ⟨.ref p, hv, p, rfl, ⟨_, sq_of hp⟩, for_list (xs := vs) (fun _ σ' H' => Iv σ' ∧ Ex H H') ⟨h0, Ex.refl H⟩ (fun _ _ _ _ hq => sq_of (hq.2 _ _ hp))
    (fun i x σ' H' hx hq => hs x σ' H' hq.2 hq.1 (m _ _ _ hq.2 (hall x (List.mem_of_getElem? hx)))) (fun σ' H' hq => hd σ' H' hq.2 hq.1)⟩
theorem o_yes {Q : Bool → Hp → Prop} (h : Q true H) : tYes σ H Q := h
/-! ### numbers by evaluation -/
abbrev EvN (K : PySem.W.Frag) (te : TE) (σ : L2.St) (H : Hp) (n : Int × Int) (B : Nat) : Prop := EvP (fun H v => Gn K H v n B) te σ H
theorem gn_mono {n : Int × Int} {B : Nat} : Mono (fun H v => Gn K H v n B) := fun _ _ _ e g => g.ex e
theorem evn_var {i : Nat} {v : V} {n : Int × Int} {B : Nat} (hv : σ[i]? = some (some v)) (g : Gn K H v n B) : EvN K (tVar i) σ H n B := evp_of (ev_var hv) gn_mono g
theorem evn_new {n : Int × Int} {B : Nat} (hn : isNumB n.1 n.2 = true) (hb : Bd n B) (h : ∀ H1, Ex H H1 → ∀ Q : VK, NewP H1 Q n → te σ H1 Q) : EvN K te σ H n B := fun H1 e Q q => h H1 e Q fun H2 p e2 _ hp => q (.ref p) H2 e2 ⟨numAt_of hp, hn, hb⟩
theorem evn_two {g : Int × Int → Int × Int → Int × Int} {a b : Int × Int} {B1 B2 C : Nat} (ha : EvN K ta σ H a B1) (hb : EvN K tb σ H b B2) (l : B1 + B2 ≤ LIM) (hn : isNumB (g a b).1 (g a b).2 = true) (hC : Bd a (B1 + B2) → Bd b (B1 + B2) → Bd (g a b) C) :
    EvN K (tCall (spTwo K g) [] E0 (tCons ta (tCons tb tNil))) σ H (g a b) C := fun H1 e Q q =>
  ha H1 e _ fun u H2 e2 gu => hb H2 (e.trans e2) _ fun v H3 e3 gv => ⟨u, v, a, b, rfl, (gu.ex e3).mono (by omega), gv.mono (by omega), fun H4 w e4 hw => q w H4 ((e2.trans e3).trans e4) ⟨hw, hn, hC (gu.bd.mono (by omega)) (gv.bd.mono (by omega))⟩⟩
theorem evn_plus {a b : Int × Int} {B1 B2 : Nat} (ha : EvN K ta σ H a B1) (hb : EvN K tb σ H b B2) (l : B1 + B2 ≤ LIM := by decide) : EvN K (tCall (spTwo K padd) [] E0 (tCons ta (tCons tb tNil))) σ H (padd a b) (4 * (B1 + B2) + 1) := evn_two ha hb l (num_add a b) bd_add
theorem evn_less {a b : Int × Int} {B1 B2 : Nat} (ha : EvN K ta σ H a B1) (hb : EvN K tb σ H b B2) (l : B1 + B2 ≤ LIM := by decide) : EvN K (tCall (spTwo K psub) [] E0 (tCons ta (tCons tb tNil))) σ H (psub a b) (4 * (B1 + B2) + 1) := evn_two ha hb l (num_add a _) bd_sub
theorem evn_times {a b : Int × Int} {B1 B2 : Nat} (ha : EvN K ta σ H a B1) (hb : EvN K tb σ H b B2) (l : B1 + B2 ≤ LIM := by decide) : EvN K (tCall (spTwo K pmul) [] E0 (tCons ta (tCons tb tNil))) σ H (pmul a b) (4 * (B1 + B2)) := evn_two ha hb l (num_mul a b) bd_mul
theorem ev_ord {a b : Int × Int} {B1 B2 : Nat} (ha : EvN K ta σ H a B1) (hb : EvN K tb σ H b B2) (l : B1 + B2 ≤ LIM := by decide) : Ev (tCall (spOrd K) [] E0 (tCons ta (tCons tb tNil))) σ H (.int (pord a b)) := fun H1 e Q q =>
  ha H1 e _ fun u H2 e2 gu => hb H2 (e.trans e2) _ fun v H3 e3 gv => ⟨u, v, a, b, rfl, (gu.ex e3).mono (by omega), gv.mono (by omega), fun H4 e4 => q H4 ((e2.trans e3).trans e4)⟩
theorem evn_lit {m e : Int} {B : Nat} (ha : Ev ta σ H (.int m)) (hb : Ev tb σ H (.int e)) (hn : isNumB m e = true) (hB : Bd (m, e) B) : EvN K (tTup (tCons ta (tCons tb tNil))) σ H (m, e) B := fun H1 e1 Q q =>
  ha H1 e1 _ fun H2 e2 => hb H2 (e1.trans e2) _ fun H3 e3 => ⟨by show 2 ≤ sizeLine; decide, fun p hp => q (.ref p) _ ((e2.trans e3).trans (Ex.new hp)) ⟨numAt_of upd_same, hn, hB⟩⟩
theorem numAt_dp {v : V} {n : Int × Int} (h : NumAt K H v n) : Dp K H v (.tuple [.int n.1, .int n.2]) := by
  obtain ⟨a, rfl, h⟩ := h
  exact .tup h (.cons (.int _) (.cons (.int _) .nil))
theorem pair_shaped (m e : Int) : SeqAt.shaped (.tuple [.int m, .int e]) = true := rfl
theorem evb_ne {a b : Int × Int} {B1 B2 : Nat} (ha : EvN K ta σ H a B1) (hb : EvN K tb σ H b B2) : Ev (tOp (rNeD K) ta tb) σ H (.bl (!decide (a = b))) := fun H1 e Q q =>
  ha H1 e _ fun u H2 e2 gu => hb H2 (e.trans e2) _ fun v H3 e3 gv => by
    refine ⟨_, _, numAt_dp (gu.ex e3).at_, numAt_dp gv.at_, pair_shaped _ _, pair_shaped _ _, ?_⟩
    rw [eqv_pairs]
    have e4 : (decide (a.1 = b.1) && decide (a.2 = b.2)) = decide (a = b) := by
      rw [← Bool.decide_and]
      exact decide_eq_decide.mpr ⟨fun z => Prod.ext z.1 z.2, fun z => by rw [z]; exact ⟨rfl, rfl⟩⟩
    rw [e4]
    exact q H3 (e2.trans e3)
theorem evb_eq {a b : Int × Int} {B1 B2 : Nat} (ha : EvN K ta σ H a B1) (hb : EvN K tb σ H b B2) : Ev (tOp (rEqD K) ta tb) σ H (.bl (decide (a = b))) := fun H1 e Q q =>
  ha H1 e _ fun u H2 e2 gu => hb H2 (e.trans e2) _ fun v H3 e3 gv => by
    refine ⟨_, _, numAt_dp (gu.ex e3).at_, numAt_dp gv.at_, pair_shaped _ _, pair_shaped _ _, ?_⟩
    rw [eqv_pairs]
    have e4 : (decide (a.1 = b.1) && decide (a.2 = b.2)) = decide (a = b) := by
      rw [← Bool.decide_and]
      exact decide_eq_decide.mpr ⟨fun z => Prod.ext z.1 z.2, fun z => by rw [z]; exact ⟨rfl, rfl⟩⟩
    rw [e4]
    exact q H3 (e2.trans e3)
/-- two ways to one number are told as no difference -/
theorem evt_same {a b : Int × Int} {B1 B2 : Nat} (ha : EvN K ta σ H a B1) (hb : EvN K tb σ H b B2) (h : a = b) : EvT (tTest (tOp (rNeD K) ta tb)) σ H false := by
  have := et_test (evb_ne ha hb)
  rw [decide_eq_true h] at this
  exact this
theorem q_pass {t : TT} {tu tz : TS} {D : Ends} (h : EvT t σ H false) (k : ∀ H1, Ex H H1 → tz D σ H1) : tSeq (tIfS t tu tNext) tz D σ H := q_when h (fun z => by cases z) (fun _ => k)
/-! ### what is kept where one list changes -/
def Keeps (p : Addr) (H H' : Hp) : Prop := ∀ b o, H b = some o → b ≠ p → H' b = some o
theorem sqT_keep {p a : Addr} {xs ys : List V} (h : SqT K H a xs) (hp : H p = some (.lst ys)) (k : Keeps p H H') : SqT K H' a xs := by
  rcases h with (h | ⟨o, h⟩) | h
  · exact .inl (.inl (k _ _ h (fun z => by rw [z, hp] at h; cases h)))
  · exact .inl (.inr ⟨o, k _ _ h (fun z => by rw [z, hp] at h; cases h)⟩)
  · exact .inr h
theorem gn_keep {p : Addr} {v : V} {n : Int × Int} {B : Nat} {ys : List V} (g : Gn K H v n B) (hp : H p = some (.lst ys)) (k : Keeps p H H') : Gn K H' v n B := by
  obtain ⟨⟨a, rfl, h⟩, h2, h3⟩ := g
  exact ⟨⟨a, rfl, sqT_keep h hp k⟩, h2, h3⟩
theorem keeps_upd {p : Addr} {o : HO} : Keeps p H (upd H p o) := fun b o' h hb => by
  rw [upd_ne hb]
  exact h
theorem Keeps.trans {p : Addr} {H1 : Hp} (a : Keeps p H H') (b : Keeps p H' H1) : Keeps p H H1 := fun c o h hc => b c o (a c o h hc) hc
theorem keeps_ex {p : Addr} (e : Ex H H') : Keeps p H H' := fun b o h _ => e b o h
end
end Onc

namespace Onc
open PySem PySem.Spec PyProof.Rows L2 Evl
/-! ### how sums, products and orders go together -/
section
variable {a b c : Int × Int} {E : Int}
theorem padd_comm (a b : Int × Int) : padd a b = padd b a := by
  rw [padd_at (E := min a.2 b.2) (by omega) (by omega), padd_at (a := b) (b := a) (E := min a.2 b.2) (by omega) (by omega), Int.add_comm]
theorem pmul_comm (a b : Int × Int) : pmul a b = pmul b a := by
  unfold pmul
  rw [Int.mul_comm, Int.add_comm]
theorem at_add (ha : E ≤ a.2) (hb : E ≤ b.2) : at_ (padd a b) E = at_ a E + at_ b E := by
  rw [padd_at ha hb, at_same]
theorem at_sub (ha : E ≤ a.2) (hb : E ≤ b.2) : at_ (psub a b) E = at_ a E - at_ b E := by
  rw [psub_at ha hb, at_same]
theorem le_add (ha : E ≤ a.2) (hb : E ≤ b.2) (h0 : E ≤ 0) : E ≤ (padd a b).2 := by
  rw [padd_at ha hb]
  exact nrm_le h0
theorem le_sub (ha : E ≤ a.2) (hb : E ≤ b.2) (h0 : E ≤ 0) : E ≤ (psub a b).2 := by
  rw [psub_at ha hb]
  exact nrm_le h0
theorem at_mul {F : Int} (ha : E ≤ a.2) (hb : F ≤ b.2) : at_ (pmul a b) (E + F) = at_ a E * at_ b F := by
  rw [pmul_at ha hb, at_same]
theorem le_mul {F : Int} (ha : E ≤ a.2) (hb : F ≤ b.2) (h0 : E + F ≤ 0) : E + F ≤ (pmul a b).2 := by
  rw [pmul_at ha hb]
  exact nrm_le h0
/-- a power below all -/
theorem low3 (a b c : Int × Int) : ∃ E : Int, E ≤ a.2 ∧ E ≤ b.2 ∧ E ≤ c.2 ∧ E ≤ 0 := ⟨min (min a.2 b.2) (min c.2 0), by omega, by omega, by omega, by omega⟩
theorem padd_assoc (a b c : Int × Int) : padd (padd a b) c = padd a (padd b c) := by
  obtain ⟨E, ha, hb, hc, h0⟩ := low3 a b c
  rw [padd_at (le_add ha hb h0) hc, padd_at (b := padd b c) ha (le_add hb hc h0), at_add ha hb, at_add hb hc, Int.add_assoc]
theorem pmul_assoc (a b c : Int × Int) : pmul (pmul a b) c = pmul a (pmul b c) := by
  obtain ⟨E, ha, hb, hc, h0⟩ := low3 a b c
  rw [pmul_at (E := E + E) (F := E) (le_mul ha hb (by omega)) hc, pmul_at (b := pmul b c) (E := E) (F := E + E) ha (le_mul hb hc (by omega)), at_mul ha hb, at_mul hb hc, Int.mul_assoc, Int.add_assoc]
theorem pmul_add (a b c : Int × Int) : pmul a (padd b c) = padd (pmul a b) (pmul a c) := by
  obtain ⟨E, ha, hb, hc, h0⟩ := low3 a b c
  rw [pmul_at (E := E) (F := E) ha (le_add hb hc h0), padd_at (E := E + E) (le_mul ha hb (by omega)) (le_mul ha hc (by omega)), at_add hb hc, at_mul ha hb, at_mul ha hc, Int.mul_add]
theorem sub_add (hn : isNumB a.1 a.2 = true) : psub (padd a b) b = a := by
  obtain ⟨E, ha, hb, hc, h0⟩ := low3 a b b
  rw [psub_at (le_add ha hb h0) hb, at_add ha hb, Int.add_sub_cancel, num_at hn ha]
theorem add_sub (hn : isNumB a.1 a.2 = true) : padd (psub a b) b = a := by
  obtain ⟨E, ha, hb, hc, h0⟩ := low3 a b b
  rw [padd_at (le_sub ha hb h0) hb, at_sub ha hb, Int.sub_add_cancel, num_at hn ha]
theorem sub_self (a : Int × Int) : psub a a = (0, 0) := by
  rw [psub_at (E := a.2) (by omega) (by omega), Int.sub_self]
  rfl
theorem mul_one (hn : isNumB a.1 a.2 = true) : pmul a (1, 0) = a := by
  show nrm (a.1 * 1) (a.2 + 0) = a
  rw [Int.mul_one, Int.add_zero, nrm_self hn]
theorem add_zero (hn : isNumB a.1 a.2 = true) : padd a (0, 0) = a := by
  obtain ⟨E, ha, _, _, h0⟩ := low3 a a a
  rw [padd_at (b := (0, 0)) ha h0]
  have e : at_ (0, 0) E = 0 := Int.zero_mul _
  rw [e, Int.add_zero, num_at hn ha]
theorem mul_zero (a : Int × Int) : pmul a (0, 0) = (0, 0) := by
  show nrm (a.1 * 0) (a.2 + 0) = (0, 0)
  rw [Int.mul_zero]
  rfl
theorem zero_sub (a : Int × Int) : psub (0, 0) a = pmul a (-1, 0) := by
  obtain ⟨E, ha, _, _, h0⟩ := low3 a a a
  rw [psub_at (a := (0, 0)) h0 ha]
  have e : at_ (0, 0) E = 0 := Int.zero_mul _
  rw [e, pmul_at (b := (-1, 0)) (E := E) (F := 0) ha (Int.le_refl 0), Int.add_zero]
  have e2 : at_ (-1, 0) 0 = -1 := rfl
  rw [e2]
  congr 1
  omega
theorem ord_add (a b c : Int × Int) : pord (padd a c) (padd b c) = pord a b := by
  obtain ⟨E, ha, hb, hc, h0⟩ := low3 a b c
  rw [pord_at (le_add ha hc h0) (le_add hb hc h0), pord_at ha hb, at_add ha hc, at_add hb hc]
  congr 1
  omega
theorem sgn_prod (x y : Int) : sgn (x * y) = sgn x * sgn y := by
  rcases Int.lt_trichotomy x 0 with h | h | h <;> rcases Int.lt_trichotomy y 0 with g | g | g
  · rw [sgn_neg h, sgn_neg g, sgn_pos (Int.mul_pos_of_neg_of_neg h g)]
    rfl
  · subst g
    rw [Int.mul_zero, sgn_zero, Int.mul_zero]
  · rw [sgn_neg h, sgn_pos g, sgn_neg (Int.mul_neg_of_neg_of_pos h g)]
    rfl
  · subst h
    rw [Int.zero_mul, sgn_zero, Int.zero_mul]
  · subst h
    rw [Int.zero_mul, sgn_zero, Int.zero_mul]
  · subst h
    rw [Int.zero_mul, sgn_zero, Int.zero_mul]
  · rw [sgn_pos h, sgn_neg g, sgn_neg (Int.mul_neg_of_pos_of_neg h g)]
    rfl
  · subst g
    rw [Int.mul_zero, sgn_zero, Int.mul_zero]
  · rw [sgn_pos h, sgn_pos g, sgn_pos (Int.mul_pos h g)]
    rfl
theorem ord_mul (a b c : Int × Int) : pord (pmul a c) (pmul b c) = pord a b * sgn c.1 := by
  obtain ⟨E, ha, hb, hc, h0⟩ := low3 a b c
  rw [pord_at (E := E + E) (le_mul ha hc (by omega)) (le_mul hb hc (by omega)), pord_at ha hb, at_mul ha hc, at_mul hb hc, ← Int.sub_mul, sgn_prod, at_sgn c]
theorem ord_zero (hn : isNumB a.1 a.2 = true) (hm : isNumB b.1 b.2 = true) : pord a b = 0 ↔ a = b := by
  obtain ⟨E, ha, hb, _, h0⟩ := low3 a b b
  constructor
  · intro h
    rw [pord_at ha hb] at h
    have := sgn_of_zero h
    rw [← num_at hn ha, ← num_at hm hb, show at_ a E = at_ b E by omega]
  · intro h
    subst h
    unfold pord
    rw [Int.sub_self]
    rfl
theorem sgn_le {x : Int} (h : sgn x ≤ 0) : x ≤ 0 := by
  rcases Int.lt_trichotomy x 0 with q | q | q
  · omega
  · omega
  · rw [sgn_pos q] at h
    omega
theorem ord_trans (h1 : pord a b ≤ 0) (h2 : pord b c ≤ 0) : ¬ 0 < pord a c := by
  obtain ⟨E, ha, hb, hc, h0⟩ := low3 a b c
  rw [pord_at ha hb] at h1
  rw [pord_at hb hc] at h2
  rw [pord_at ha hc]
  have h1 := sgn_le h1
  have h2 := sgn_le h2
  intro h
  have h3 : ¬ 0 < at_ a E - at_ c E := by omega
  rcases sgn_cases (at_ a E - at_ c E) with q | q | q
  · exact h3 (sgn_of_pos q)
  · omega
  · omega
theorem pord_range (a b : Int × Int) : -1 ≤ pord a b ∧ pord a b ≤ 1 := by
  unfold pord
  rcases sgn_cases (at_ a (min a.2 b.2) - at_ b (min a.2 b.2)) with z | z | z <;> rw [z] <;> decide
theorem b2i_sgn (x : Int) : (if decide (0 < x) = true then (1 : Int) else 0) - (if decide (x < 0) = true then 1 else 0) = sgn x := by
  rcases Int.lt_trichotomy x 0 with q | q | q
  · rw [sgn_neg q, decide_eq_true q, decide_eq_false (by omega)]
    rfl
  · subst q
    rfl
  · rw [sgn_pos q, decide_eq_true q, decide_eq_false (by omega)]
    rfl
end
theorem num_zero {n : Int × Int} (h : isNumB n.1 n.2 = true) (h0 : n.1 = 0) : n = (0, 0) := by
  unfold isNumB at h
  rw [h0] at h
  rcases Bool.or_eq_true_iff.mp h with q | q
  · exact absurd (of_decide_eq_true q) (by decide)
  · exact Prod.ext h0 (of_decide_eq_true (Bool.and_eq_true_iff.mp q).2)
theorem num_odd {n : Int × Int} (h : isNumB n.1 n.2 = true) (h0 : n.1 ≠ 0) : n.1 % 2 = 1 := by
  unfold isNumB at h
  rcases Bool.or_eq_true_iff.mp h with q | q
  · exact of_decide_eq_true q
  · exact absurd (of_decide_eq_true (Bool.and_eq_true_iff.mp q).1) h0
theorem odd_num {m e : Int} (h : m % 2 = 1) : isNumB m e = true := by
  unfold isNumB
  rw [decide_eq_true h]
  rfl
theorem padd_zero_r {a b : Int × Int} (ha : isNumB a.1 a.2 = true) (h : b = (0, 0)) : padd a b = a := by
  subst h
  exact add_zero ha
/-- the sum at the lesser power, where the other one is even there -/
theorem padd_gt {a b : Int × Int} (hb : isNumB b.1 b.2 = true) (h0 : b.1 ≠ 0) (h : b.2 < a.2) : padd a b = (a.1 * 2 ^ (a.2 - b.2).toNat + b.1, b.2) := by
  rw [padd_at (E := b.2) (by omega) (by omega)]
  have e1 : at_ b b.2 = b.1 := by
    unfold at_
    rw [show (b.2 - b.2).toNat = 0 by omega, Int.pow_zero, Int.mul_one]
  rw [e1]
  refine nrm_self (odd_num ?_)
  have o := num_odd hb h0
  show (a.1 * 2 ^ (a.2 - b.2).toNat + b.1) % 2 = 1
  obtain ⟨k, hk⟩ : ∃ k, (a.2 - b.2).toNat = k + 1 := ⟨(a.2 - b.2).toNat - 1, by omega⟩
  rw [hk, Int.pow_succ, ← Int.mul_assoc]
  generalize a.1 * 2 ^ k = z
  omega
end Onc

namespace Onc
open PySem PySem.Spec PyProof.Rows L2 Evl
/-! ### lists of numbers -/
section
variable {K : PySem.W.Frag} {σ : L2.St} {H H' : Hp} {ta tb tc te : TE}
def GnL (K : PySem.W.Frag) (H : Hp) (B : Nat) : List V → List (Int × Int) → Prop
  | [], [] => True
  | v :: vs, n :: ns => Gn K H v n B ∧ GnL K H B vs ns
  | _, _ => False
theorem gnL_ex {B : Nat} (e : Ex H H') : ∀ {vs : List V} {ns : List (Int × Int)}, GnL K H B vs ns → GnL K H' B vs ns
  | [], [], _ => trivial
  | _ :: _, _ :: _, h => ⟨h.1.ex e, gnL_ex e h.2⟩
theorem gnL_len {B : Nat} : ∀ {vs : List V} {ns : List (Int × Int)}, GnL K H B vs ns → vs.length = ns.length
  | [], [], _ => rfl
  | _ :: _, _ :: _, h => congrArg Nat.succ (gnL_len h.2)
theorem gnL_keep {B : Nat} {p : Addr} {ys : List V} (hp : H p = some (.lst ys)) (k : Keeps p H H') : ∀ {vs : List V} {ns : List (Int × Int)}, GnL K H B vs ns → GnL K H' B vs ns
  | [], [], _ => trivial
  | _ :: _, _ :: _, h => ⟨gn_keep h.1 hp k, gnL_keep hp k h.2⟩
theorem gnL_app {B : Nat} : ∀ {vs ws : List V} {ns ms : List (Int × Int)}, GnL K H B vs ns → GnL K H B ws ms → GnL K H B (vs ++ ws) (ns ++ ms)
  | [], _, [], _, _, h => h
  | _ :: _, _, _ :: _, _, h1, h => ⟨h1.1, gnL_app h1.2 h⟩
theorem gnL_mem {B : Nat} : ∀ {vs : List V} {ns : List (Int × Int)}, GnL K H B vs ns → ∀ {i : Nat} {v : V}, vs[i]? = some v → ∃ n, Gn K H v n B
  | [], [], _, i, v, h => by simp at h
  | x :: _, n :: _, g, 0, v, h => by
    have e : x = v := Option.some.inj h
    subst e
    exact ⟨n, g.1⟩
  | _ :: _, _ :: _, g, i + 1, v, h => gnL_mem g.2 (i := i) h
def pairD (n : Int × Int) : PyData := .tuple [.int n.1, .int n.2]
theorem gnL_dp {B : Nat} : ∀ {vs : List V} {ns : List (Int × Int)}, GnL K H B vs ns → DpAll K H vs (ns.map pairD)
  | [], [], _ => .nil
  | _ :: _, _ :: _, h => .cons (numAt_dp h.1.at_) (gnL_dp h.2)
theorem lay_pairs : ∀ ns : List (Int × Int), PyData.canLayAll0 (ns.map pairD) = true
  | [] => rfl
  | n :: ns => by
    show (PyData.canLay0 (pairD n) && PyData.canLayAll0 (ns.map pairD)) = true
    rw [lay_pairs ns]
    rfl
theorem dep_pairs : ∀ ns : List (Int × Int), PyData.depthAll (ns.map pairD) ≤ 1
  | [] => by simp [PyData.depthAll]
  | n :: ns => by
    have h := dep_pairs ns
    have h2 : PyData.depth (pairD n) = 1 := by simp [pairD, PyData.depth, PyData.depthAll]
    have e : PyData.depthAll ((n :: ns).map pairD) = max (PyData.depth (pairD n)) (PyData.depthAll (ns.map pairD)) := by rw [List.map_cons, PyData.depthAll]
    rw [e, h2]
    omega
theorem list_lay (ns : List (Int × Int)) : PyData.canLay0 (.list (ns.map pairD)) = true := by
  rw [PyData.canLay0]
  exact lay_pairs ns
theorem list_shaped (ns : List (Int × Int)) : SeqAt.shaped (.list (ns.map pairD)) = true := by
  unfold SeqAt.shaped
  rw [list_lay ns, PyData.depth]
  have := dep_pairs ns
  rw [decide_eq_true (by omega)]
  rfl
/-- a list of these numbers -/
def LnAt (K : PySem.W.Frag) (H : Hp) (v : V) (ns : List (Int × Int)) (B : Nat) : Prop := ∃ p vs, v = .ref p ∧ H p = some (.lst vs) ∧ GnL K H B vs ns
theorem lnAt_ex {v : V} {ns : List (Int × Int)} {B : Nat} (e : Ex H H') (h : LnAt K H v ns B) : LnAt K H' v ns B := by
  obtain ⟨p, vs, e1, h1, h2⟩ := h
  exact ⟨p, vs, e1, e _ _ h1, gnL_ex e h2⟩
theorem evt_lists {u v : V} {i j : Nat} {ns : List (Int × Int)} {B C : Nat} (hu : σ[i]? = some (some u)) (hv : σ[j]? = some (some v)) (h1 : LnAt K H u ns B) (h2 : LnAt K H v ns C) : EvT (tTest (tOp (rNeD K) (tVar i) (tVar j))) σ H false := fun H1 e Q q => by
  obtain ⟨p, vs, rfl, hp, gp⟩ := lnAt_ex e h1
  obtain ⟨r, ws, rfl, hr, gr⟩ := lnAt_ex e h2
  refine ⟨.ref p, hu, .ref r, hv, .list (ns.map pairD), .list (ns.map pairD), .lst (sq_of hp) (gnL_dp gp), .lst (sq_of hr) (gnL_dp gr), list_shaped ns, list_shaped ns, false, ?_, q H1 (Ex.refl H1)⟩
  rw [SeqAt.eqv_refl _ (list_lay ns)]
  rfl
def EvNs (K : PySem.W.Frag) (ta : TA) (σ : L2.St) (H : Hp) (ns : List (Int × Int)) (B : Nat) : Prop := ∀ H1, Ex H H1 → ∀ Q : List V → Hp → Prop, (∀ vs H2, Ex H1 H2 → GnL K H2 B vs ns → Q vs H2) → ta σ H1 Q
theorem evns_nil {B : Nat} : EvNs K tNil σ H [] B := fun H1 _ _ q => q [] H1 (Ex.refl H1) trivial
theorem evns_cons {tr : TA} {n : Int × Int} {ns : List (Int × Int)} {B C : Nat} (h : EvN K ta σ H n C) (hr : EvNs K tr σ H ns B) (l : C ≤ B := by decide) : EvNs K (tCons ta tr) σ H (n :: ns) B := fun H1 e Q q =>
  h H1 e _ fun v H2 e2 g => hr H2 (e.trans e2) _ fun vs H3 e3 hv => q (v :: vs) H3 (e2.trans e3) ⟨(g.ex e3).mono l, hv⟩
theorem EvNs.mono {ta : TA} {ns : List (Int × Int)} {B : Nat} (h : EvNs K ta σ H ns B) (e : Ex H H') : EvNs K ta σ H' ns B := fun H1 e1 Q q => h H1 (e.trans e1) Q q
theorem q_asgLN {tr : TA} {ns : List (Int × Int)} {B i : Nat} {tz : TS} {D : Ends} (h : EvNs K tr σ H ns B) (hl : ns.length ≤ 1000) (k : ∀ p vs H1, Ex H H1 → H p = none → H1 p = some (.lst vs) → GnL K H1 B vs ns → tz D (σ.set i (some (.ref p))) H1) : tSeq (tAsg (tLst tr) (gName i)) tz D σ H :=
  h H (Ex.refl H) _ fun vs H2 e2 hv => ⟨sz_of (by rw [gnL_len hv]; omega), fun p hp => k p vs _ (e2.trans (Ex.new hp)) (fresh_back e2 hp) upd_same (gnL_ex (Ex.new hp) hv)⟩
theorem q_asgLNcat {tr : TA} {ns ms : List (Int × Int)} {B i j : Nat} {v : V} {tz : TS} {D : Ends} (hv : σ[j]? = some (some v)) (hn : LnAt K H v ns B) (h : EvNs K tr σ H ms B) (hl : ns.length + ms.length ≤ 1000) (k : ∀ w H1, Ex H H1 → LnAt K H1 w (ns ++ ms) B → tz D (σ.set i (some w)) H1) : tSeq (tAsg (tOp rCat (tVar j) (tLst tr)) (gName i)) tz D σ H := by
  obtain ⟨a, us, rfl, h1, h2⟩ := hn
  refine ⟨.ref a, hv, h H (Ex.refl H) _ fun vs H2 e2 hvs => ⟨sz_of (by rw [gnL_len hvs]; omega), fun p hp => ?_⟩⟩
  have ap : a ≠ p := ne_of_none (e2 _ _ h1) hp
  refine ⟨a, p, us, vs, rfl, rfl, by rw [upd_ne ap]; exact e2 _ _ h1, upd_same, sz_of (by rw [gnL_len h2, gnL_len hvs]; omega), fun r hr => ?_⟩
  have e3 := (e2.trans (Ex.new (o := .lst vs) hp)).trans (Ex.new (o := .lst (us ++ vs)) hr)
  exact k (.ref r) _ e3 ⟨r, us ++ vs, rfl, upd_same, gnL_app (gnL_ex e3 h2) (gnL_ex ((Ex.new hp).trans (Ex.new hr)) hvs)⟩
/-! ### by names -/
theorem evn_kw {g : Int × Int → Int × Int → Int × Int} {a b : Int × Int} {B1 B2 C : Nat} (ha : EvN K ta σ H a B1) (hb : EvN K tb σ H b B2) (l : B1 + B2 ≤ LIM) (hn : isNumB (g a b).1 (g a b).2 = true) (hC : Bd a (B1 + B2) → Bd b (B1 + B2) → Bd (g a b) C) :
    EvN K (tCallN 0 2 (spTwo K g) (fun _ zs => zs.reverse) E0 tNil (tCons tb (tCons ta tNil))) σ H (g a b) C := fun H1 e Q q =>
  hb H1 e _ fun v H2 e2 gv => ha H2 (e.trans e2) _ fun u H3 e3 gu => ⟨rfl, rfl, u, v, a, b, rfl, gu.mono (by omega), (gv.ex e3).mono (by omega), fun H4 w e4 hw => q w H4 ((e2.trans e3).trans e4) ⟨hw, hn, hC (gu.bd.mono (by omega)) (gv.bd.mono (by omega))⟩⟩
theorem ev_ordkw {a b : Int × Int} {B1 B2 : Nat} (ha : EvN K ta σ H a B1) (hb : EvN K tb σ H b B2) (l : B1 + B2 ≤ LIM) : Ev (tCallN 0 2 (spOrd K) (fun _ zs => zs.reverse) E0 tNil (tCons tb (tCons ta tNil))) σ H (.int (pord a b)) := fun H1 e Q q =>
  hb H1 e _ fun v H2 e2 gv => ha H2 (e.trans e2) _ fun u H3 e3 gu => ⟨rfl, rfl, u, v, a, b, rfl, gu.mono (by omega), (gv.ex e3).mono (by omega), fun H4 e4 => q H4 ((e2.trans e3).trans e4)⟩
end
theorem cmp_sgn (x y : Int) : (if decide (y < x) = true then (1 : Int) else 0) - (if decide (x < y) = true then 1 else 0) = sgn (x - y) := by
  rw [← b2i_sgn (x - y)]
  have e1 : decide (0 < x - y) = decide (y < x) := decide_eq_decide.mpr ⟨fun h => by omega, fun h => by omega⟩
  have e2 : decide (x - y < 0) = decide (x < y) := decide_eq_decide.mpr ⟨fun h => by omega, fun h => by omega⟩
  rw [e1, e2]
end Onc

namespace Onc
open PySem PySem.Spec PyProof.Rows L2 Evl
/-! ### least and greatest -/
def IsLeast (n : Int × Int) (ns : List (Int × Int)) : Prop := n ∈ ns ∧ ∀ m ∈ ns, pord n m ≤ 0
def IsGreat (n : Int × Int) (ns : List (Int × Int)) : Prop := n ∈ ns ∧ ∀ m ∈ ns, pord m n ≤ 0
def AllNum (ns : List (Int × Int)) : Prop := ∀ n ∈ ns, isNumB n.1 n.2 = true
theorem pord_anti {a b : Int × Int} (ha : isNumB a.1 a.2 = true) (hb : isNumB b.1 b.2 = true) (h1 : pord a b ≤ 0) (h2 : pord b a ≤ 0) : a = b := by
  rw [pord_swap a b] at h2
  exact (ord_zero ha hb).mp (by omega)
theorem least_unique {n m : Int × Int} {ns ms : List (Int × Int)} (h1 : IsLeast n ns) (h2 : IsLeast m ms) (hs : ∀ x, x ∈ ns ↔ x ∈ ms) (a : AllNum ns) : n = m :=
  pord_anti (a n h1.1) (a m ((hs m).mpr h2.1)) (h1.2 m ((hs m).mpr h2.1)) (h2.2 n ((hs n).mp h1.1))
theorem great_unique {n m : Int × Int} {ns ms : List (Int × Int)} (h1 : IsGreat n ns) (h2 : IsGreat m ms) (hs : ∀ x, x ∈ ns ↔ x ∈ ms) (a : AllNum ns) : n = m :=
  pord_anti (a n h1.1) (a m ((hs m).mpr h2.1)) (h2.2 n ((hs n).mp h1.1)) (h1.2 m ((hs m).mpr h2.1))
theorem pneg_pneg (a : Int × Int) : pneg (pneg a) = a := by
  unfold pneg
  simp
theorem pord_neg (a b : Int × Int) : pord (pneg a) (pneg b) = pord b a := by
  have ha : min a.2 b.2 ≤ (pneg a).2 := by show min a.2 b.2 ≤ a.2; omega
  have hb : min a.2 b.2 ≤ (pneg b).2 := by show min a.2 b.2 ≤ b.2; omega
  rw [pord_at ha hb, at_neg, at_neg, pord_at (a := b) (b := a) (E := min a.2 b.2) (by omega) (by omega)]
  congr 1
  omega
theorem great_neg {n : Int × Int} {ns : List (Int × Int)} (h : IsLeast n (ns.map pneg)) : IsGreat (pneg n) ns := by
  obtain ⟨h1, h2⟩ := h
  obtain ⟨m, hm, e⟩ := List.mem_map.mp h1
  refine ⟨by rw [← e, pneg_pneg]; exact hm, fun x hx => ?_⟩
  have := h2 (pneg x) (List.mem_map.mpr ⟨x, hx, rfl⟩)
  rw [← pneg_pneg x, pord_neg]
  exact this
theorem least_le_great {n m : Int × Int} {ns : List (Int × Int)} (h1 : IsLeast n ns) (h2 : IsGreat m ns) : pord n m ≤ 0 := h1.2 m h2.1
theorem add_le {a b c d : Int × Int} (h1 : pord a b ≤ 0) (h2 : pord c d ≤ 0) : pord (padd a c) (padd b d) ≤ 0 := by
  obtain ⟨E, ha, hb, hc, h0⟩ := low3 a b c
  obtain ⟨E2, ha2, hd, hc2, h02⟩ := low3 a d c
  have l : min E E2 ≤ a.2 ∧ min E E2 ≤ b.2 ∧ min E E2 ≤ c.2 ∧ min E E2 ≤ d.2 ∧ min E E2 ≤ 0 := by omega
  obtain ⟨la, lb, lc, ld, l0⟩ := l
  rw [pord_at la lb] at h1
  rw [pord_at lc ld] at h2
  rw [pord_at (le_add la lc l0) (le_add lb ld l0), at_add la lc, at_add lb ld]
  have h1 := sgn_le h1
  have h2 := sgn_le h2
  rcases sgn_cases (at_ a (min E E2) + at_ c (min E E2) - (at_ b (min E E2) + at_ d (min E E2))) with q | q | q
  · have := sgn_of_pos q
    omega
  · omega
  · omega
theorem pord_self (a : Int × Int) : pord a a = 0 := by
  unfold pord
  rw [Int.sub_self]
  rfl
/-! ### products of ends -/
theorem ord_at {a b : Int × Int} {E : Int} (ha : E ≤ a.2) (hb : E ≤ b.2) : pord a b ≤ 0 ↔ at_ a E ≤ at_ b E := by
  rw [pord_at ha hb]
  constructor
  · intro h
    have := sgn_le h
    omega
  · intro h
    rcases sgn_cases (at_ a E - at_ b E) with q | q | q
    · have := sgn_of_pos q
      omega
    · omega
    · omega
theorem at_nonneg {a : Int × Int} {E : Int} (h : 0 ≤ a.1) : 0 ≤ at_ a E := Int.mul_nonneg h (Int.le_of_lt (pow_pos2 _))
theorem at_nonpos {a : Int × Int} {E : Int} (h : a.1 ≤ 0) : at_ a E ≤ 0 := Int.mul_nonpos_of_nonpos_of_nonneg h (Int.le_of_lt (pow_pos2 _))
def prods (a b c d : Int × Int) : List (Int × Int) := [pmul a c, pmul a d, pmul b c, pmul b d]
section
variable {a b c d x y : Int × Int} {E : Int}
theorem ord_mul2 {z w : Int × Int} (hx : E ≤ x.2) (hy : E ≤ y.2) (hz : E ≤ z.2) (hw : E ≤ w.2) (h0 : E ≤ 0) : pord (pmul x y) (pmul z w) ≤ 0 ↔ at_ x E * at_ y E ≤ at_ z E * at_ w E := by
  rw [ord_at (le_mul hx hy (show E + E ≤ 0 by omega)) (le_mul hz hw (show E + E ≤ 0 by omega)), at_mul hx hy, at_mul hz hw]
theorem least4 (ha : E ≤ a.2) (hb : E ≤ b.2) (hc : E ≤ c.2) (hd : E ≤ d.2) (h0 : E ≤ 0) (hx : E ≤ x.2) (hy : E ≤ y.2) (hm : pmul x y ∈ prods a b c d)
    (h : at_ x E * at_ y E ≤ at_ a E * at_ c E ∧ at_ x E * at_ y E ≤ at_ a E * at_ d E ∧ at_ x E * at_ y E ≤ at_ b E * at_ c E ∧ at_ x E * at_ y E ≤ at_ b E * at_ d E) : IsLeast (pmul x y) (prods a b c d) := by
  refine ⟨hm, fun m hm => ?_⟩
  obtain ⟨h1, h2, h3, h4⟩ := h
  simp only [prods, List.mem_cons, List.not_mem_nil, or_false] at hm
  rcases hm with rfl | rfl | rfl | rfl
  · exact (ord_mul2 hx hy ha hc h0).mpr h1
  · exact (ord_mul2 hx hy ha hd h0).mpr h2
  · exact (ord_mul2 hx hy hb hc h0).mpr h3
  · exact (ord_mul2 hx hy hb hd h0).mpr h4
theorem great4 (ha : E ≤ a.2) (hb : E ≤ b.2) (hc : E ≤ c.2) (hd : E ≤ d.2) (h0 : E ≤ 0) (hx : E ≤ x.2) (hy : E ≤ y.2) (hm : pmul x y ∈ prods a b c d)
    (h : at_ a E * at_ c E ≤ at_ x E * at_ y E ∧ at_ a E * at_ d E ≤ at_ x E * at_ y E ∧ at_ b E * at_ c E ≤ at_ x E * at_ y E ∧ at_ b E * at_ d E ≤ at_ x E * at_ y E) : IsGreat (pmul x y) (prods a b c d) := by
  refine ⟨hm, fun m hm => ?_⟩
  obtain ⟨h1, h2, h3, h4⟩ := h
  simp only [prods, List.mem_cons, List.not_mem_nil, or_false] at hm
  rcases hm with rfl | rfl | rfl | rfl
  · exact (ord_mul2 ha hc hx hy h0).mpr h1
  · exact (ord_mul2 ha hd hx hy h0).mpr h2
  · exact (ord_mul2 hb hc hx hy h0).mpr h3
  · exact (ord_mul2 hb hd hx hy h0).mpr h4
theorem m_ac : pmul a c ∈ prods a b c d := by simp [prods]
theorem m_ad : pmul a d ∈ prods a b c d := by simp [prods]
theorem m_bc : pmul b c ∈ prods a b c d := by simp [prods]
theorem m_bd : pmul b d ∈ prods a b c d := by simp [prods]
theorem lm {p q r : Int} (h : p ≤ q) (hr : 0 ≤ r) : r * p ≤ r * q := Int.mul_le_mul_of_nonneg_left h hr
theorem lm' {p q r : Int} (h : p ≤ q) (hr : r ≤ 0) : r * q ≤ r * p := Int.mul_le_mul_of_nonpos_left hr h
theorem rm {p q r : Int} (h : p ≤ q) (hr : 0 ≤ r) : p * r ≤ q * r := Int.mul_le_mul_of_nonneg_right h hr
theorem rm' {p q r : Int} (h : p ≤ q) (hr : r ≤ 0) : q * r ≤ p * r := Int.mul_le_mul_of_nonpos_right h hr
theorem low4 (a b c d : Int × Int) : ∃ E : Int, E ≤ a.2 ∧ E ≤ b.2 ∧ E ≤ c.2 ∧ E ≤ d.2 ∧ E ≤ 0 := ⟨min (min (min a.2 b.2) (min c.2 d.2)) 0, by omega, by omega, by omega, by omega, by omega⟩
theorem ends_a (hab : pord a b ≤ 0) (hcd : pord c d ≤ 0) (h : 0 ≤ a.1) : IsLeast (pmul (if 0 ≤ c.1 then a else b) c) (prods a b c d) ∧ IsGreat (pmul (if 0 ≤ d.1 then b else a) d) (prods a b c d) := by
  obtain ⟨E, ha, hb, hc, hd, h0⟩ := low4 a b c d
  have A := (ord_at ha hb).mp hab
  have C := (ord_at hc hd).mp hcd
  have sA : 0 ≤ at_ a E := at_nonneg h
  have f1 := lm C sA
  have f2 := lm C (Int.le_trans sA A)
  constructor
  · by_cases z : 0 ≤ c.1
    · have sC : 0 ≤ at_ c E := at_nonneg z
      have f3 := rm A sC
      rw [if_pos z]
      exact least4 ha hb hc hd h0 ha hc m_ac ⟨Int.le_refl _, by omega, by omega, by omega⟩
    · have sC : at_ c E ≤ 0 := at_nonpos (by omega)
      have f3 := rm' A sC
      rw [if_neg z]
      exact least4 ha hb hc hd h0 hb hc m_bc ⟨by omega, by omega, Int.le_refl _, by omega⟩
  · by_cases z : 0 ≤ d.1
    · have sD : 0 ≤ at_ d E := at_nonneg z
      have f3 := rm A sD
      rw [if_pos z]
      exact great4 ha hb hc hd h0 hb hd m_bd ⟨by omega, by omega, by omega, Int.le_refl _⟩
    · have sD : at_ d E ≤ 0 := at_nonpos (by omega)
      have f3 := rm' A sD
      rw [if_neg z]
      exact great4 ha hb hc hd h0 ha hd m_ad ⟨by omega, Int.le_refl _, by omega, by omega⟩
theorem ends_b (hab : pord a b ≤ 0) (hcd : pord c d ≤ 0) (h : b.1 ≤ 0) : IsLeast (pmul (if 0 ≤ d.1 then a else b) d) (prods a b c d) ∧ IsGreat (pmul (if c.1 ≤ 0 then a else b) c) (prods a b c d) := by
  obtain ⟨E, ha, hb, hc, hd, h0⟩ := low4 a b c d
  have A := (ord_at ha hb).mp hab
  have C := (ord_at hc hd).mp hcd
  have sB : at_ b E ≤ 0 := at_nonpos h
  have f1 := lm' C sB
  have f2 := lm' C (Int.le_trans A sB)
  constructor
  · by_cases z : 0 ≤ d.1
    · have sD : 0 ≤ at_ d E := at_nonneg z
      have f3 := rm A sD
      rw [if_pos z]
      exact least4 ha hb hc hd h0 ha hd m_ad ⟨by omega, Int.le_refl _, by omega, by omega⟩
    · have sD : at_ d E ≤ 0 := at_nonpos (by omega)
      have f3 := rm' A sD
      rw [if_neg z]
      exact least4 ha hb hc hd h0 hb hd m_bd ⟨by omega, by omega, by omega, Int.le_refl _⟩
  · by_cases z : c.1 ≤ 0
    · have sC : at_ c E ≤ 0 := at_nonpos z
      have f3 := rm' A sC
      rw [if_pos z]
      exact great4 ha hb hc hd h0 ha hc m_ac ⟨Int.le_refl _, by omega, by omega, by omega⟩
    · have sC : 0 ≤ at_ c E := at_nonneg (by omega)
      have f3 := rm A sC
      rw [if_neg z]
      exact great4 ha hb hc hd h0 hb hc m_bc ⟨by omega, by omega, Int.le_refl _, by omega⟩
theorem ends_c (hab : pord a b ≤ 0) (hcd : pord c d ≤ 0) (h1 : a.1 ≤ 0) (h2 : 0 ≤ b.1) (h : 0 ≤ c.1) : IsLeast (pmul a d) (prods a b c d) ∧ IsGreat (pmul b d) (prods a b c d) := by
  obtain ⟨E, ha, hb, hc, hd, h0⟩ := low4 a b c d
  have A := (ord_at ha hb).mp hab
  have C := (ord_at hc hd).mp hcd
  have sC : 0 ≤ at_ c E := at_nonneg h
  have f1 := lm' C (at_nonpos (E := E) h1)
  have f2 := lm C (at_nonneg (E := E) h2)
  have f3 := rm A sC
  have f4 := rm A (Int.le_trans sC C)
  exact ⟨least4 ha hb hc hd h0 ha hd m_ad ⟨by omega, Int.le_refl _, by omega, by omega⟩, great4 ha hb hc hd h0 hb hd m_bd ⟨by omega, by omega, by omega, Int.le_refl _⟩⟩
theorem ends_d (hab : pord a b ≤ 0) (hcd : pord c d ≤ 0) (h1 : a.1 ≤ 0) (h2 : 0 ≤ b.1) (h : d.1 ≤ 0) : IsLeast (pmul b c) (prods a b c d) ∧ IsGreat (pmul a c) (prods a b c d) := by
  obtain ⟨E, ha, hb, hc, hd, h0⟩ := low4 a b c d
  have A := (ord_at ha hb).mp hab
  have C := (ord_at hc hd).mp hcd
  have sD : at_ d E ≤ 0 := at_nonpos h
  have f1 := lm' C (at_nonpos (E := E) h1)
  have f2 := lm C (at_nonneg (E := E) h2)
  have f3 := rm' A sD
  have f4 := rm' A (Int.le_trans C sD)
  exact ⟨least4 ha hb hc hd h0 hb hc m_bc ⟨by omega, by omega, Int.le_refl _, by omega⟩, great4 ha hb hc hd h0 ha hc m_ac ⟨Int.le_refl _, by omega, by omega, by omega⟩⟩
theorem ends_e (hab : pord a b ≤ 0) (hcd : pord c d ≤ 0) (h1 : a.1 ≤ 0) (h2 : 0 ≤ b.1) (h3 : c.1 ≤ 0) (h4 : 0 ≤ d.1) :
    IsLeast (if pord (pmul a d) (pmul b c) ≤ 0 then pmul a d else pmul b c) (prods a b c d) ∧ IsGreat (if 0 ≤ pord (pmul a c) (pmul b d) then pmul a c else pmul b d) (prods a b c d) := by
  obtain ⟨E, ha, hb, hc, hd, h0⟩ := low4 a b c d
  have A := (ord_at ha hb).mp hab
  have C := (ord_at hc hd).mp hcd
  have f1 := lm' C (at_nonpos (E := E) h1)
  have f2 := lm C (at_nonneg (E := E) h2)
  have f3 := rm' A (at_nonpos (E := E) h3)
  have f4 := rm A (at_nonneg (E := E) h4)
  constructor
  · by_cases z : pord (pmul a d) (pmul b c) ≤ 0
    · have z2 := (ord_mul2 ha hd hb hc h0).mp z
      rw [if_pos z]
      exact least4 ha hb hc hd h0 ha hd m_ad ⟨by omega, Int.le_refl _, by omega, by omega⟩
    · have z2 : ¬ at_ a E * at_ d E ≤ at_ b E * at_ c E := fun y => z ((ord_mul2 ha hd hb hc h0).mpr y)
      rw [if_neg z]
      exact least4 ha hb hc hd h0 hb hc m_bc ⟨by omega, by omega, Int.le_refl _, by omega⟩
  · by_cases z : 0 ≤ pord (pmul a c) (pmul b d)
    · have z1 : pord (pmul b d) (pmul a c) ≤ 0 := by rw [pord_swap]; omega
      have z2 := (ord_mul2 hb hd ha hc h0).mp z1
      rw [if_pos z]
      exact great4 ha hb hc hd h0 ha hc m_ac ⟨Int.le_refl _, by omega, by omega, by omega⟩
    · have z1 : pord (pmul a c) (pmul b d) ≤ 0 := by omega
      have z2 := (ord_mul2 ha hc hb hd h0).mp z1
      rw [if_neg z]
      exact great4 ha hb hc hd h0 hb hd m_bd ⟨by omega, by omega, by omega, Int.le_refl _⟩
end
/-! ### parts and choices of numbers -/
section
variable {K : PySem.W.Frag} {σ : L2.St} {H H' : Hp} {ta tb tc te : TE} {n m : Int × Int} {B : Nat}
theorem ev_m (h : EvN K te σ H n B) : Ev (tOp (rIxT K) te (tC (.int 0))) σ H (.int n.1) := fun H1 e Q q =>
  h H1 e _ fun v H2 e2 g => by
    obtain ⟨a, rfl, ha⟩ := g.at_
    exact ⟨a, [.int n.1, .int n.2], 0, .int n.1, rfl, rfl, ha, rfl, q H2 e2⟩
theorem ev_e (h : EvN K te σ H n B) : Ev (tOp (rIxT K) te (tC (.int 1))) σ H (.int n.2) := fun H1 e Q q =>
  h H1 e _ fun v H2 e2 g => by
    obtain ⟨a, rfl, ha⟩ := g.at_
    exact ⟨a, [.int n.1, .int n.2], 1, .int n.2, rfl, rfl, ha, rfl, q H2 e2⟩
theorem evp_if {P : Hp → V → Prop} {t : TT} {b : Bool} (h : EvT t σ H b) (h1 : b = true → EvP P ta σ H) (h2 : b = false → EvP P tb σ H) : EvP P (tIf t ta tb) σ H := fun H1 e Q q => h H1 e _ fun H2 e2 => by
  cases b with
  | true => exact (h1 rfl) H2 (e.trans e2) _ fun v H3 e3 g => q v H3 (e2.trans e3) g
  | false => exact (h2 rfl) H2 (e.trans e2) _ fun v H3 e3 g => q v H3 (e2.trans e3) g
theorem evn_if {t : TT} {p : Prop} [Decidable p] (h : EvT t σ H (decide p)) (h1 : EvN K ta σ H n B) (h2 : EvN K tb σ H m B) : EvN K (tIf t ta tb) σ H (if p then n else m) B := by
  by_cases z : p
  · rw [if_pos z]
    exact evp_if h (fun _ => h1) (fun y => by rw [decide_eq_true z] at y; cases y)
  · rw [if_neg z]
    exact evp_if h (fun y => by rw [decide_eq_false z] at y; cases y) (fun _ => h2)
theorem evn_les (ha : EvN K ta σ H n B) (hb : EvN K tb σ H m B) (l : B ≤ LIM := by decide) : EvN K (tCall (spLes K) [] E0 (tCons ta (tCons tb tNil))) σ H (if pord n m ≤ 0 then n else m) B := fun H1 e Q q =>
  ha H1 e _ fun u H2 e2 gu => hb H2 (e.trans e2) _ fun v H3 e3 gv => ⟨u, v, n, m, rfl, (gu.ex e3).mono l, gv.mono l, fun z H4 e4 => by rw [if_pos z] at q; exact q u H4 ((e2.trans e3).trans e4) ((gu.ex e3).ex e4), fun z H4 e4 => by rw [if_neg (by omega)] at q; exact q v H4 ((e2.trans e3).trans e4) (gv.ex e4)⟩
theorem evn_gre (ha : EvN K ta σ H n B) (hb : EvN K tb σ H m B) (l : B ≤ LIM := by decide) : EvN K (tCall (spGre K) [] E0 (tCons ta (tCons tb tNil))) σ H (if 0 ≤ pord n m then n else m) B := fun H1 e Q q =>
  ha H1 e _ fun u H2 e2 gu => hb H2 (e.trans e2) _ fun v H3 e3 gv => ⟨u, v, n, m, rfl, (gu.ex e3).mono l, gv.mono l, fun z H4 e4 => by rw [if_pos z] at q; exact q u H4 ((e2.trans e3).trans e4) ((gu.ex e3).ex e4), fun z H4 e4 => by rw [if_neg (by omega)] at q; exact q v H4 ((e2.trans e3).trans e4) (gv.ex e4)⟩
end
/-! ### what is known of the class Stretch -/
structure StrC (K : PySem.W.Frag) (mg : Str → Option Value) (C : Addr) : Prop where
  m : mg "Stretch" = some (.ref C)
  cl : Cls K C
  nl : NoAttr K C "low"
  nh : NoAttr K C "high"
  ha : PySem.W.findIn K (.ref C) "__class__" = some (some (.builtin "object.__class__"))
  hn : PySem.W.specialIn K (.builtin "object.__class__") "__get__" = some (some (.builtin "getset_descriptor.__get__"))
  htk : PySem.W.takesIn K (.builtin "object.__class__") = some true
  hm : PySem.W.mroIn K C (.type "object") = some true
structure CalI (P : Program) (w : World) (K : PySem.W.Frag) (mg : Str → Option Value) (base : Heap) (CX : CXT) (k : Nat) (ps : List Str) (sp : Sp) (f : Addr) (fd : FuncData) : Prop where
  ok : FnOk P w K mg base CX k f fd ps sp
  b : Binds K fd ps []
structure CalK (P : Program) (w : World) (K : PySem.W.Frag) (mg : Str → Option Value) (base : Heap) (CX : CXT) (k : Nat) (x : Str) (ps : List Str) (sp : Sp) (f : Addr) (fd : FuncData) : Prop where
  ok : FnOk P w K mg base CX k f fd ps sp
  m : mg x = some (.ref f)
  kp : PySem.W.keepIn K (.ref f) = true
def StrAt (K : PySem.W.Frag) (C : Addr) (B : Nat) (a b : Int × Int) (H : Hp) (v : V) : Prop := ∃ x dx u w, v = .ref x ∧ H x = some (.ins C dx [("low", u), ("high", w)]) ∧ Gn K H u a B ∧ Gn K H w b B
section
variable {K : PySem.W.Frag} {mg : Str → Option Value} {C : Addr} {σ : L2.St} {H H' : Hp} {ta tb tc te : TE} {a b : Int × Int} {B : Nat}
theorem str_mono : Mono (StrAt K C B a b) := fun _ _ _ e ⟨x, dx, u, w, e1, h, g1, g2⟩ => ⟨x, dx, u, w, e1, e _ _ h, g1.ex e, g2.ex e⟩
theorem kit_self : PySem.W.kitOne K (.ref C) (.ref C) = some true := by
  unfold PySem.W.kitOne
  simp
theorem isi_str {v : V} {Q : VK} (S : StrC K mg C) (h : StrAt K C B a b H v) (q : Q (.bl true) H) : rIsi K [v, .ref C] H Q := by
  obtain ⟨x, dx, u, w, rfl, hx, _, _⟩ := h
  exact ⟨.ref x, .ref C, .ref C, .ref C, true, rfl, .own C, .base (.ins hx S.cl S.ha S.hn S.htk S.hm), kit_self, q⟩
theorem ev_isS (S : StrC K mg C) (h : EvP (StrAt K C B a b) ta σ H) : Ev (tCB (rIsi K) (tCons ta (tCons (tC (.ref C)) tNil))) σ H (.bl true) := fun H1 e Q q =>
  h H1 e _ fun v H2 e2 g => isi_str S g (q H2 e2)
theorem evn_low (S : StrC K mg C) (h : EvP (StrAt K C B a b) ta σ H) : EvN K (tFld K ta "low") σ H a B := fun H1 e Q q =>
  h H1 e _ fun v H2 e2 ⟨x, dx, u, w, e1, hx, g1, g2⟩ => ⟨x, C, dx, _, u, e1, hx, S.cl, S.nl, rfl, q u H2 e2 g1⟩
theorem evn_high (S : StrC K mg C) (h : EvP (StrAt K C B a b) ta σ H) : EvN K (tFld K ta "high") σ H b B := fun H1 e Q q =>
  h H1 e _ fun v H2 e2 ⟨x, dx, u, w, e1, hx, g1, g2⟩ => ⟨x, C, dx, _, w, e1, hx, S.cl, S.nh, by rfl, q w H2 e2 g2⟩
theorem evs_var {i : Nat} {v : V} (hv : σ[i]? = some (some v)) (h : StrAt K C B a b H v) : EvP (StrAt K C B a b) (tVar i) σ H := evp_of (ev_var hv) str_mono h
def spInit (K : PySem.W.Frag) (C : Addr) : Sp := fun vs H Q _ => ∃ x dx u v a b, vs = [.ref x, u, v] ∧ H x = some (.ins C dx []) ∧ Gn K H u a LIM ∧ Gn K H v b LIM ∧ pord a b ≤ 0 ∧
  ∀ H', (∀ c o, H c = some o → c ≠ x → H' c = some o) → H' x = some (.ins C dx [("low", u), ("high", v)]) → Q .non H'
theorem evs_make {B1 B2 : Nat} (ha : EvN K ta σ H a B1) (hb : EvN K tb σ H b B2) (l1 : B1 ≤ B) (l2 : B2 ≤ B) (lB : B ≤ LIM) (hle : pord a b ≤ 0) : EvP (StrAt K C B a b) (tMake C (spInit K C) [] E0 (tCons ta (tCons tb tNil))) σ H := fun H1 e Q q =>
  ha H1 e _ fun u H2 e2 gu => hb H2 (e.trans e2) _ fun v H3 e3 gv => fun x dx hx hdx ne => by
    have en : Ex H3 (upd (upd H3 dx (.own x)) x (.ins C dx [])) := fun c o h => by
      rw [upd_ne (ne_of_none h hx), upd_ne (ne_of_none h hdx)]
      exact h
    refine ⟨x, dx, u, v, a, b, rfl, upd_same, ((gu.ex e3).ex en).mono (by omega), (gv.ex en).mono (by omega), hle, fun H' k h' => ⟨rfl, ?_⟩⟩
    have ef : Ex H3 H' := fun c o h => k c o (en c o h) (ne_of_none h hx)
    exact q (.ref x) H' ((e2.trans e3).trans ef) ⟨x, dx, u, v, rfl, h', ((gu.ex e3).ex ef).mono l1, (gv.ex ef).mono l2⟩
theorem o_call {sp : Sp} {dvs : List V} {E : XK} {t : TA} {Q : VK} (h : t σ H fun vs H1 => sp (vs ++ dvs) H1 Q E) : tCall sp dvs E t σ H Q := h
theorem o_itup {tl : TE} {R : It → Hp → Prop} (h : tl σ H fun x H1 => ∃ a, x = .ref a ∧ (∃ xs, SqT K H1 a xs) ∧ R (Itt K a) H1) : iTup K tl σ H R := h
theorem o_op {r : R2} {Q : VK} (h : ta σ H fun x H1 => tb σ H1 fun y H2 => r x y H2 Q) : tOp r ta tb σ H Q := h
theorem o_var {i : Nat} {v : V} {Q : VK} (hv : σ[i]? = some (some v)) (h : Q v H) : tVar i σ H Q := ⟨v, hv, h⟩
theorem o_cons {tr : TA} {Q : List V → Hp → Prop} (h : ta σ H fun x H1 => tr σ H1 fun xs H2 => Q (x :: xs) H2) : tCons ta tr σ H Q := h
/-! ### pairs of numbers -/
def PairAt (K : PySem.W.Frag) (B : Nat) (a b : Int × Int) (H : Hp) (v : V) : Prop := ∃ p x y, v = .ref p ∧ SqT K H p [x, y] ∧ Gn K H x a B ∧ Gn K H y b B
theorem pair_mono : Mono (PairAt K B a b) := fun _ _ _ e ⟨p, x, y, e1, h, g1, g2⟩ => ⟨p, x, y, e1, ex_t e h, g1.ex e, g2.ex e⟩
theorem evn_fst (h : EvP (PairAt K B a b) ta σ H) : EvN K (tOp (rIxT K) ta (tC (.int 0))) σ H a B := fun H1 e Q q =>
  h H1 e _ fun v H2 e2 ⟨p, x, y, e1, hp, g1, g2⟩ => ⟨p, [x, y], 0, x, e1, rfl, hp, rfl, q x H2 e2 g1⟩
theorem evn_snd (h : EvP (PairAt K B a b) ta σ H) : EvN K (tOp (rIxT K) ta (tC (.int 1))) σ H b B := fun H1 e Q q =>
  h H1 e _ fun v H2 e2 ⟨p, x, y, e1, hp, g1, g2⟩ => ⟨p, [x, y], 1, y, e1, rfl, hp, rfl, q y H2 e2 g2⟩
theorem evpair_var {i : Nat} {v : V} (hv : σ[i]? = some (some v)) (h : PairAt K B a b H v) : EvP (PairAt K B a b) (tVar i) σ H := evp_of (ev_var hv) pair_mono h
theorem evpair_mk {B1 B2 : Nat} (ha : EvN K ta σ H a B1) (hb : EvN K tb σ H b B2) (l1 : B1 ≤ B) (l2 : B2 ≤ B) : EvP (PairAt K B a b) (tTup (tCons ta (tCons tb tNil))) σ H := fun H1 e Q q =>
  ha H1 e _ fun u H2 e2 gu => hb H2 (e.trans e2) _ fun v H3 e3 gv => ⟨by show 2 ≤ sizeLine; decide, fun p hp => q (.ref p) _ ((e2.trans e3).trans (Ex.new hp)) ⟨p, u, v, rfl, st_of upd_same, (gu.ex (e3.trans (Ex.new hp))).mono l1, (gv.ex (Ex.new hp)).mono l2⟩⟩
theorem pair_dp2 {v : V} (h : PairAt K B a b H v) : Dp K H v (.tuple [pairD a, pairD b]) := by
  obtain ⟨p, x, y, rfl, hp, g1, g2⟩ := h
  exact .tup hp (.cons (numAt_dp g1.at_) (.cons (numAt_dp g2.at_) .nil))
theorem pair2_lay (a b : Int × Int) : PyData.canLay0 (.tuple [pairD a, pairD b]) = true := rfl
theorem pair2_shaped (a b : Int × Int) : SeqAt.shaped (.tuple [pairD a, pairD b]) = true := rfl
theorem evt_pairs {c d : Int × Int} {B2 : Nat} (h1 : EvP (PairAt K B a b) ta σ H) (h2 : EvP (PairAt K B2 c d) tb σ H) (e1 : a = c) (e2 : b = d) : EvT (tTest (tOp (rNeD K) ta tb)) σ H false := fun H1 e Q q =>
  h1 H1 e _ fun u H2 e3 gu => h2 H2 (e.trans e3) _ fun v H3 e4 gv => by
    subst e1 e2
    refine ⟨_, _, pair_dp2 (pair_mono _ _ _ e4 gu), pair_dp2 gv, pair2_shaped _ _, pair2_shaped _ _, false, ?_, q H3 (e3.trans e4)⟩
    rw [SeqAt.eqv_refl _ (pair2_lay a b)]
    rfl
theorem ev_pairs {c d : Int × Int} {B2 : Nat} (h1 : EvP (PairAt K B a b) ta σ H) (h2 : EvP (PairAt K B2 c d) tb σ H) (e1 : a = c) (e2 : b = d) : Ev (tOp (rEqD K) ta tb) σ H (.bl true) := fun H1 e Q q =>
  h1 H1 e _ fun u H2 e3 gu => h2 H2 (e.trans e3) _ fun v H3 e4 gv => by
    subst e1 e2
    refine ⟨_, _, pair_dp2 (pair_mono _ _ _ e4 gu), pair_dp2 gv, pair2_shaped _ _, pair2_shaped _ _, ?_⟩
    rw [SeqAt.eqv_refl _ (pair2_lay a b)]
    exact q H3 (e3.trans e4)
/-! ### comprehensions: the i-th item of P i -/
def EvLI (P : Nat → Hp → V → Prop) (te : TE) (σ : L2.St) (H : Hp) (n : Nat) : Prop := ∀ H1, Ex H H1 → ∀ Q : VK, (∀ p vs H2, Ex H1 H2 → H1 p = none → H2 p = some (.lst vs) → vs.length = n → (∀ i v, vs[i]? = some v → P i H2 v) → Q (.ref p) H2) → te σ H1 Q
theorem app_at {P : Nat → Hp → V → Prop} {vs : List V} {y : V} (m : ∀ i, Mono (P i)) (e : Ex H H') (h : ∀ i v, vs[i]? = some v → P i H v) (hy : P vs.length H' y) : ∀ i v, (vs ++ [y])[i]? = some v → P i H' v := fun i v hv => by
  by_cases l : i < vs.length
  · rw [List.getElem?_append_left l] at hv
    exact m i _ _ _ e (h i v hv)
  · rw [List.getElem?_append_right (by omega)] at hv
    have e0 : i - vs.length = 0 := by
      rcases Nat.eq_zero_or_pos (i - vs.length) with z | z
      · exact z
      · rw [List.getElem?_eq_none (by simp; omega)] at hv
        cases hv
    rw [e0] at hv
    have e1 : i = vs.length := by omega
    subst e1
    cases (show y = v from Option.some.inj hv)
    exact hy
/-- what an item of the list under way keeps while the list itself grows -/
def Keep1 (P : Nat → Hp → V → Prop) : Prop := ∀ i p ys H H' v, P i H v → H p = some (.lst ys) → Keeps p H H' → P i H' v
theorem app_keep {P : Nat → Hp → V → Prop} {vs : List V} {y : V} {D : Addr} (k1 : Keep1 P) (hD : H D = some (.lst vs)) (h : ∀ i v, vs[i]? = some v → P i H v) (hy : P vs.length H y) : ∀ i v, (vs ++ [y])[i]? = some v → P i (upd H D (.lst (vs ++ [y]))) v := fun i v hv => by
  by_cases l : i < vs.length
  · rw [List.getElem?_append_left l] at hv
    exact k1 i D _ _ _ v (h i v hv) hD keeps_upd
  · rw [List.getElem?_append_right (by omega)] at hv
    have e0 : i - vs.length = 0 := by
      rcases Nat.eq_zero_or_pos (i - vs.length) with z | z
      · exact z
      · rw [List.getElem?_eq_none (by simp; omega)] at hv
        cases hv
    rw [e0] at hv
    have e1 : i = vs.length := by omega
    subst e1
    cases (show y = v from Option.some.inj hv)
    exact k1 _ D _ _ _ _ hy hD keeps_upd
/-- over a tuple | a list whose i-th item is of S i -/
theorem eli_lcT {S P : Nat → Hp → V → Prop} {n : Nat} {vs : List Nat} {g : TG} {tl : TE} (mS : ∀ i, Mono (S i)) (mP : ∀ i, Mono (P i)) (kP : Keep1 P) (hn : n ≤ 50000)
    (h : EvP (fun H v => ∃ p xs, v = .ref p ∧ SqT K H p xs ∧ xs.length = n ∧ ∀ i x, xs[i]? = some x → S i H x) tl σ H)
    (ht : ∀ i x H1, Ex H H1 → S i H1 x → ∃ σ2, (∀ Q : L2.St → Hp → Prop, Q σ2 H1 → g x (wipe σ vs) H1 Q) ∧ wipe σ2 vs = wipe σ vs ∧ EvP (P i) te σ2 H1) : EvLI P (tLc (iTup K tl) g tYes te vs) σ H n := fun H1 e Q q =>
  h H1 e _ fun v H2 e2 ⟨p, xs, e1, hp, hl, hS⟩ => ⟨p, e1, ⟨_, hp⟩, fun D hD => lc_tup (xs := xs) (fun k H' => Ex H2 H' ∧ ∃ ys, H' D = some (.lst ys) ∧ ys.length = k ∧ ∀ i y, ys[i]? = some y → P i H' y) ⟨Ex.new hD, [], upd_same, rfl, fun i y hy => by simp at hy⟩ (fun k H' _ hk => ex_t hk.1 hp)
    (fun k x H' hx hk => by
      obtain ⟨ex, ys, hys, hlen, hall⟩ := hk
      obtain ⟨σ2, hg, hw, he⟩ := ht k x H' ((e.trans e2).trans ex) (mS k _ _ _ ex (hS k x hx))
      refine hg _ ⟨hw, o_yes (iteT ?_)⟩
      refine he H' (Ex.refl H') _ fun y H3 e3 py => ⟨ys, e3 _ _ hys, ?_, (ex.trans e3).mut hD, ys ++ [y], upd_same, ?_, ?_⟩
      · have := (List.getElem?_eq_some_iff.mp hx).1
        exact sz_lt (by omega)
      · rw [List.length_append, hlen]
        rfl
      · subst hlen
        exact app_keep kP (e3 _ _ hys) (fun i z hz => mP i _ _ _ e3 (hall i z hz)) py)
    (fun H' hk => by
      obtain ⟨ex, ys, hys, hlen, hall⟩ := hk
      exact q D ys H' (e2.trans ex) (fresh_back e2 hD) hys (hlen.trans hl) hall)⟩
theorem eli_lcL {S P : Nat → Hp → V → Prop} {n : Nat} {vs : List Nat} {g : TG} {tl : TE} (mS : ∀ i, Mono (S i)) (mP : ∀ i, Mono (P i)) (kP : Keep1 P) (hn : n ≤ 50000)
    (h : EvP (fun H v => ∃ p xs, v = .ref p ∧ SqL K H p xs ∧ xs.length = n ∧ ∀ i x, xs[i]? = some x → S i H x) tl σ H)
    (ht : ∀ i x H1, Ex H H1 → S i H1 x → ∃ σ2, (∀ Q : L2.St → Hp → Prop, Q σ2 H1 → g x (wipe σ vs) H1 Q) ∧ wipe σ2 vs = wipe σ vs ∧ EvP (P i) te σ2 H1) : EvLI P (tLc (iList K tl) g tYes te vs) σ H n := fun H1 e Q q =>
  h H1 e _ fun v H2 e2 ⟨p, xs, e1, hp, hl, hS⟩ => ⟨p, e1, ⟨_, hp⟩, fun D hD => lc_list (xs := xs) (fun k H' => Ex H2 H' ∧ ∃ ys, H' D = some (.lst ys) ∧ ys.length = k ∧ ∀ i y, ys[i]? = some y → P i H' y) ⟨Ex.new hD, [], upd_same, rfl, fun i y hy => by simp at hy⟩ (fun k H' _ hk => ex_l hk.1 hp)
    (fun k x H' hx hk => by
      obtain ⟨ex, ys, hys, hlen, hall⟩ := hk
      obtain ⟨σ2, hg, hw, he⟩ := ht k x H' ((e.trans e2).trans ex) (mS k _ _ _ ex (hS k x hx))
      refine hg _ ⟨hw, o_yes (iteT ?_)⟩
      refine he H' (Ex.refl H') _ fun y H3 e3 py => ⟨ys, e3 _ _ hys, ?_, (ex.trans e3).mut hD, ys ++ [y], upd_same, ?_, ?_⟩
      · have := (List.getElem?_eq_some_iff.mp hx).1
        exact sz_lt (by omega)
      · rw [List.length_append, hlen]
        rfl
      · subst hlen
        exact app_keep kP (e3 _ _ hys) (fun i z hz => mP i _ _ _ e3 (hall i z hz)) py)
    (fun H' hk => by
      obtain ⟨ex, ys, hys, hlen, hall⟩ := hk
      exact q D ys H' (e2.trans ex) (fresh_back e2 hD) hys (hlen.trans hl) hall)⟩
/-- the i-th is the i-th number -/
def NthN (K : PySem.W.Frag) (B : Nat) (ns : List (Int × Int)) (i : Nat) (H : Hp) (v : V) : Prop := ∃ n, ns[i]? = some n ∧ Gn K H v n B
theorem nth_mono {ns : List (Int × Int)} : ∀ i, Mono (NthN K B ns i) := fun _ _ _ _ e ⟨n, h, g⟩ => ⟨n, h, g.ex e⟩
theorem nth_keep {ns : List (Int × Int)} : Keep1 (NthN K B ns) := fun _ _ _ _ _ _ ⟨n, h, g⟩ hp k => ⟨n, h, gn_keep g hp k⟩
theorem nth_gnL : ∀ {vs : List V} {ns : List (Int × Int)}, vs.length = ns.length → (∀ i v, vs[i]? = some v → NthN K B ns i H v) → GnL K H B vs ns
  | [], [], _, _ => trivial
  | v :: vs, n :: ns, hl, h => by
    obtain ⟨m, hm, g⟩ := h 0 v rfl
    have e : n = m := Option.some.inj hm
    subst e
    exact ⟨g, nth_gnL (Nat.succ.inj hl) fun i x hx => h (i + 1) x hx⟩
theorem gnL_nth : ∀ {vs : List V} {ns : List (Int × Int)}, GnL K H B vs ns → ∀ i v, vs[i]? = some v → NthN K B ns i H v
  | [], [], _, i, v, h => by simp at h
  | x :: _, n :: _, g, 0, v, h => by
    have e : x = v := Option.some.inj h
    subst e
    exact ⟨n, rfl, g.1⟩
  | _ :: _, _ :: _, g, i + 1, v, h => gnL_nth g.2 i v h
end
section
variable {K : PySem.W.Frag}
theorem kb_pos {x qual : Str} {params : Arguments} {body : List Stmt} {scope : Scope} {kws : List (Str × V)} {f : Addr} {fd : FuncData} {ps : List Str} (F : FunD K x qual params body scope [] kws f fd) (n : Nat) (ks : List Str)
    (h : ∀ (kV doc pm : Value) (an : Option Addr) (cdv ct : Value) (us ws : List Value), us.length = n → ws.length = ks.length → bindArgs (PySem.W.fnOf x qual params body scope .none kV doc pm an cdv ct) ⟨us, ks.zip ws⟩ = pure (ps.zip (us ++ ws))) : KBn K fd ps n ks (fun us ws => us ++ ws) (fun vs zs => vs ++ zs) := by
  obtain ⟨oc, od, dV, kV, doc, pm, an, cdv, ct, osl, rfl, lk, hcd, hD, hK⟩ := F.ex
  rcases hD with ⟨_, rfl⟩ | ⟨e, _⟩
  · exact ⟨fun s us ws X l1 l2 => .of_eq (h kV doc pm an cdv ct us ws l1 l2), fun r1 r2 => r1.append r2⟩
  · exact absurd rfl e
end
end Onc

namespace Onc
open PySem PySem.Spec PyProof.Rows HotX
/-! ### the end of an iterator, while an exception is handled -/
section
variable {prog : Program} {w : World} {A : Around} {E : Value → Shared → Prop} {s : Shared}
/-- a new StopIteration is raised -/
theorem stop_hot {α : Type} {x1 : Addr} {Q : α → Shared → Prop} (hot : HotAt A x1 s.heap)
    (hE : ∀ h' e, (∀ b o, s.heap.get? b = some o → h'.get? b = some o) → (∃ o, h'.get? e = some o ∧ o.cls = .type "StopIteration") → E (.ref e) { s with heap := h' }) : wpAny (model prog w) A (newExc (.type "StopIteration") [] >>= fun v => (raiseNew v : Sem α)) Q E s := by
  obtain ⟨hh, o1, vs1, h1, d1, c1⟩ := hot
  refine wpAny_bind ?_
  simp only [newExc, newTuple]
  refine wpAny_bind (wpAny_newObj_type (wpAny_bind (m := firstArgMember _ _) (wpAny_of_eq (a := Value.none) (by first | rfl | (simp only [firstArgMember]; rfl)) (wpAny_newObj_type ?_ (by size_fits)))) (by size_fits))
  have old : ∀ {b : Addr} {o : Obj} {u v : Obj}, s.heap.get? b = some o → ((s.heap.push u).push v).get? b = some o := fun z => Heap.get?_push_of_some _ (Heap.get?_push_of_some _ z)
  have lt : ∀ {b : Addr} {o u : Obj}, s.heap.get? b = some o → b < (s.heap.push u).objs.size := fun z => Heap.lt_size (Heap.get?_push_of_some _ z)
  refine raiseNew_hot ⟨hh, o1, vs1, old h1, d1, c1⟩ (Nat.ne_of_lt (lt h1)) (Heap.get?_push_size _ rfl) rfl (by first | (simp; done) | (simp; omega) | (simp only [Array.size_append]; simp; omega)) (hE _ _ (fun b o z => ?_) ⟨_, Heap.get?_update_self _ (Heap.get?_push_size _ rfl) rfl, rfl⟩)
  show (((s.heap.push _).push _).update _ _).get? b = some o
  rw [Heap.get?_update_other _ _ (Nat.ne_of_gt (lt z))]
  exact old z
/-- the end of a tuple's iterator -/
theorem tup_end_hot {it t x1 : Addr} {i : Nat} {items : Array Value} {Q : Option Value → Shared → Prop} (hot : HotAt A x1 s.heap) (ne : x1 ≠ it) (hit : IsTupIter s.heap it t i) (ht : IsTup s.heap t items) (hx : items[i]? = none)
    (hQ : ∀ h', Heap.ExtBut it s.heap h' → Q none { s with heap := h' }) : wpAny (model prog w) A (pyNext (.ref it)) Q E s := by
  obtain ⟨o, ho, hc, hd⟩ := id hit
  obtain ⟨ol, hol, _, nl, hdl⟩ := ht
  unfold pyNext
  refine wpAny_bind (wpAny_attempt (wpAny_callSpecial?_slot (name := Str.ofString "__next__") hit.typeIs slot_tupleiter_next (wpAny_call_entry slot_tupleiter_next hit.typeIs entry_tupleiter_next ?_ (args_tupleiter_next _))))
  show wpAny _ _ (field (.ref it) 0 >>= _) _ _ s
  refine wpAny_bind (wpAny_field ho hd (x := .ref t) rfl (PySem.W.KFB.if_not (by rfl) ?_))
  show wpAny _ _ (field (.ref it) 1 >>= _) _ _ s
  refine wpAny_bind (wpAny_field ho hd (x := .int i 0) rfl ?_)
  show wpAny _ _ (seqItems? (.ref t) >>= _) _ _ s
  refine wpAny_bind (wpAny_seqItems hol hdl ?_)
  simp only [Int.toNat_natCast, hx]
  refine wpAny_bind (wpAny_rule (wpAny_bind (wpAny_setField ho hd (by simp) ?_)))
  obtain ⟨hh, o1, vs1, h1, d1, c1⟩ := hot
  refine stop_hot (x1 := x1) ⟨hh, o1, vs1, (Heap.SameBut.update ..).extBut _ _ ne h1, d1, c1⟩ fun h' e k ⟨oe, he, hce⟩ => ?_
  refine wpAny_bind (wpAny_isInstance (T := "StopIteration") (b := true) (s := { s with heap := h' }) ⟨oe, he, hce⟩ isSubtype_stop (wpAny_pure (hQ h' fun b o hb z => k b o ((Heap.SameBut.update ..).extBut _ _ hb z))))
/-- the end of a list's iterator, asked by zip -/
theorem list_end_hot {it l x1 : Addr} {i : Nat} {items : Array Value} {Q : Value → Shared → Prop} (hot : HotAt A x1 s.heap) (ne : x1 ≠ it) (hit : s.heap.IsListIter it l i) (hl : s.heap.IsList l items) (hx : items[i]? = none)
    (hE : ∀ h' e, Heap.ExtBut it s.heap h' → (∃ o, h'.get? e = some o ∧ o.cls = .type "StopIteration") → E (.ref e) { s with heap := h' }) : wpAny (model prog w) A (Builtin.SmallTypes.nextOf (.ref it)) Q E s := by
  obtain ⟨o, ho, hc, hd⟩ := id hit
  obtain ⟨ol, hol, _, nl, hdl⟩ := hl
  unfold Builtin.SmallTypes.nextOf
  refine wpAny_bind (wpAny_callSpecial?_slot (name := Str.ofString "__next__") hit.typeIs slot_listiter_next (wpAny_call_entry slot_listiter_next hit.typeIs entry_listiter_next ?_ (args_listiter_next _)))
  show wpAny _ _ (field (.ref it) 0 >>= _) _ _ s
  refine wpAny_bind (wpAny_field ho hd (x := .ref l) rfl (PySem.W.KFB.if_not (by rfl) ?_))
  show wpAny _ _ (field (.ref it) 1 >>= _) _ _ s
  refine wpAny_bind (wpAny_field ho hd (x := .int i 0) rfl ?_)
  show wpAny _ _ (seqItems? (.ref l) >>= _) _ _ s
  refine wpAny_bind (wpAny_seqItems hol hdl ?_)
  simp only [Int.toNat_natCast, hx]
  refine wpAny_bind (wpAny_rule (wpAny_bind (wpAny_setField ho hd (by simp) ?_)))
  obtain ⟨hh, o1, vs1, h1, d1, c1⟩ := hot
  exact stop_hot (x1 := x1) ⟨hh, o1, vs1, (Heap.SameBut.update ..).extBut _ _ ne h1, d1, c1⟩ fun h' e k he => hE h' e (fun b o hb z => k b o ((Heap.SameBut.update ..).extBut _ _ hb z)) he
/-- a tuple is taken apart -/
theorem unpack_hot {env : Env} {elts : List Expr} {n1} {pos : Pos} {t x1 : Addr} {items : Array Value} {Q : Unit → Shared → Prop} (hot : HotAt A x1 s.heap) (ht : IsTup s.heap t items) (hn : (assignEach elts env).length = items.size) (hstar : (assignEach elts env).findIdx? (·.1) = none)
    (h : ∀ h', Heap.ExtBut s.heap.objs.size s.heap h' → wpAny (model prog w) A (assignInOrder ((assignEach elts env).map (·.2)) items.toList) Q E { s with heap := h' }) : wpAny (model prog w) A (assign (.Tuple elts n1 pos) env (.ref t)) Q E s := by
  obtain ⟨hh, o1, vs1, g1, d1, c1⟩ := hot
  have tlt : t ≠ s.heap.objs.size := by
    obtain ⟨o, ho, _⟩ := ht
    exact Nat.ne_of_lt (Heap.lt_size ho)
  rw [assign_Tuple]
  refine wpAny_bind (wpAny_standAt ?_)
  unfold unpack
  rw [hn, hstar]
  refine wpAny_bind (wpAny_holding ?_)
  unfold unpackItems
  refine wpAny_bind ?_
  unfold notIterableAtAll
  refine wpAny_bind (wpAny_specialOf ht.typeIs slot_tuple_iter.lookup (wpAny_pure ?_))
  simp only [Bool.false_eq_true, if_false]
  refine wpAny_bind (wpAny_holding (iter_tuple ht (wpAny_bind (wpAny_holding (draw_tuple tlt items.size 0 _ _ ⟨_, Heap.get?_push_size _ rfl, rfl, rfl⟩ (ht.push _) (by omega) fun h₁ hit₁ hs₁ => ?_)))))
  have all : List.take items.size (List.drop 0 items.toList) = items.toList := by
    rw [List.drop_zero]
    exact List.take_of_length_le (by simp)
  rw [all, if_neg (by simp)]
  have x1s : x1 ≠ s.heap.objs.size := Nat.ne_of_lt (Heap.lt_size g1)
  refine wpAny_bind (wpAny_holding (tup_end_hot (x1 := x1) ⟨hh, o1, vs1, hs₁.extBut _ _ x1s (Heap.get?_push_of_some _ g1), d1, c1⟩ x1s hit₁ ((ht.push _).extBut hs₁.extBut tlt) (by simp) fun h₂ he₂ => ?_))
  simp only [Option.isSome_none, Bool.false_eq_true, if_false]
  exact wpAny_pure (h h₂ fun b o hb z => he₂ b o hb (hs₁.extBut b o hb (Heap.get?_push_of_some _ z)))
/-- the end of a zip of two lists -/
theorem zip_end_hot {z TI TO i1 i2 l1 l2 x1 : Addr} {k1 k2 : Nat} {xs ys : Array Value} {a b : Value} {Q : Option Value → Shared → Prop} (hot : HotAt A x1 s.heap) (nz : x1 ≠ z) (nO : x1 ≠ TO) (n1 : x1 ≠ i1) (n2 : x1 ≠ i2) (D : ZipApart z TI TO i1 i2 l1 l2)
    (hz : IsZip s.heap z TI TO .none) (hTI : IsPair s.heap TI (.ref i1) (.ref i2)) (hTO : IsPair s.heap TO a b) (h1 : s.heap.IsListIter i1 l1 k1) (h2 : s.heap.IsListIter i2 l2 k2) (hl1 : s.heap.IsList l1 xs) (hl2 : s.heap.IsList l2 ys) (hend : xs[k1]? = none ∨ ys[k2]? = none)
    (hQ : ∀ h', (∀ c o, c ≠ z → c ≠ TO → c ≠ i1 → c ≠ i2 → s.heap.get? c = some o → h'.get? c = some o) → Q none { s with heap := h' }) : wpAny (model prog w) A (pyNext (.ref z)) Q E s := by
  have ty : s.TypeIs (.ref z) "zip" := ⟨_, hz, rfl⟩
  obtain ⟨hh, o1, vs1, g1, d1, c1⟩ := hot
  unfold pyNext
  refine wpAny_bind (wpAny_attempt (wpAny_callSpecial?_slot (name := Str.ofString "__next__") ty F.slot_zip_next (wpAny_call_entry F.slot_zip_next ty F.entry_zip_next ?_ (F.args_zip_next_1 _))))
  have fin : ∀ h' e, (∀ c o, c ≠ z → c ≠ TO → c ≠ i1 → c ≠ i2 → s.heap.get? c = some o → h'.get? c = some o) → (∃ o, h'.get? e = some o ∧ o.cls = .type "StopIteration") → wpAny (model prog w) A (isInstance (.ref e) (.type "StopIteration") >>= fun y => if y = true then pure none else throw (.ref e)) Q E { s with heap := h' } := fun h' e hk ⟨o, ho, hc⟩ =>
    wpAny_bind (wpAny_isInstance (T := "StopIteration") (b := true) (s := { s with heap := h' }) ⟨o, ho, hc⟩ isSubtype_stop (wpAny_pure (hQ h' hk)))
  show wpAny _ _ (field (.ref z) 2 >>= _) _ _ _
  refine wpAny_bind (wpAny_field hz rfl (x := .bool false) rfl ?_)
  show wpAny _ _ (field (.ref z) 3 >>= _) _ _ _
  refine wpAny_bind (wpAny_field hz rfl (x := .ref TI) rfl (wpAny_bind (wpAny_seqItems hTI rfl ?_)))
  show wpAny _ _ (Builtin.SmallTypes.ownedTupleIsFree (.ref z) >>= _) _ _ _
  refine wpAny_bind ?_
  unfold Builtin.SmallTypes.ownedTupleIsFree
  refine wpAny_bind (wpAny_field hz rfl (x := .none) rfl (wpAny_pure ?_))
  simp only [if_true]
  refine wpAny_bind (wpAny_rule (wpAny_bind (wpAny_field hz rfl (x := .ref TO) rfl (wpAny_bind (wpAny_setField_rec hz (by simp) fun ha za sa => ?_)))))
  replace za : IsZip ha z TI TO .ellipsis := za
  have ga : ha.get? x1 = some o1 := sa.extBut _ _ nz g1
  refine wpAny_bind ?_
  simp only [List.zipIdx_cons, List.zipIdx_nil, List.forIn_cons, List.forIn_nil]
  refine wpAny_bind (wpAny_bind (wpAny_onRaise ?_))
  show wpAny _ _ (Builtin.SmallTypes.nextOf (.ref i1) >>= _) _ _ _
  cases hx : xs[k1]? with
  | none =>
    refine wpAny_bind (list_end_hot (x1 := x1) ⟨hh, o1, vs1, ga, d1, c1⟩ n1 (h1.extBut sa.extBut D.i1z) (hl1.extBut sa.extBut D.l1z) hx fun hb e sb ⟨oe, ge, ce⟩ => ?_)
    have zb : IsZip hb z TI TO .ellipsis := sb _ _ D.i1z.symm za
    have ez : e ≠ z := fun y => by
      subst y
      rw [zb] at ge
      cases ge
      simp at ce
    exact wpAny_setField_rec zb (by simp) fun hc _ sc => fin hc e (fun c o q1 _ q3 _ y => sc.extBut _ _ q1 (sb _ _ q3 (sa.extBut _ _ q1 y))) ⟨oe, sc.extBut _ _ ez ge, ce⟩
  | some x =>
    have hy : ys[k2]? = none := by
      rcases hend with y | y
      · rw [hx] at y
        cases y
      · exact y
    refine wpAny_bind (wpAny_nextOf_list_item (h1.extBut sa.extBut D.i1z) (hl1.extBut sa.extBut D.l1z) hx fun hb ib sb => wpAny_pure ?_)
    have Ob : IsPair hb TO a b := sb.extBut _ _ D.TOi1 (sa.extBut _ _ D.TOz hTO)
    refine wpAny_bind (wpAny_seqItems Ob rfl (wpAny_bind (wpAny_updateSeq_pair Ob fun hc Oc sc => wpAny_bind (wpAny_letGo (wpAny_pure (wpAny_bind (wpAny_bind (wpAny_onRaise ?_))))))))
    show wpAny _ _ (Builtin.SmallTypes.nextOf (.ref i2) >>= _) _ _ _
    have gc : hc.get? x1 = some o1 := sc.extBut _ _ nO (sb.extBut _ _ n1 ga)
    refine wpAny_bind (list_end_hot (x1 := x1) ⟨hh, o1, vs1, gc, d1, c1⟩ n2 (((h2.extBut sa.extBut D.i2z).extBut sb.extBut D.i12.symm).extBut sc.extBut D.TOi2.symm) (((hl2.extBut sa.extBut D.l2z).extBut sb.extBut D.l2i1).extBut sc.extBut D.l2TO) hy fun hd e sd ⟨oe, ge, ce⟩ => ?_)
    have zd : IsZip hd z TI TO .ellipsis := sd _ _ D.i2z.symm (sc.extBut _ _ D.TOz.symm (sb.extBut _ _ D.i1z.symm za))
    have ez : e ≠ z := fun y => by
      subst y
      rw [zd] at ge
      cases ge
      simp at ce
    exact wpAny_setField_rec zd (by simp) fun hf _ sf => fin hf e (fun c o q1 q2 q3 q4 y => sf.extBut _ _ q1 (sd _ _ q4 (sc.extBut _ _ q2 (sb.extBut _ _ q3 (sa.extBut _ _ q1 y))))) ⟨oe, sf.extBut _ _ ez ge, ce⟩
end
open L2 L2H
/-! ### contexts in which an exception is handled -/
def HotI (X : Cx) (x1 : Addr) : Prop := ∀ (pins : List (Addr × Obj)) (σ : L2.St) (H : Hp) (s : Shared), Inv X pins σ H s → HotAt X.A x1 s.heap
section
variable {X : Cx}
theorem hotI_of {p : Addr × Obj} (h1 : Hot1 X.A p) (hp : p ∈ X.pn) : HotI X p.1 := fun pins σ H s I => by
  obtain ⟨hh, v1, e1, c1⟩ := h1
  exact ⟨hh, p.2, v1, (I.pin p (List.mem_append_left _ hp)).1, e1, c1⟩
theorem hotI_blk {p : Addr × Obj} {s : Shared} {H : Hp} {scope : Scope} {ce : Env} {fp : List Addr} (h1 : Hot1 X.A p) (hg : s.heap.get? p.1 = some p.2) (hf : H p.1 = none) (nf : p.1 ∉ frs X.stack) (nx : p.1 ∉ fp) : HotI (X.blk s H scope ce fp) p.1 := fun pins σ' H' s' I => by
  obtain ⟨hh, v1, e1, c1⟩ := h1
  exact ⟨hh, p.2, v1, I.base.keep p.1 p.2 hg hf nf nx, e1, c1⟩
/-- (a, b, ..) = a tuple -/
theorem pg_tupQ {es : List Expr} {k n : Nat} {t : TGs} {pos : Pos} {x1 : Addr} (hc : HotI X x1) (h : PGs X es t) (hn : (assignEach es X.env).length = n := by rfl) (hst : (assignEach es X.env).findIdx? (·.1) = none := by rfl) : PG X (.Tuple es k pos) (gTup X.K n t) := by
  refine ⟨fun pins s σ H v u Q I r ⟨a, xs, e1, hq, hl, hw⟩ => ?_⟩
  subst e1
  cases r
  obtain ⟨its, rv, ht, hz⟩ := I.tuple hq
  exact unpack_hot (hc pins σ H s I) ht (by simp [hn, ← hl, rv.length]) hst fun h' hx => h.run pins _ σ H xs _ Q (I.kept (t' := s.toks) fun b o e => hx b o (Nat.ne_of_lt (Heap.lt_size e)) e) (by simpa using rv) hw
end
structure TurnQ (P : Program) (w : World) (K : PySem.W.Frag) (tg : Expr) (J : It) (fp : List Addr) (it : Addr) (tn : Nat → Heap → Prop) : Prop where
  t : Turn P w K tg J fp it tn
  item : ∀ (X : Cx), X.prog = P → X.w = w → X.K = K → ∀ (i : Nat) (pins : List (Addr × Obj)) (s : Shared) (σ : L2.St) (H : Hp) (E : Value → Shared → Prop), Inv X pins σ H s → (∀ b ∈ fp, FpOk X pins H b) → tn i s.heap → J.go i H →
    wpAny (model P w) X.A (pyNext (.ref it)) (fun r s1 => ∃ u, r = some u ∧ wpAny (model P w) X.A (letOwnedTupleGo tg (.ref it) u) (fun _ s2 => ∃ x H', Inv X pins σ H' s2 ∧ RelV x u ∧ J.yld i H x H' ∧ tn (i + 1) s2.heap ∧ ∀ b ∈ fp, H' b = none) E s1) E s
  done : ∀ (X : Cx), X.prog = P → X.w = w → X.K = K → ∀ (x1 : Addr) (i : Nat) (pins : List (Addr × Obj)) (s : Shared) (σ : L2.St) (H : Hp) (E : Value → Shared → Prop), HotAt X.A x1 s.heap → x1 ∉ fp → Inv X pins σ H s → (∀ b ∈ fp, FpOk X pins H b) → tn i s.heap → J.stop i H →
    wpAny (model P w) X.A (pyNext (.ref it)) (fun r s1 => r = none ∧ Inv X pins σ H s1) E s
theorem turnq_zip {P : Program} {w : World} {K : PySem.W.Frag} {elts : List Expr} {kk : Nat} {tpos : Pos} {a b z TI TO i1 i2 : Addr} (D : ZipApart z TI TO i1 i2 a b) :
    TurnQ P w K (.Tuple elts kk tpos) (Itz K a b) [z, TI, TO, i1, i2] z (fun i h => IsZip h z TI TO .none ∧ IsPair h TI (.ref i1) (.ref i2) ∧ (∃ x y, IsPair h TO x y) ∧ h.IsListIter i1 a i ∧ h.IsListIter i2 b i) where
  t := turn_zip D
  item := by
    intro X hP hw hK i pins s σ H E I hf st hg
    subst hP hw hK
    obtain ⟨hz, hTI, ⟨x0, y0, hTO⟩, h1, h2⟩ := st
    obtain ⟨xs, ys, x, y, lx, ly, hx, hy⟩ := hg
    obtain ⟨us, ru, pu, _⟩ := I.list lx
    obtain ⟨vs, rv, pv, _⟩ := I.list ly
    obtain ⟨u, hu, xu⟩ := ru.get hx
    obtain ⟨v, hv, yv⟩ := rv.get hy
    have zl : z < s.heap.objs.size := Heap.lt_size hz
    have lts : ∀ c ∈ [z, TI, TO, i1, i2], c < s.heap.objs.size := fun c hc => by
      obtain ⟨o, ho, _⟩ := (turn_zip (P := X.prog) (w := X.w) (K := X.K) (elts := elts) (kk := kk) (tpos := tpos) D).obj i s.heap ⟨hz, hTI, ⟨x0, y0, hTO⟩, h1, h2⟩ c hc
      exact Heap.lt_size ho
    refine wpAny_pyNext_zip_item D hz hTI hTO h1 h2 pu.isList pv.isList (x := u) (y := v) (by simpa using hu) (by simpa using hv) fun ha za Oa ia ja Ta _ ka => ⟨_, rfl, wpAny_letOwnedTupleGo_zip (s := { s with heap := ha }) za fun hb zb sb => ?_⟩
    have Tb : hb.get? s.heap.objs.size = some { cls := .type "tuple", data := .seq #[u, v] } := (sb.2 _ (Nat.ne_of_gt zl)).trans Ta
    have kp : ∀ c o, c ∉ [z, TI, TO, i1, i2] → s.heap.get? c = some o → hb.get? c = some o := fun c o nc q => by
      simp only [List.mem_cons, List.not_mem_nil, or_false, not_or] at nc
      exact (sb.2 c nc.1).trans (ka c o nc.1 nc.2.2.1 nc.2.2.2.1 nc.2.2.2.2 q)
    have nob : ObjOk X.prog X.w (upd H s.heap.objs.size (.tup [x, y])) hb s.heap.objs.size (.tup [x, y]) := ⟨by show 2 ≤ sizeLine; decide, [u, v], .cons xu (.cons yv .nil), ⟨_, Tb, rfl, _, rfl⟩⟩
    refine ⟨.ref s.heap.objs.size, _, I.turnedNew (h' := hb) (t' := s.toks) kp hf (Nat.le_refl _) nob, rfl, ⟨_, x, y, rfl, I.hok.fresh (Nat.le_refl _), rfl, (fun l hl => by rw [I.list_inj hl lx]; exact hx), fun l hl => by rw [I.list_inj hl ly]; exact hy⟩, ⟨zb, (sb.2 _ D.TIz).trans (ka _ _ D.TIz D.TITO D.TIi1 D.TIi2 hTI), ⟨u, v, (sb.2 _ D.TOz).trans Oa⟩, ia.at fun o q => (sb.2 _ D.i1z).trans q, ja.at fun o q => (sb.2 _ D.i2z).trans q⟩, fun c hc => ?_⟩
    rw [upd_ne (Nat.ne_of_lt (lts c hc))]
    exact (hf c hc).1
  done := by
    intro X hP hw hK x1 i pins s σ H E hot nx I hf st hg
    subst hP hw hK
    obtain ⟨hz, hTI, ⟨x0, y0, hTO⟩, h1, h2⟩ := st
    obtain ⟨xs, ys, lx, ly, hend⟩ := hg
    obtain ⟨us, ru, pu, _⟩ := I.list lx
    obtain ⟨vs, rv, pv, _⟩ := I.list ly
    have n1 := ru.length
    have n2 := rv.length
    have he : us.toArray[i]? = none ∨ vs.toArray[i]? = none := hend.imp (fun q => by simp; omega) (fun q => by simp; omega)
    simp only [List.mem_cons, List.not_mem_nil, or_false, not_or] at nx
    refine zip_end_hot hot nx.1 nx.2.2.1 nx.2.2.2.1 nx.2.2.2.2 D hz hTI hTO h1 h2 pu.isList pv.isList he fun h' hk => ⟨rfl, I.turnedL (t' := s.toks) (ch := [z, TI, TO, i1, i2]) (fun c o nc q => ?_) hf⟩
    simp only [List.mem_cons, List.not_mem_nil, or_false, not_or] at nc
    exact hk c o nc.1 nc.2.2.1 nc.2.2.2.1 nc.2.2.2.2 q
def PIEQ (X : Cx) (pins : List (Addr × Obj)) (σ : L2.St) (tg : Expr) (R : It → Hp → Prop) (itv : Value) (s2 : Shared) : Prop :=
  ∃ (it : Addr) (fp : List Addr) (tn : Nat → Heap → Prop) (J : It) (H' : Hp), itv = .ref it ∧ Inv X pins σ H' s2 ∧ TurnQ X.prog X.w X.K tg J fp it tn ∧ tn 0 s2.heap ∧ (∀ b ∈ fp, FpOk X pins H' b) ∧ R J H'
def PIQ (X : Cx) (tg iter : Expr) (wi : TI) : Prop := ∀ (pins : List (Addr × Obj)) (s : Shared) (σ : L2.St) (H : Hp) (R : It → Hp → Prop), Inv X pins σ H s → wi σ H R →
  wpAny (model X.prog X.w) X.A (eval iter X.env) (fun v s1 => wpAny (model X.prog X.w) X.A (pyIter v) (PIEQ X pins σ tg R) X.xe s1) X.xe s
theorem piq_zip {X : Cx} {e e2 : Expr} {ta : TA} {p pos tpos : Pos} {elts : List Expr} {kk : Nat} (hg : Gl X "zip") (hm : X.mg "zip" = none) (ha : PA X [e, e2] ta) (hs : starEach [e, e2] X.env = (false, eval e X.env) :: starEach [e2] X.env := by rfl) (hpl : (backTo pos (starEach [e2] X.env)).any (·.1) = false := by rfl) :
    PIQ X (.Tuple elts kk tpos) (.Call (.Name "zip" p) [e, e2] [] pos) (iZip X.K ta) := by
  intro pins s σ H R I h
  refine Call_ (ld_blt I hg hm PyProof.Rows.boot_zip (PyProof.Rows.callWith_type1 (thn (ha.run pos pins s σ H _ I h) fun us s1 ⟨vs, H1, I1, r1, q1⟩ => ?_) hs hpl))
  obtain ⟨a, b, xs, ys, ex, lx, ly, q⟩ := q1
  subst ex
  obtain ⟨u1, ur, rfl, ra, rr⟩ : ∃ u1 ur, us = u1 :: ur ∧ RelV (.ref a) u1 ∧ Vals [.ref b] ur := by
    cases r1 with
    | cons ra rr => exact ⟨_, _, rfl, ra, rr⟩
  obtain ⟨u2, rfl, rb⟩ := vals1 rr
  cases ra
  cases rb
  obtain ⟨_, _, pa, _⟩ := I1.list lx
  obtain ⟨_, _, pb, _⟩ := I1.list ly
  refine call_zip_2 pa.isList pb.isList fun h' hz hTI hTO h1 h2 hsz hk => wpAny_pyIter_zip hz ?_
  have I2 : Inv X pins σ H1 { s1 with heap := h' } := I1.kept (t' := s1.toks) hk
  refine ⟨s1.heap.objs.size + 4, [s1.heap.objs.size + 4, s1.heap.objs.size + 2, s1.heap.objs.size + 3, s1.heap.objs.size, s1.heap.objs.size + 1], _, _, H1, rfl, I2, turnq_zip (PySem.W.ktu_apart s1.heap.objs.size a b pa.lt pb.lt), ⟨hz, hTI, ⟨_, _, hTO⟩, h1, h2⟩, fun c hc => ?_, q⟩
  have le : s1.heap.objs.size ≤ c := by
    have hc' : c = s1.heap.objs.size + 4 ∨ c = s1.heap.objs.size + 2 ∨ c = s1.heap.objs.size + 3 ∨ c = s1.heap.objs.size ∨ c = s1.heap.objs.size + 1 := by simpa using hc
    rcases hc' with z | z | z | z | z <;> rw [z] <;> first | exact Nat.le_refl _ | exact Nat.le_add_right _ _
  exact I1.fpOk le (I1.hok.fresh le)
/-- [elt for target in iter if ..], while an exception is handled -/
theorem pe_lcQ {X : Cx} {elt tg iter : Expr} {ifs : List Expr} {scope : Scope} {own : List (Str × Nat)} {pos : Pos} {wi : TI} {g : TG} {tt : TT} {te : TE} {p : Addr × Obj} (h1 : Hot1 X.A p) (hp : p ∈ X.pn) (hN : X.N.Nodup) (hi : PIQ X tg iter wi) (ok : BlkOk X.N X.env.scope scope own)
    (hg : ∀ (s : Shared) (H : Hp) (C : Addr) (cl : List (Str × Addr)) (fp : List Addr), HotI (X.blk s H scope (compEnvC scope cl C X.env) fp) p.1 → PG (X.blk s H scope (compEnvC scope cl C X.env) fp) tg g)
    (ht : ∀ (s : Shared) (H : Hp) (C : Addr) (cl : List (Str × Addr)) (fp : List Addr), PTs (X.blk s H scope (compEnvC scope cl C X.env) fp) ifs tt)
    (he : ∀ (s : Shared) (H : Hp) (C : Addr) (cl : List (Str × Addr)) (fp : List Addr), PE (X.blk s H scope (compEnvC scope cl C X.env) fp) elt te)
    (hs : ∀ x, foldedSetIterable iter X.env x = pure x := by intro _; rfl) : PE X (.ListComp elt [⟨tg, iter, ifs, 0⟩] scope pos) (tLc wi g tt te (own.map (·.2))) := by
  refine ⟨fun pins s σ H Q I h => ?_⟩
  rw [eval_ListComp]
  have cells : ∀ y ∈ scope.names, y.2 = .free → ∃ c, X.env.cells.lookup y.1 = some c := fun y hy e => (ok.free y hy e).elim (fun k => I.ok.has _ (.inl k)) fun k => I.ok.has _ (.inr k)
  refine wpAny_comprehension_free (use := none) rfl hs (closure_ok cells) ok.kind (fun y hy e => by rw [ok.uniq y hy, e]) (thn (hi pins s σ H _ I h) fun xv sa hx => thn hx fun itv sb hb => ?_)
  obtain ⟨it, fp, tn, J, Hb, ei, Ib, TQ, tb, fb, q⟩ := hb
  subst ei
  have T := TQ.t
  refine wpAny_newObj_type (newEnv_comp ?_) (by show 0 ≤ sizeLine; decide)
  generalize eD : sb.heap.objs.size = D
  have nD : Hb D = none := Ib.hok.fresh (Nat.le_of_eq eD)
  obtain ⟨W, ⟨m0, w0⟩, turn⟩ := q D nD
  -- the new list
  generalize es : ({ sb with heap := sb.heap.push { cls := .type "list", data := .seq ([] : List Value).toArray } } : Shared) = sc
  have hc : sc.heap = sb.heap.push { cls := .type "list", data := .seq ([] : List Value).toArray } := by rw [← es]
  have Ic : Inv X pins σ (upd Hb D (.lst [])) sc := by
    rw [← es]
    refine Ib.laid (t' := sb.toks) (fun b o e => Heap.get?_push_of_some _ e) (Nat.le_of_eq eD) ⟨Nat.zero_le _, [], 0, .nil, ?_⟩
    rw [← eD]
    exact Heap.get?_push_size _ rfl
  have old : ∀ {b : Addr} {o : Obj}, sb.heap.get? b = some o → sc.heap.get? b = some o := fun e => by
    rw [hc]
    exact Heap.get?_push_of_some _ e
  have fpo : ∀ b ∈ fp, FpOk X pins (upd Hb D (.lst [])) b ∧ b < sc.heap.objs.size := fun b hb => by
    obtain ⟨o, e, _⟩ := T.obj _ _ tb b hb
    refine ⟨⟨?_, (fb b hb).2⟩, Heap.lt_size (old e)⟩
    rw [upd_ne (by rw [← eD]; exact Nat.ne_of_lt (Heap.lt_size e))]
    exact (fb b hb).1
  have tc : tn 0 sc.heap := T.keep _ _ _ tb fun b _ o e => old e
  have pc := Ic.pin p (List.mem_append_left _ hp)
  have nfr : p.1 ∉ frs X.stack := fun hm => (List.mem_cons.mp (Ic.stkSub p.1 hm)).elim pc.2.2.1 pc.2.2.2.1
  have nfp : p.1 ∉ fp := fun hm => (fpo p.1 hm).1.2.2.2.2.2 p (List.mem_append_left _ hp) rfl
  have Id := block_start Ic ok hN fpo
  generalize ecl : cellsFrom (sc.heap.objs.size + 1) scope.names (cloFrom X.env.cells scope.names []) = cl at Id
  have hot : HotI (X.blk sc (upd Hb D (.lst [])) scope (compEnvC scope cl sc.heap.objs.size X.env) fp) p.1 := hotI_blk h1 pc.1 pc.2.1 nfr nfp
  have pg := hg sc (upd Hb D (.lst [])) sc.heap.objs.size cl fp hot
  have pt := ht sc (upd Hb D (.lst [])) sc.heap.objs.size cl fp
  have pe := he sc (upd Hb D (.lst [])) sc.heap.objs.size cl fp
  have fpn : ∀ b ∈ fp, (upd Hb D (.lst [])) b = none := fun b hb => (fpo b hb).1.1
  show codeAny _ _ (.compStart (.ListComp elt [⟨tg, iter, ifs, 0⟩] scope pos) 0 (.ref it) (.ref D) (compEnvC scope cl sc.heap.objs.size X.env)) (compPost (model X.prog X.w) X.A X.xe none (EP X pins σ Q) (.ref D) sc.heap.objs.size) { sc with heap := pushCells (sc.heap.push { cls := .type "dict", data := .dict #[] }) scope.names }
  generalize ece : compEnvC scope cl sc.heap.objs.size X.env = ce at Id hot pg pt pe ⊢
  have cl0 : ce.locals = sc.heap.objs.size := by
    subst ece
    rfl
  generalize upd Hb D (.lst []) = Hc at Ic Id hot pg pt pe w0 fpn fpo
  generalize esd : ({ sc with heap := pushCells (sc.heap.push { cls := .type "dict", data := .dict #[] }) scope.names } : Shared) = sd at Id ⊢
  have td : tn 0 sd.heap := T.keep _ _ _ tc fun b _ o e => by
    rw [← esd]
    exact pushCells_keeps _ _ _ _ (Heap.get?_push_of_some _ e)
  have stat : ∀ {σ' : L2.St} {H' : Hp} {s' : Shared}, Inv (X.blk sc Hc scope ce fp) [] σ' H' s' → (∀ b ∈ fp, H' b = none) → ∀ b ∈ fp, FpOk (X.blk sc Hc scope ce fp) [] H' b := fun J hn b hb =>
    ⟨hn b hb, (J.ok.exf b hb).1, J.ok.exfs b hb, .inl hb, (fun x c e => (J.ok.exf b hb).2 x c e), fun r hr => absurd (show r ∈ ([] : List (Addr × Obj)) ++ [] from hr) (by simp)⟩
  have loop : codeAny (model X.prog X.w) X.A (.compLoop (.ListComp elt [⟨tg, iter, ifs, 0⟩] scope pos) 0 (.ref it) (.ref D) ce) (compPost (model X.prog X.w) X.A X.xe none (EP X pins σ Q) (.ref D) sc.heap.objs.size) sd := by
    refine compLoop_any (fun n s' => ∃ i H', Inv (X.blk sc Hc scope ce fp) [] (wipe σ (own.map (·.2))) H' s' ∧ tn i s'.heap ∧ (∀ b ∈ fp, H' b = none) ∧ W i n H') ?_ m0 ⟨0, Hc, Id, td, fpn, w0⟩
    rintro n se ⟨i, He, Ie, te', ne', we⟩
    rcases turn i n He we with ⟨stop, qq⟩ | ⟨go, Nx, hNx, step⟩
    · refine thnF (TQ.done (X.blk sc Hc scope ce fp) rfl rfl rfl p.1 i [] se _ He (fun _ _ => False) (hot _ _ _ _ Ie) nfp Ie (stat Ie ne') te' stop) fun r sf ⟨hr, If⟩ => ?_
      subst hr
      have Ig : Inv X pins σ He sf := Ic.call' (ch := fp) If.os If.base If.hok If.bare fun b hb => ⟨(fpo b hb).1.2.2.2.1, (fpo b hb).1.2.1, (fpo b hb).1.2.2.2.2.1, (fpo b hb).1.2.2.2.2.2⟩
      have fr : He sc.heap.objs.size = none := by
        have z : He ce.locals = none := If.free
        rw [cl0] at z
        exact z
      obtain ⟨m, hn, _⟩ := If.loc
      have hn : sf.heap.Ns ce.locals m := hn
      rw [cl0] at hn
      obtain ⟨f0, f1, f2, f3, f4, f5⟩ := Ic.fpOk (Nat.le_refl _) fr
      exact ⟨m, hn, fun h'' sm => ⟨.ref D, He, Ig.turned (t' := sf.toks) (fun b o hb e => (sm.2 b hb).trans e) f0 f1 f3 f4 f5, rfl, qq⟩⟩
    · refine thnF (TQ.item (X.blk sc Hc scope ce fp) rfl rfl rfl i [] se _ He (fun _ _ => False) Ie (stat Ie ne') te' go) fun r sf ⟨u, hr, hf⟩ => ?_
      subst hr
      refine thnF hf fun _ sg ⟨x, Hg, Ig, rg, yg, tg', ng⟩ => ?_
      refine thnF (pg.run _ sg _ Hg x u _ (Ig.pinned (stat Ig ng) (T.obj _ _ tg')) rg (step x Hg yg)) fun _ sh ⟨σh, Hh, Ih, wh, qh⟩ => ?_
      refine thnF (pt.run _ sh σh Hh _ Ih qh) fun b sk ⟨Hk, Ik, qk⟩ => ?_
      have fin : ∀ {s' : Shared} {H' : Hp}, Inv (X.blk sc Hc scope ce fp) ([] ++ pinsAt fp sg.heap) σh H' s' → Nx H' → ∃ m, m < n ∧ ∃ i H', Inv (X.blk sc Hc scope ce fp) [] (wipe σ (own.map (·.2))) H' s' ∧ tn i s'.heap ∧ (∀ b ∈ fp, H' b = none) ∧ W i m H' := fun {s' H'} J nx => by
        obtain ⟨m', lm, w'⟩ := hNx H' nx
        have pin' : ∀ b ∈ fp, ∀ o, sg.heap.get? b = some o → s'.heap.get? b = some o ∧ H' b = none := fun b hb o e =>
          ⟨(J.pin (b, o) (List.mem_append_right _ (List.mem_append_right _ (mem_pinsAt hb e)))).1, (J.pin (b, o) (List.mem_append_right _ (List.mem_append_right _ (mem_pinsAt hb e)))).2.1⟩
        refine ⟨m', lm, i + 1, H', (J.unpinned (pins := [])).weak (by rw [← wh, wipe_length]) (fun j v e => ?_), T.keep _ _ _ tg' (fun b hb o e => (pin' b hb o e).1), fun b hb => ?_, w'⟩
        · rw [← wh] at e
          exact (wipe_some e).1
        · obtain ⟨o, e, _⟩ := T.obj _ _ tg' b hb
          exact (pin' b hb o e).2
      cases b with
      | false =>
        simp only [Bool.false_eq_true, if_false] at qk ⊢
        exact fin Ik qk
      | true =>
        simp only [if_true] at qk ⊢
        exact thnF (pe.run _ sk σh Hk _ Ik qk) fun z sl ⟨yv, Hl, Il, rl, acc, hDl, hzl, nx⟩ => app_ok (X := X.blk sc Hc scope ce fp) Il hDl hzl rl fun sm Im => fin Im nx
  exact codeAny_compStart_list loop (T.self X.A 0 _ _ _ td loop)
/-! ### defs that are called in an except suite, of the exception that is handled -/
/-- the promise may speak of the exception: its place, class and dict -/
def FnE (P : Program) (w : World) (K : PySem.W.Frag) (mg : Str → Option Value) (base : Heap) (CX : CXT) (n : Nat) (g : Addr) (sp : Addr → Value → Option Addr → Sp) : Prop :=
  ∀ (A : Around) (outer : List Env) (s : Shared) (H : Hp) (us : List Value) (vs : List V) (Q : VK) (E : XK) (p : Addr × Obj) (cls : Value) (d : Option Addr), RoomH n A → Hot1 A p → L2N.Zn cls d p.2 → PinOk outer H s p → Env0 P w K mg base A outer s H → Vals vs us → sp p.1 cls d vs H Q E →
    codeAny (model P w) A (.call (.ref g) ⟨us, []⟩) (CR CX outer P w H s Q E) s
section
variable {P : Program} {w : World} {K : PySem.W.Frag} {mg : Str → Option Value} {base : Heap} {x qual : Str} {params : Arguments} {body : List Stmt} {scope : Scope} {dvs : List V} {kws : List (Str × V)} {f : Addr} {fd : FuncData}
theorem okE {CX : CXT} {N ps : List Str} {k : Nat} {sp : Addr → Value → Option Addr → Sp} (D : FunD K x qual params body scope dvs kws f fd) (S : FnScope N ps scope) (bd : Binds K fd ps []) (len : ∀ a c d vs H Q E, sp a c d vs H Q E → vs.length = ps.length)
    (hbody : ∀ (cdv : Value) (A : Around) (outer : List Env) (s : Shared) (H : Hp) (vs : List V) (Q : VK) (E : XK) (p : Addr × Obj) (cls : Value) (d : Option Addr), Hot1 A p → L2N.Zn cls d p.2 → RoomH k (A.deeper (envOfC qual scope s.heap.objs.size f cdv)) → sp p.1 cls d vs H Q E →
      ∃ t, PSs (cxH CX P w K mg base N qual scope f cdv A outer s H E p) body t ∧ t { nx := fun _ H' => Q .non H', rt := Q } (L2.start N vs) H) : FnE P w K mg base CX (k + 1) f sp := by
  obtain ⟨oc, od, dV, kV, doc, pm, an, cdv, ct, osl, rfl, lk, hcd, _, _⟩ := D.ex
  intro A outer s H us vs Q E p cls d hr hot hz pin e0 rv hsp
  have lv := len _ _ _ _ _ _ _ hsp
  have kin : K.In s.heap := e0.mod.kin.keeps fun _ _ z => (e0.bs _ _ z).1
  have nol : s.heap.NoLimit := e0.mod.nolimit.keeps fun _ _ z => (e0.bs _ _ z).1
  have bt := bd s us kin (by rw [List.append_nil, ← rv.length]; exact lv)
  rw [List.append_nil] at bt
  obtain ⟨t, ht, hq⟩ := hbody cdv A outer s H vs Q E p cls d hot hz (hr.deeper _) hsp
  refine codeAny_call_function hr.depth (kin _ _ lk) rfl S.co S.gen rfl (PySem.W.codeRec_of kin hcd) (bt _ _ _ _ ?_)
  refine wpAny_newFunctionEnv_cells S.kind (fun ⟨y, _⟩ hy => (S.par y (List.of_mem_zip hy).1).imp id fun z => ⟨z, PySem.W.cellsFrom_some _ _ _ (.inl z)⟩) fun env he s1 ic => ?_
  subst he
  refine ⟨nol.keeps ic.toInCall.keep, codeAny_func (wpAny_mono (ht.run [] s1 (L2.start N vs) H _ (inv_startH S pin e0 lv rv ic) hq) (fun fl s2 hs => ?_) fun _ _ z => z)⟩
  cases fl with
  | ret u =>
    obtain ⟨v, _, H2, J, ru, qv⟩ := hs
    exact ⟨v, H2, J.os, J.bare, J.base, J.hok, ru, qv⟩
  | next =>
    obtain ⟨_, H2, J, qv⟩ := hs
    exact ⟨.non, H2, J.os, J.bare, J.base, J.hok, rfl, qv⟩
  | brk => obtain ⟨_, _, _, z⟩ := hs; exact z.elim
  | cont => obtain ⟨_, _, _, z⟩ := hs; exact z.elim
end
section
variable {X : Cx} {CX : CXT} {n : Nat} {g D : Addr} {x : Str} {q pos : Pos} {e : Expr} {es : List Expr} {t : TA} {E : XK} {p : Addr × Obj} {cls : Value} {d : Option Addr}
theorem pe_callE {sp : Addr → Value → Option Addr → Sp} (F : FnE X.prog X.w X.K X.mg X.base CX n g sp) (hr : RoomH n X.A) (h1 : Hot1 X.A p) (hp : p ∈ X.pn) (hz : L2N.Zn cls d p.2) (hg : Gl X x) (hm : X.mg x = some (.ref g)) (hk : PySem.W.keepIn X.K (.ref g) = true) (hx : Passes CX X E) (ha : PA X (e :: es) t)
    (hdb : (x == ("__debug__" : Str)) = false := by decide) (he : starEach (e :: es) X.env = (false, eval e X.env) :: starEach es X.env := by rfl) (hpl : (backTo pos (starEach es X.env)).any (·.1) = false := by rfl) : PE X (.Call (.Name x q) (e :: es) [] pos) (tCall (sp p.1 cls d) [] E t) := by
  refine ⟨fun pins s σ H Q I h => wpAny_Call_Name_kw (ld_glob I hg hm ?_ hdb)⟩
  refine PySem.W.callWith_K (h₀ := X.base) I.ok.mod.kin hk (thn (ha.run pos pins s σ H _ I h) fun us s1 ⟨vs, H1, I1, r, hq⟩ => ⟨I1.kIn, ?_⟩) he hpl
  have hq : sp p.1 cls d (vs ++ []) H1 Q E := hq
  rw [List.append_nil] at hq
  have P1 := I1.pin p (List.mem_append_left _ hp)
  refine wpAny_call (codeAny_mono (F X.A X.stack s1 H1 us vs Q E p cls d hr h1 hz ⟨P1.1, P1.2.1, fun hm => (List.mem_cons.mp (I1.stkSub p.1 hm)).elim P1.2.2.1 P1.2.2.2.1, P1.2.2.2.2⟩ I1.env0 r hq) fun z s' hr' => ?_)
  match z, hr' with
  | .error er, hr' => exact hx pins σ H1 s1 er s' I1 hr'
  | .ok (.ret _), hr' => exact I1.after hr'
  | .ok .next, hr' => exact False.elim hr'
  | .ok .brk, hr' => exact False.elim hr'
  | .ok .cont, hr' => exact False.elim hr'
theorem pe_callES {a : Addr} {oe : Obj} {sp : Addr → Value → Option Addr → Sp} (F : FnE X.prog X.w X.K X.mg X.base CX n g sp) (hr : RoomH n X.A) (h1 : Hot1 X.A (a, oe)) (hp : (a, oe) ∈ X.pn) (hz : L2N.Zn cls d oe) (hg : Gl X x) (hm : X.mg x = some (.ref g)) (hk : PySem.W.keepIn X.K (.ref g) = true) (hx : Passes CX X E) (ha : PA X (e :: es) t)
    (hdb : (x == ("__debug__" : Str)) = false := by decide) (he : starEach (e :: es) X.env = (false, eval e X.env) :: starEach es X.env := by rfl) (hpl : (backTo pos (starEach es X.env)).any (·.1) = false := by rfl) : PE X (.Call (.Name x q) (e :: es) [] pos) (tCall (sp a cls d) [] E t) := pe_callE (p := (a, oe)) F hr h1 hp hz hg hm hk hx ha hdb he hpl
/-- isinstance(e, c), e the exception that is handled -/
theorem call_isQ (C : ExcC X.K D) (hz : Zc (.ref D) none p.2) (hf : ∃ vs, p.2.data = .fields vs) (hp : p ∈ X.pn) : CallR X (.builtin "isinstance") (rIsE X.K D p.1) := by
  intro pins s σ H xs us Q I r h
  obtain ⟨c, cv, b, rfl, hcv, ke, q⟩ := h
  obtain ⟨u1, ur, rfl, ra, rr⟩ : ∃ u1 ur, us = u1 :: ur ∧ RelV (.ref p.1) u1 ∧ Vals [c] ur := by
    cases r with
    | cons ra rr => exact ⟨_, _, rfl, ra, rr⟩
  obtain ⟨u2, rfl, rb⟩ := vals1 rr
  cases ra
  cases hcv _ rb
  obtain ⟨gp, _⟩ := I.pin p (List.mem_append_left _ hp)
  have J : PySem.W.InstAt s.heap p.1 p.2 D none := by
    obtain ⟨a, oc, od, oda, osl⟩ := p
    obtain ⟨vs, hv⟩ := hf
    obtain ⟨z1, z2⟩ := hz
    dsimp only at z1 z2 hv gp
    subst z1 z2 hv
    exact ⟨gp, rfl, rfl, trivial⟩
  exact PySem.W.kia_one (PySem.W.handS_kitx_exc C.hg C.hk C.hs C.hd C.ha C.hn C.ht C.hm) I.kIn J ke (fun z => nomatch z) fun tk => ⟨.bl b, H, I.kept (t' := tk) fun _ _ z => z, rfl, q⟩
/-- the suite bears the exception that it handles -/
theorem hot_suite {a : Addr} {oe : Obj} {pn : List (Addr × Obj)} (hz : L2N.Zn cls d oe) (hf : ∃ vs, oe.data = .fields vs) : Hot1 (X.suite a ((a, oe) :: pn)).A (a, oe) := by
  obtain ⟨vs, hv⟩ := hf
  exact ⟨rfl, vs, hv, hz.2.2 vs hv⟩
end
/-! ### making an instance in the suite of a try -/
theorem takes0N {X : Cx} : L2N.Takes X (fun _ _ _ _ => False) := fun _ _ x => by
  obtain ⟨_, _, _, _, _, _, _, _, _, _, _, _, _, _, _, _, z⟩ := x
  exact z.elim
def tMakeKS (C : Addr) (n m : Nat) (sp : Sp) (gV : List V → List V → List V) (E : L2.St → XK) (t tk : TA) : TE := fun σ H Q => t σ H fun vs H1 => tk σ H1 fun zs H2 => vs.length = n ∧ zs.length = m ∧ ∀ x dx, H2 x = none → H2 dx = none → dx ≠ x →
  sp (gV (.ref x :: vs) zs) (upd (upd H2 dx (.own x)) x (.ins C dx [])) (fun v H3 => v = .non ∧ Q (.ref x) H3) (E σ)
section
variable {X : Cx} {CX : CXT} {k n : Nat} {f C : Addr} {fd : FuncData} {ps ks : List Str} {sp : Sp} {E : L2.St → XK} {x : Str} {p pos : Pos} {e : Expr} {es : List Expr} {kws : List Keyword} {t tk : TA} {g : List Value → List Value → List Value} {gV : List V → List V → List V}
theorem pe_makeKS (M : Mk X.K C f) (F : FnOk X.prog X.w X.K X.mg X.base CX k f fd ps sp) (hr : Room (k + 1) X.A) (hg : Gl X x) (hm : X.mg x = some (.ref C)) (hb : KBn X.K fd ps (n + 1) ks g gV) (hx : ∀ σ, PassesAt CX X σ (E σ)) (ha : PA X (e :: es) t) (hkw : PK X kws tk)
    (hall : (backToKw pos (keywordEach kws X.env)).all (·.1.isSome) = true := by rfl) (hks : (backToKw pos (keywordEach kws X.env)).filterMap (·.1) = ks := by rfl) (hdb : (x == ("__debug__" : Str)) = false := by decide) (he : starEach (e :: es) X.env = (false, eval e X.env) :: starEach es X.env := by rfl)
    (hpl : ((backTo pos (starEach (e :: es) X.env)).any (·.1) || (backToKw pos (keywordEach kws X.env)).any (·.1.isNone)) = false := by rfl) : PE X (.Call (.Name x p) (e :: es) kws pos) (tMakeKS C n ks.length sp gV E t tk) := by
  refine ⟨fun pins s σ H Q I h => wpAny_Call_Name_kw (ld_glob I hg hm ?_ hdb)⟩
  refine PySem.W.callWith_KW (h₀ := X.base) I.ok.mod.kin M.kp hall (thn (ha.run pos pins s σ H _ I h) fun us s1 ⟨vs, H1, I1, r, q⟩ => ?_) hpl he
  refine thn (hkw.run pos pins s1 σ H1 _ I1 q) fun ws s2 ⟨zs, H2, I2, rz, l1, l2, q2⟩ => ⟨I2.kIn, ?_⟩
  rw [hks]
  generalize en : s2.heap.objs.size = N
  have hq := q2 (N + 1) N (I2.hok.fresh (by rw [en]; exact Nat.le_succ _)) (I2.hok.fresh (Nat.le_of_eq en)) (Nat.ne_of_lt (Nat.lt_succ_self _))
  subst en
  have J := Inv.made (C := C) I2
  have r1 : Vals (V.ref (s2.heap.objs.size + 1) :: vs) (Value.ref (s2.heap.objs.size + 1) :: us) := .cons rfl r
  have n1 : (Value.ref (s2.heap.objs.size + 1) :: us).length = n + 1 := by rw [List.length_cons, ← r.length, l1]
  refine wpAny_call (make_map (f := f) I2.kIn M.makes M.init (beq_iff_eq.mp M.fn) (codeAny_mono (F.run _ X.stack _ _ ⟨Value.ref (s2.heap.objs.size + 1) :: us, ks.zip ws⟩ _ _ _ (E σ) (hr.make C us (ks.zip ws)) (J.env0.make C us (ks.zip ws)) (hb.to _ _ ws J.kIn n1 (rz.length.symm.trans l2)) (hb.rel r1 rz) hq) fun z s' hz => ?_))
  match z, hz with
  | .error er, hz => exact hx σ pins _ _ er s' J hz
  | .ok (.ret u), hz =>
    obtain ⟨v, H', J3, rv, ev, q3⟩ := J.after hz
    subst ev
    exact ⟨rv, ⟨V.ref (s2.heap.objs.size + 1), H', J3, rfl, q3⟩⟩
  | .ok .next, hz => exact False.elim hz
  | .ok .brk, hz => exact False.elim hz
  | .ok .cont, hz => exact False.elim hz
end
end Onc

namespace Onc
open PySem PySem.Spec PyProof.Rows L2
/-! ### several except clauses, of one class or of two, with or without a name -/
section
variable {X : Cx}
/-- what a clause's test tells -/
def Tst (X : Cx) (t : Expr) (cs : List Value) : Prop := ∀ (a : Addr) (oe : Obj) (pn pins : List (Addr × Obj)) (σ : L2.St) (H : Hp) (s : Shared) (Q E : Value → Shared → Prop), Inv (X.suite a ((a, oe) :: pn)) pins σ H s →
  (∀ c h', (∀ b o, Heap.get? s.heap b = some o → h'.get? b = some o) → (∀ cls b, PySem.W.Looks (model X.prog X.w) s.heap (typeOf (.ref a)) cls → PySem.W.exmAny X.K cls cs = some b → PySem.W.Looks (model X.prog X.w) h' (excMatches (.ref a) c) b) → Q c { s with heap := h' }) →
  wpAny (model X.prog X.w) (X.A.mark (some (.ref a))) (eval t X.env) Q E s
theorem ld_nm {x : Str} {np : Pos} {c : Value} {a : Addr} {pn pins : List (Addr × Obj)} {σ : L2.St} {H : Hp} {s : Shared} {Q E : Value → Shared → Prop} (hc : Names X x c) (S : Inv (X.suite a pn) pins σ H s) (q : Q c s) : wpAny (model X.prog X.w) (X.A.mark (some (.ref a))) (eval (.Name x np) X.env) Q E s := by
  obtain ⟨hg, hdbg, hm | ⟨hm, hv, hnn⟩⟩ := hc
  · exact ld_glob (X := X.suite a pn) S hg hm q hdbg
  · exact ld_blt (X := X.suite a pn) S hg hm hv q hnn hdbg
theorem tst_one {x : Str} {np : Pos} {c : Value} (hc : Names X x c) : Tst X (.Name x np) [c] := by
  intro a oe pn pins σ H s Q E S k
  refine ld_nm hc S ?_
  refine k c s.heap (fun _ _ h => h) fun cls b LT e => ?_
  obtain ⟨b1, d1, e1, e2, e3⟩ := PySem.W.exmAny_cons e
  cases (Option.some.inj e2)
  rw [Bool.or_false] at e3
  subst e3
  exact PySem.W.exm_one S.kIn LT e1
theorem tst_two {x y : Str} {p1 p2 tp : Pos} {kk} {c1 c2 : Value} (h1 : Names X x c1) (h2 : Names X y c2) : Tst X (.Tuple [.Name x p1, .Name y p2] kk tp) [c1, c2] := by
  intro a oe pn pins σ H s Q E S k
  refine wpAny_Tuple_spliced ?_
  show wpAny _ _ (spliced [(false, eval (.Name x p1) X.env), (false, eval (.Name y p2) X.env)]) _ _ s
  refine Calls.spliced_cons (ld_nm h1 S (Calls.spliced_cons (ld_nm h2 S (Calls.spliced_nil ⟨by show 2 ≤ sizeLine; rw [sizeLine_eq]; omega, ?_⟩))))
  exact k _ _ (fun b o e => Heap.get?_push_of_some _ e) fun cls b LT e => PySem.W.exm_tup2 (S.kIn.keeps fun b o e => Heap.get?_push_of_some _ e) (LT.keeps fun b o e => Heap.get?_push_of_some _ e) (Heap.get?_push_size _ rfl) e
theorem flying_on {B h h' : Heap} {l : List Env} {a : Addr} {Z : Obj → Prop} (f : HandSPX.FlyingZ B l a Z h) (k : ∀ b o, h.get? b = some o → h'.get? b = some o) : HandSPX.FlyingZ B l a Z h' := by
  obtain ⟨f1, f2, f3, oe, vs, T, oT, ts, g1, g2, g3, g4, g5, g6, g7, g8, g9⟩ := f
  exact ⟨fun b o e => k b o (f1 b o e), f2, Heap.FunFrames.of_keeps (fun b o e _ => ⟨o, k b o e, rfl⟩) f3, oe, vs, T, oT, ts, k _ _ g1, g2, g3, g4, g5, g6, k _ _ g7, g8, g9⟩
/-- the ends within a clause that has a name -/
def dAs (i : Option Nat) (D : Ends) : Ends := match i with
  | none => D
  | some i => { nx := fun σ' H' => D.nx (σ'.set i none) H', rt := D.rt, bk := fun σ' H' => D.bk (σ'.set i none) H', ct := fun σ' H' => D.ct (σ'.set i none) H' }
def sAs (i : Option Nat) (a : Addr) (σ : L2.St) : L2.St := match i with
  | none => σ
  | some i => σ.set i (some (.ref a))
abbrev Clause := List Value × Option Nat × (Addr → Value → Option Addr → TS)
def wGen (K : PySem.W.Frag) (Wout : WX) (D : Ends) : List Clause → WX
  | [] => Wout
  | (cs, i, ts) :: r => fun cls d σ H => ∃ b, PySem.W.exmAny K cls cs = some b ∧ (b = true → ∀ a, H a = none → ts a cls d (dAs i D) (sAs i a σ) H) ∧ (b = false → wGen K Wout D r cls d σ H)
inductive HdG (X : Cx) : List ExceptHandler → List Clause → Prop
  | nil : HdG X [] []
  | cons {t : Expr} {cs : List Value} {ts : Addr → Value → Option Addr → TS} {b₀ : Stmt} {suite : List Stmt} {pos' : Pos} {hds : List ExceptHandler} {l : List Clause} (ht : Tst X t cs)
      (hsu : ∀ (a : Addr) (oe : Obj) (cls : Value) (d : Option Addr) (pn : List (Addr × Obj)), L2N.Zn cls d oe → (∃ vs, oe.data = .fields vs) → PSs (X.suite a ((a, oe) :: pn)) (b₀ :: suite) (ts a cls d)) (r : HdG X hds l) :
      HdG X (.ExceptHandler (some t) none (b₀ :: suite) pos' :: hds) ((cs, none, ts) :: l)
  | as {n : Str} {i : Nat} {t : Expr} {cs : List Value} {ts : Addr → Value → Option Addr → TS} {b₀ : Stmt} {suite : List Stmt} {pos' : Pos} {hds : List ExceptHandler} {l : List Clause} (hN : X.N.Nodup) (hi : X.N[i]? = some n) (hln : X.env.kindOf n = some .local) (ht : Tst X t cs)
      (hsu : ∀ (a : Addr) (oe : Obj) (cls : Value) (d : Option Addr) (pn : List (Addr × Obj)), L2N.Zn cls d oe → (∃ vs, oe.data = .fields vs) → PSs (X.suite a ((a, oe) :: pn)) (b₀ :: suite) (ts a cls d)) (r : HdG X hds l) :
      HdG X (.ExceptHandler (some t) (some n) (b₀ :: suite) pos' :: hds) ((cs, some i, ts) :: l)
/-- a way of a body or a suite, as the def's own -/
theorem sp_own {Y : Cx} {pn' pins : List (Addr × Obj)} {D : Ends} {f : Flow} {s : Shared} (back : ∀ {σ : L2.St} {H : Hp}, Inv Y pn' σ H s → Inv X pins σ H s) (h : SP Y pn' D f s) : SP X pins D f s :=
  match f, h with
  | .next, ⟨σ', H', J, q⟩ => ⟨σ', H', back J, q⟩
  | .brk, ⟨σ', H', J, q⟩ => ⟨σ', H', back J, q⟩
  | .cont, ⟨σ', H', J, q⟩ => ⟨σ', H', back J, q⟩
  | .ret _, ⟨v, σ', H', J, r, q⟩ => ⟨v, σ', H', back J, r, q⟩
/-- behind a suite whose clause has a name: the name goes -/
theorem sp_gone {a : Addr} {oe : Obj} {n : Str} {i : Nat} {pos' : Pos} {pins : List (Addr × Obj)} {D : Ends} {f : Flow} {s : Shared} (ok : X.Ok) (hN : X.N.Nodup) (hi : X.N[i]? = some n) (hln : X.env.kindOf n = some .local) (h : SP (X.suite a ((a, oe) :: (X.pn ++ pins))) [] (dAs (some i) D) f s) :
    wpAny (model X.prog X.w) X.A (do bindName X.env n .none; unbindBehindTheSuite X.env n pos') (fun _ s₂ => SP X pins D f s₂) X.xe s := by
  match f, h with
  | .next, ⟨σ', H', J, q⟩ => exact gone_ok (Inv.unsuite J ok) hN hi hln fun s₂ J₂ => ⟨_, H', J₂, q⟩
  | .brk, ⟨σ', H', J, q⟩ => exact gone_ok (Inv.unsuite J ok) hN hi hln fun s₂ J₂ => ⟨_, H', J₂, q⟩
  | .cont, ⟨σ', H', J, q⟩ => exact gone_ok (Inv.unsuite J ok) hN hi hln fun s₂ J₂ => ⟨_, H', J₂, q⟩
  | .ret _, ⟨v, σ', H', J, r, q⟩ => exact gone_ok (Inv.unsuite J ok) hN hi hln fun s₂ J₂ => ⟨v, _, H', J₂, r, q⟩
/-- an exception that came down in a def's frame: what the clauses need -/
structure Down (X : Cx) (pins : List (Addr × Obj)) (σ : L2.St) (H : Hp) (a : Addr) (cls : Value) (d : Option Addr) (B : Heap) (sI s' : Shared) : Prop where
  J : Inv X pins σ H sI
  nb : ∀ b o, sI.heap.get? b = some o → b ∉ frs X.stack → B.get? b = some o
  os : s'.os = sI.os
  ag : AllBare s'.gens
  na : H a = none
  nL : a ≠ X.env.locals
  nF : a ∉ X.fs
theorem Down.own {pins : List (Addr × Obj)} {σ : L2.St} {H : Hp} {a : Addr} {cls : Value} {d : Option Addr} {B h : Heap} {sI s' : Shared} (w : Down X pins σ H a cls d B sI s') (fl : HandSPX.FlyingZ B (X.env :: X.outer) a (L2N.Zn cls d) h) (up : sI.heap.UpToSlots h) :
    ∃ oe, h.get? a = some oe ∧ L2N.Zn cls d oe ∧ (∃ vs, oe.data = .fields vs) ∧ Inv (X.suite a ((a, oe) :: (X.pn ++ pins))) [] σ H { s' with heap := h } := by
  obtain ⟨oe, vs, he, hz, hd⟩ := fl.there
  exact ⟨oe, he, hz, ⟨vs, hd⟩, Inv.suite (s := { s' with heap := h }) (w.J.landed w.nb fl.1 up w.os w.ag) he hd w.na w.nL w.nF⟩
/-- the clauses, one behind the other; each test may lay a tuple down -/
theorem clauses {pins : List (Addr × Obj)} {σ : L2.St} {H : Hp} {a : Addr} {cls : Value} {d : Option Addr} {B : Heap} {sI s' : Shared} {D : Ends} {Wout : WX} (hs : X.stack = X.env :: X.outer) (hf : X.env.frame = some X.env.locals) (tk : L2N.Takes X Wout) (ok : X.Ok) (w : Down X pins σ H a cls d B sI s') {hds : List ExceptHandler} {l : List Clause} (hk : HdG X hds l) :
    ∀ h : Heap, HandSPX.FlyingZ B (X.env :: X.outer) a (L2N.Zn cls d) h → sI.heap.UpToSlots h → wGen X.K Wout D l cls d σ H → wpAny (model X.prog X.w) X.A (handleBy (.ref a) X.env hds) (SP X pins D) X.xe { s' with heap := h } := by
  have try_ : ∀ {t : Expr} {cs : List Value} {b : Bool} {h : Heap} {R : Result → Shared → Prop} {p : Pos}, Tst X t cs → PySem.W.exmAny X.K cls cs = some b → HandSPX.FlyingZ B (X.env :: X.outer) a (L2N.Zn cls d) h → sI.heap.UpToSlots h →
      (∀ h', HandSPX.FlyingZ B (X.env :: X.outer) a (L2N.Zn cls d) h' → sI.heap.UpToSlots h' → R (.ok (if b then .brk else .next)) { s' with heap := h' }) → codeAny (model X.prog X.w) (X.A.mark (some (.ref a))) (.handlers (.ref a) [.ExceptHandler (some t) none [] p] X.env) R { s' with heap := h } := fun {t cs b h R p} ht hb fl up q => by
    obtain ⟨oe, he, hz, _, S⟩ := w.own fl up
    refine codeAny_handlers_test (ht a oe (X.pn ++ pins) [] σ H _ _ _ S fun c h' k LM => ?_)
    refine (LM cls b (fun A Q E s k q => wpAny_typeOf_ref (k _ _ he) (by rw [hz.1]; exact q)) hb).here ?_
    exact q h' (flying_on fl k) (up.trans (.of_keeps k))
  induction hk with
  | nil =>
    intro h fl up q
    obtain ⟨k1, k2, k3, oe, vs, T, oT, ts', he, hz, hd, h1, hr⟩ := id fl
    have on : wpAny (model X.prog X.w) X.A (setFlight (.ref a) X.env.frame) (fun _ s4 => wpAny (model X.prog X.w) X.A (throw (.ref a) : Sem Flow) (SP X pins D) X.xe s4) X.xe { s' with heap := h } := by
      rw [hf]
      refine HandSPX.setFlight_upZ fl fun h4 f4 up4 => wpAny_throw (tk _ _ ⟨a, B, sI, pins, σ, H, cls, d, rfl, w.J, w.nb, up.trans up4, .inr (.inr ?_), w.na, w.os, w.ag, q⟩)
      rw [hs]
      exact f4
    refine wpAny_handleBy_nil ?_
    unfold PySem.passOn
    refine wpAny_bind (wpAny_field he hd h1 ?_)
    rw [if_neg (show ¬ ((Value.ref T == Value.none) = true) from by simp)]
    first
      | exact wpAny_bind (wpAny_pure (wpAny_bind on))
      | exact wpAny_bind on
  | @cons t cs ts b₀ suite pos' hds2 l2 ht hsu r ih =>
    intro h fl up q
    obtain ⟨b, hb, yes, no⟩ := q
    refine wpAny_handleBy_cons (try_ ht hb fl up fun h6 fl6 up6 => ?_) (by intro z; cases z)
    cases b with
    | false => exact ih h6 fl6 up6 (no rfl)
    | true =>
      refine codeAny_handlers_suite (HandSPX.lands_againZ fl6 fun h4 fl4 up4 => ?_)
      obtain ⟨oe, he, hz, hd, S⟩ := w.own fl4 (up6.trans up4)
      exact wpAny_mono ((hsu a oe cls d (X.pn ++ pins) hz hd).run [] _ _ H _ S (yes rfl a w.na)) (fun f s6 e => sp_own (fun J => Inv.unsuite J ok) e) fun _ _ z => False.elim z
  | @as n i t cs ts b₀ suite pos' hds2 l2 hN hi hln ht hsu r ih =>
    intro h fl up q
    obtain ⟨b, hb, yes, no⟩ := q
    refine wpAny_handleBy_cons (try_ ht hb fl up fun h6 fl6 up6 => ?_) (by intro z; cases z)
    cases b with
    | false => exact ih h6 fl6 up6 (no rfl)
    | true =>
      refine codeAny_handlers_suite_as (HandSPX.lands_againZ fl6 fun h4 fl4 up4 => ?_)
      obtain ⟨oe, he, hz, hd, S⟩ := w.own fl4 (up6.trans up4)
      refine store_ok (X := X.suite a ((a, oe) :: (X.pn ++ pins))) (v := .ref a) S hN hi (.inl hln) rfl (fun s7 S7 => ?_) (.inr hln)
      exact wpAny_mono ((hsu a oe cls d (X.pn ++ pins) hz hd).run [] s7 _ H _ S7 (yes rfl a w.na)) (fun f s6 e => sp_gone ok hN hi hln e) fun _ _ z => False.elim z
theorem ps_try_gen {body : List Stmt} {h₀ : ExceptHandler} {hds : List ExceptHandler} {l : List Clause} {pos : Pos} {tb : WX → TS} {Wout : WX} (hs : X.stack = X.env :: X.outer) (hf : X.env.frame = some X.env.locals) (tk : L2N.Takes X Wout)
    (hb : ∀ (W : WX) (pn : List (Addr × Obj)) (xe : Value → Shared → Prop), L2N.Takes (X.tr pn xe) W → PassesOwn (model X.prog X.w) X.A X.env xe → PSs (X.tr pn xe) body (tb W))
    (hh : HdG X (h₀ :: hds) l) : PS X (.Try body (h₀ :: hds) [] [] pos) (fun D σ H => tb (wGen X.K Wout D l) D σ H) := by
  refine ⟨fun pins s σ H D I h => wpAny_Try_except ?_⟩
  have ok := I.ok
  have hfr : X.A.frames = some (X.env :: X.outer) := by rw [ok.frames, hs]
  refine wpAny_mono ((hb (wGen X.K Wout D l) (X.pn ++ pins) _ (fun u s' xx => ?_) PassesOwn.looking).run [] s σ H D (I.toTry _) h) (fun f s1 e => ?_) (fun e s1 he => he)
  · obtain ⟨a, B, sI, pins', σ', H', cls, d, rfl, J', nb, up, sky, na, os, ag, w⟩ := xx
    have J : Inv X pins σ' H' sI := J'.ofTry ok
    show wpAny (model X.prog X.w) X.A (noteFrame (.ref a) X.env) _ _ _
    refine L2N.Sky.land L2N.Zn.steady hfr hf (show Sky B (X.env :: X.outer) a (L2N.Zn cls d) X.env.locals s'.heap from by rw [← hs]; exact sky) fun h3 fl3 up3 => ?_
    obtain ⟨oe, vs, he, hz, hd⟩ := fl3.there
    have nfr : a ∉ frs (X.env :: X.outer) := fun hm => by
      obtain ⟨_, o', e', no⟩ := fl3.2.2.1.mem hm
      rw [he] at e'
      cases e'
      exact no _ hd
    refine clauses hs hf tk ok ⟨J, nb, os, ag, na, fun z => nfr ?_, fun hm => nfr ?_⟩ hh h3 fl3 (up.trans up3) w
    · exact List.mem_filterMap.mpr ⟨X.env, List.mem_cons_self, by rw [hf, z]⟩
    · obtain ⟨e, he, q⟩ := List.mem_filterMap.mp hm
      exact List.mem_filterMap.mpr ⟨e, List.mem_cons_of_mem _ he, q⟩
  · have e1 : SP X pins D f s1 := sp_own (fun J => Inv.ofTry J ok) e
    cases f with
    | next => exact wpAny_execs_nil e1
    | brk => exact e1
    | cont => exact e1
    | ret u => exact e1
end
/-! ### promises that raise, and promises that don't -/
section
variable {P : Program} {w : World} {K : PySem.W.Frag} {mg : Str → Option Value} {base : Heap} {k : Nat} {f : Addr} {fd : FuncData} {ps : List Str} {sp sp' : Sp}
/-- one that never raises, of one that may -/
theorem calm_ok (F : FnOk P w K mg base (L2N.CX P w) k f fd ps sp) (h : ∀ vs H Q E, sp' vs H Q E → sp vs H Q E0) : FnOk P w K mg base CX0 k f fd ps sp' :=
  ⟨fun vs H Q E q => F.len vs H Q E0 (h _ _ _ _ q), fun A outer s H args us vs Q E hr he hb hv hs => codeAny_mono (F.run A outer s H args us vs Q E0 hr he hb hv (h _ _ _ _ hs)) fun r s' hq => by
    cases r with
    | error e =>
      obtain ⟨_, _, _, _, _, _, _, _, _, _, _, _, z⟩ := hq
      exact z.elim
    | ok fl =>
      cases fl with
      | ret u => exact hq
      | next => exact hq.elim
      | brk => exact hq.elim
      | cont => exact hq.elim⟩
/-- one that never raises, where some may -/
theorem warm_ok (F : FnOk P w K mg base CX0 k f fd ps sp) : FnOk P w K mg base (L2N.CX P w) k f fd ps sp :=
  ⟨F.len, fun A outer s H args us vs Q E hr he hb hv hs => codeAny_mono (F.run A outer s H args us vs Q E hr he hb hv hs) fun r s' hq => by
    cases r with
    | error e => exact hq.elim
    | ok fl =>
      cases fl with
      | ret u => exact hq
      | next => exact hq.elim
      | brk => exact hq.elim
      | cont => exact hq.elim⟩
def orSp (sp sp' : Sp) : Sp := fun vs H Q E => sp vs H Q E ∨ sp' vs H Q E
theorem or_ok {CX : CXT} (F : FnOk P w K mg base CX k f fd ps sp) (G : FnOk P w K mg base CX k f fd ps sp') : FnOk P w K mg base CX k f fd ps (orSp sp sp') :=
  ⟨fun vs H Q E h => h.elim (F.len vs H Q E) (G.len vs H Q E), fun A outer s H args us vs Q E hr he hb hv hs => hs.elim (F.run A outer s H args us vs Q E hr he hb hv) (G.run A outer s H args us vs Q E hr he hb hv)⟩
end
section
variable {X : Cx} {CX : CXT} {k n : Nat} {f C : Addr} {fd : FuncData} {ps ks : List Str} {sp : Sp} {E : L2.St → XK} {x m : Str} {p pos apos : Pos} {e o : Expr} {es : List Expr} {kws : List Keyword} {ta : TE} {t tk : TA} {g : List Value → List Value → List Value} {gV : List V → List V → List V}
/-- what a callee raises leaves this def -/
theorem passX {E : XK} (hs : L2N.Takes X (fun cls d _ H => E cls d H)) : Passes (L2N.CX X.prog X.w) X E := L2N.passes_call hs (fun _ _ _ _ h => h)
theorem pss_never {st : List Stmt} : PSs X st tNever := ⟨fun _ _ _ _ _ _ h => h.elim⟩
/-- X(e), an own class beneath a built-in one -/
theorem pmkN1 {D : Addr} {bmB : List Value} {B newId initId : String} {te : TE} (F : ExcBaseFacts B newId initId bmB) (q : PySem.W.excIn X.K D bmB newId = true) (gC : X.mg x = some (.ref D)) (kC : PySem.W.keepIn X.K (.ref D) = true) (r : Raises X (.ref D)) (hg : Gl X x) (he : PE X e te)
    (hs : starEach [e] X.env = (false, eval e X.env) :: starEach [] X.env := by rfl) (hdb : (x == ("__debug__" : Str)) = false := by decide) : L2N.PMk X (.Call (.Name x p) [e] [] pos) (fun σ H Q => te σ H fun _ H1 => Q (.ref D) none H1) := fun pins s σ H Q I h => by
  refine wpAny_Call_Name_kw (ld_glob I hg gC (PySem.W.callWith_K (h₀ := X.base) I.ok.mod.kin kC ?_ hs (by rfl)) hdb)
  rw [hs]
  refine Calls.spliced_cons (rest := backTo pos (starEach [] X.env)) (thn (he.run pins s σ H _ I h) fun u s1 ⟨v, H1, I1, rv, q1⟩ => Calls.spliced_nil ⟨I1.kIn, ?_⟩)
  obtain ⟨bm, N, nm, qn, bs, hdct, sn, sub, ab, col, dd, k0, k1, k2, k3, k5, mN, hC, hN, hni, T⟩ := exc_obj I1.kIn q
  exact wpAny_call_exc_subT (rest := [u]) F T hC hN hni (fun h' y hm => L2N.mk_of I1 hm r q1 (I1.hok.gone hm.new)) (by show 1 ≤ sizeLine; rw [sizeLine_eq]; omega)
/-- C(..) in the suite of a try -/
def tMakeS (C : Addr) (sp : Sp) (E : L2.St → XK) (t : TA) : TE := fun σ H Q => t σ H fun vs H1 => ∀ x dx, H1 x = none → H1 dx = none → dx ≠ x →
  sp (.ref x :: vs) (upd (upd H1 dx (.own x)) x (.ins C dx [])) (fun v H2 => v = .non ∧ Q (.ref x) H2) (E σ)
theorem pe_makeS (M : Mk X.K C f) (F : FnOk X.prog X.w X.K X.mg X.base CX k f fd ps sp) (hr : Room (k + 1) X.A) (hg : Gl X x) (hm : X.mg x = some (.ref C)) (hb : Binds X.K fd ps []) (hx : ∀ σ, PassesAt CX X σ (E σ)) (ha : PA X (e :: es) t)
    (hdb : (x == ("__debug__" : Str)) = false := by decide) (he : starEach (e :: es) X.env = (false, eval e X.env) :: starEach es X.env := by rfl) (hpl : (backTo pos (starEach es X.env)).any (·.1) = false := by rfl) :
    PE X (.Call (.Name x p) (e :: es) [] pos) (tMakeS C sp E t) := by
  refine ⟨fun pins s σ H Q I h => wpAny_Call_Name_kw (ld_glob I hg hm ?_ hdb)⟩
  refine PySem.W.callWith_K (h₀ := X.base) I.ok.mod.kin M.kp (thn (ha.run pos pins s σ H _ I h) fun us s1 ⟨vs, H1, I1, r, q⟩ => ⟨I1.kIn, ?_⟩) he hpl
  generalize en : s1.heap.objs.size = N
  have hq := q (N + 1) N (I1.hok.fresh (by rw [en]; exact Nat.le_succ _)) (I1.hok.fresh (Nat.le_of_eq en)) (Nat.ne_of_lt (Nat.lt_succ_self _))
  subst en
  have J := Inv.made (C := C) I1
  have r1 : Vals (V.ref (s1.heap.objs.size + 1) :: vs) (Value.ref (s1.heap.objs.size + 1) :: us) := .cons rfl r
  have hl : (Value.ref (s1.heap.objs.size + 1) :: us).length = ps.length := by
    rw [← r1.length]
    exact F.len _ _ _ _ hq
  have b := hb _ (Value.ref (s1.heap.objs.size + 1) :: us) J.kIn (by rw [List.append_nil]; exact hl)
  rw [List.append_nil] at b
  refine wpAny_call (make_map (f := f) I1.kIn M.makes M.init (beq_iff_eq.mp M.fn) (codeAny_mono (F.run _ X.stack _ _ ⟨Value.ref (s1.heap.objs.size + 1) :: us, []⟩ _ _ _ (E σ) (hr.make C us []) (J.env0.make C us []) b r1 hq) fun z s' hz => ?_))
  match z, hz with
  | .error er, hz => exact hx σ pins _ _ er s' J hz
  | .ok (.ret u), hz =>
    obtain ⟨v, H', J3, rv, ev, q3⟩ := J.after hz
    subst ev
    exact ⟨rv, ⟨V.ref (s1.heap.objs.size + 1), H', J3, rfl, q3⟩⟩
  | .ok .next, hz => exact False.elim hz
  | .ok .brk, hz => exact False.elim hz
  | .ok .cont, hz => exact False.elim hz
/-- o.m(..) in the suite of a try -/
def tMethS (C : Addr) (m : Str) (sp : Sp) (E : L2.St → XK) (ta : TE) (t : TA) : TE := fun σ H Q => ta σ H fun x H1 => ∃ a dx fs, x = .ref a ∧ H1 a = some (.ins C dx fs) ∧ fs.lookup m = none ∧
  t σ H1 fun vs H2 => sp (x :: vs) H2 Q (E σ)
theorem pe_methS {pl : Sem Bool} (ho : PE X o ta) (c : Cls X.K C) (hm : Meth X.K C m f) (F : FnOk X.prog X.w X.K X.mg X.base CX k f fd ps sp) (hr : Room k X.A) (hb : Binds X.K fd ps []) (hx : ∀ σ, PassesAt CX X σ (E σ)) (ha : PA X (e :: es) t)
    (hst : starEach (e :: es) X.env = (false, eval e X.env) :: starEach es X.env := by rfl) (hpl : (backTo pos (starEach es X.env)).any (·.1) = false := by rfl)
    (ht : eval (.Call (.Attribute o m apos) (e :: es) [] pos) X.env = (do
      let ov ← eval o X.env
      standAt apos.atName
      let (f, first) ← holding [ov] (getMethod ov m pl)
      callWith pos f first (backTo pos (starEach (e :: es) X.env)) (backToKw pos (keywordEach [] X.env))) := by rfl) :
    PE X (.Call (.Attribute o m apos) (e :: es) [] pos) (tMethS C m sp E ta t) := by
  refine ⟨fun pins s σ H Q I h => ?_⟩
  refine PySem.W.methodCall_KW (pl := pl) (thn (ho.run pins s σ H _ I h) fun u s1 ⟨x, H1, I1, rx, a, dx, fs, ex, ea, l, q⟩ => ?_) ht
  subst ex
  obtain rfl : u = Value.ref a := rx
  refine getmeth_ok I1 ea c hm l ?_
  refine PySem.W.callWith_K (first := [.ref a]) (h₀ := X.base) I.ok.mod.kin hm.kp (thn (ha.run pos pins s1 σ H1 _ I1 q) fun us s2 ⟨vs, H2, I2, r, q2⟩ => ⟨I2.kIn, ?_⟩) hst hpl
  exact run_fnS (us := .ref a :: us) (vs := .ref a :: vs) F hr hb (hx σ) I2 (.cons rfl r) q2
/-- f(.., k = v) in the suite of a try -/
def tCallNT (n m : Nat) (sp : Sp) (gV : List V → List V → List V) (E : L2.St → XK) (t tk : TA) : TE := fun σ H Q => t σ H fun vs H1 => tk σ H1 fun zs H2 => vs.length = n ∧ zs.length = m ∧ sp (gV vs zs) H2 Q (E σ)
theorem pe_callNT (F : FnOk X.prog X.w X.K X.mg X.base CX k f fd ps sp) (hr : Room k X.A) (hg : Gl X x) (hm : X.mg x = some (.ref f)) (hk : PySem.W.keepIn X.K (.ref f) = true) (hb : KBn X.K fd ps n ks g gV) (hx : ∀ σ, PassesAt CX X σ (E σ))
    (ha : PA X (e :: es) t) (hkw : PK X kws tk) (hall : (backToKw pos (keywordEach kws X.env)).all (·.1.isSome) = true := by rfl) (hks : (backToKw pos (keywordEach kws X.env)).filterMap (·.1) = ks := by rfl)
    (hdb : (x == ("__debug__" : Str)) = false := by decide) (he : starEach (e :: es) X.env = (false, eval e X.env) :: starEach es X.env := by rfl)
    (hpl : ((backTo pos (starEach (e :: es) X.env)).any (·.1) || (backToKw pos (keywordEach kws X.env)).any (·.1.isNone)) = false := by rfl) :
    PE X (.Call (.Name x p) (e :: es) kws pos) (tCallNT n ks.length sp gV E t tk) := by
  refine ⟨fun pins s σ H Q I h => ?_⟩
  refine wpAny_Call_Name_kw (ld_glob I hg hm ?_ hdb)
  refine PySem.W.callWith_KW (h₀ := X.base) I.ok.mod.kin hk hall (thn (ha.run pos pins s σ H _ I h) fun us s1 ⟨vs, H1, I1, r, q⟩ => ?_) hpl he
  refine thn (hkw.run pos pins s1 σ H1 _ I1 q) fun ws s2 ⟨zs, H2, I2, rz, l1, l2, q2⟩ => ⟨I2.kIn, ?_⟩
  rw [hks]
  refine wpAny_call (codeAny_mono (F.run X.A X.stack s2 H2 ⟨us, ks.zip ws⟩ (g us ws) (gV vs zs) Q (E σ) hr I2.env0 (hb.to s2 us ws I2.kIn (r.length.symm.trans l1) (rz.length.symm.trans l2)) (hb.rel r rz) q2) fun z s' hz => ?_)
  match z, hz with
  | .error er, hz => exact hx σ pins _ _ er s' I2 hz
  | .ok (.ret u), hz => exact I2.after hz
  | .ok .next, hz => exact False.elim hz
  | .ok .brk, hz => exact False.elim hz
  | .ok .cont, hz => exact False.elim hz
end
end Onc

namespace Onc
open PySem PySem.Spec PyProof.Rows L2 Evl
/-! ### str(n) of a great int: the interpreter's own statics tell no limit of digits -/
def NoDigK (K : PySem.W.Frag) : Prop := ∀ h : Heap, K.In h → h.NoDigits
def strKeyB (e : DictEntry) : Bool := match e.key with
  | .str _ _ => true
  | _ => false
def noDigB (K : PySem.W.Frag) : Bool := match K.lookup cStatics with
  | some ⟨_, _, .dict es _, _⟩ => es.toList.all strKeyB && (nsFind es "sys.int_max_str_digits").isNone
  | _ => false
theorem noDigB_ok {K : PySem.W.Frag} (h : noDigB K = true) : NoDigK K := fun hp hK => by
  unfold noDigB at h
  split at h
  · rename_i c od es n sl q
    obtain ⟨h1, h2⟩ := Bool.and_eq_true_iff.mp h
    refine ⟨nsFind es, ⟨_, es, n, hK _ _ q, rfl, ?_, fun _ => rfl⟩, ?_⟩
    · intro e he
      have := List.all_eq_true.mp h1 e (Array.mem_toList_iff.mpr he)
      unfold strKeyB at this
      split at this
      · rename_i x t hx
        exact ⟨x, t, hx⟩
      · cases this
    · cases hf : nsFind es "sys.int_max_str_digits" with
      | none => rfl
      | some v =>
        rw [hf] at h2
        cases h2
  · cases h
theorem ten_ge : (2 : Nat) ^ 12000 ≤ 10 ^ 4300 := by decide +kernel
theorem call_strW {X : Cx} (hc : X.calm = true) (hd : NoDigK X.K) : CallR X (.type "str") (fun xs H Q => ∃ i : Int, xs = [.int i] ∧ i.natAbs < 2 ^ 12000 ∧ Q (.str (PySem.Str.ofString (toString i))) H) := by
  intro pins s σ H xs us Q I r h
  obtain ⟨i, rfl, hz, q⟩ := h
  obtain ⟨u, rfl, t, rfl⟩ := vals1 r
  have lt := Nat.lt_of_lt_of_le hz ten_ge
  exact str_of_int_or (I.ok.hd hc) (hd _ I.kIn) (fun _ => ⟨.str _, H, I.tok _, ⟨_, rfl⟩, q⟩) (fun ge => absurd (Nat.lt_of_lt_of_le lt ge) (Nat.lt_irrefl _))
/-! ### the head's Hook with the statics in its fragment -/
def asY (g : Addr → Option Obj) (n : Nat) : List Addr := He.asD g n ++ [cStatics]
def obsY (n : Nat) (fa : List He.Fa) (fn : List He.DefD) (ts : List He.Tab) (ex : PySem.W.Frag → Bool) (g : Addr → Option Obj) : He.AlX := (He.obsT fa fn ts (He.frT g (asY g n)), ex (He.frT g (asY g n)))
def hookY (n : Nat) (fa : List He.Fa) (fn : List He.DefD) (ts : List He.Tab) (ex : PySem.W.Frag → Bool) : PySem.W.Hook where
  α := He.AlX
  obs := fun s => obsY n fa fn ts ex s.heap.get?
  val := fun w => He.valX fn ts w
  says := fun w h => ∃ K : PySem.W.Frag, K.In h ∧ He.SaysX fa fn ts [] ex w h K
  of := fun _ _ e => ⟨_, He.frT_in, congrArg (fun z : He.AlX => z.1) e, congrArg (fun z : He.AlX => z.2) e, (fun p hp => by cases hp), (fun p hp => by cases hp), (fun p hp => by cases hp)⟩
  keeps := fun _ _ _ ⟨K, hK, c⟩ k => ⟨K, PySem.W.Frag.In.keeps hK k, ⟨c.t, c.more, c.hd, c.out, fun p hp => by cases hp⟩⟩
theorem obsY_eq {n : Nat} {fa : List He.Fa} {fn : List He.DefD} {ts : List He.Tab} {ex : PySem.W.Frag → Bool} {g : Addr → Option Obj} {s : Shared} (h : ∀ a, g a = s.heap.get? a) : obsY n fa fn ts ex g = (hookY n fa fn ts ex).obs s := by
  have e : g = s.heap.get? := funext h
  rw [e]
  rfl
end Onc

namespace Onc
open PySem PySem.Spec PyProof.Rows L2 Evl
/-! ### decimal figures, as lists of code points -/
def dig (n : Nat) : List Nat := (Nat.toDigits 10 n).map Char.toNat
def pad : Nat → Nat → List Nat
  | 0, _ => []
  | k + 1, n => pad k (n / 10) ++ [48 + n % 10]
def val (l : List Nat) : Nat := l.foldl (fun acc c => acc * 10 + (c - 48)) 0
def Fig (l : List Nat) : Prop := ∀ c ∈ l, 48 ≤ c ∧ c ≤ 57
theorem digc : ∀ n : Nat, n < 10 → (Nat.digitChar n).toNat = 48 + n := by decide
theorem dig_lt {n : Nat} (h : n < 10) : dig n = [48 + n] := by
  unfold dig
  rw [Nat.toDigits_of_lt_base h, List.map_cons, List.map_nil, digc n h]
theorem dig_step {n : Nat} (h : 10 ≤ n) : dig n = dig (n / 10) ++ [48 + n % 10] := by
  unfold dig
  rw [Nat.toDigits_of_base_le (by decide) h, List.map_append, List.map_cons, List.map_nil, digc _ (Nat.mod_lt n (by decide))]
theorem pad_len : ∀ k n, (pad k n).length = k
  | 0, _ => rfl
  | k + 1, n => by
    show (pad k (n / 10) ++ [48 + n % 10]).length = k + 1
    rw [List.length_append, pad_len k (n / 10)]
    rfl
theorem pad_fig : ∀ k n, Fig (pad k n)
  | 0, _ => fun c h => by cases h
  | k + 1, n => fun c h => by
    rcases List.mem_append.mp h with h | h
    · exact pad_fig k (n / 10) c h
    · have := List.mem_singleton.mp h
      omega
theorem val_snoc (l : List Nat) (c : Nat) : val (l ++ [c]) = val l * 10 + (c - 48) := by
  unfold val
  rw [List.foldl_append]
  rfl
theorem fold_acc : ∀ (b : List Nat) (x : Nat), b.foldl (fun acc c => acc * 10 + (c - 48)) x = x * 10 ^ b.length + b.foldl (fun acc c => acc * 10 + (c - 48)) 0
  | [], x => by simp
  | c :: b, x => by
    rw [List.foldl_cons, List.foldl_cons, fold_acc b (x * 10 + (c - 48)), fold_acc b (0 * 10 + (c - 48)), List.length_cons, Nat.pow_succ, Nat.zero_mul, Nat.zero_add, Nat.add_mul, Nat.mul_assoc x 10, Nat.mul_comm 10 (10 ^ b.length)]
    omega
theorem val_app (a b : List Nat) : val (a ++ b) = val a * 10 ^ b.length + val b := by
  show (a ++ b).foldl _ 0 = _
  rw [List.foldl_append, fold_acc b]
  rfl
theorem val_pad : ∀ k n, n < 10 ^ k → val (pad k n) = n
  | 0, n, h => by
    rw [Nat.pow_zero] at h
    have : n = 0 := by omega
    rw [this]
    rfl
  | k + 1, n, h => by
    rw [Nat.pow_succ] at h
    show val (pad k (n / 10) ++ [48 + n % 10]) = n
    rw [val_snoc, val_pad k (n / 10) (by omega)]
    omega
theorem dig_split : ∀ k n, 10 ^ k ≤ n → dig n = dig (n / 10 ^ k) ++ pad k (n % 10 ^ k)
  | 0, n, _ => by
    rw [Nat.pow_zero, Nat.div_one]
    show dig n = dig n ++ []
    rw [List.append_nil]
  | k + 1, n, h => by
    have p : 0 < 10 ^ k := Nat.pow_pos (by decide)
    rw [Nat.pow_succ] at h ⊢
    have h10 : 10 ≤ n := by omega
    rw [dig_step h10, dig_split k (n / 10) (by omega), Nat.div_div_eq_div_mul, Nat.mul_comm 10, List.append_assoc]
    have e1 : n % (10 ^ k * 10) / 10 = n / 10 % 10 ^ k := by
      rw [Nat.mul_comm, Nat.mod_mul_right_div_self]
    have e2 : n % (10 ^ k * 10) % 10 = n % 10 := Nat.mod_mul_left_mod n (10 ^ k) 10
    show _ = dig (n / (10 ^ k * 10)) ++ (pad k (n % (10 ^ k * 10) / 10) ++ [48 + n % (10 ^ k * 10) % 10])
    rw [e1, e2]
theorem dig_pos (n : Nat) : 0 < (dig n).length := by
  by_cases h : n < 10
  · rw [dig_lt h]
    exact Nat.one_pos
  · rw [dig_step (by omega), List.length_append]
    exact Nat.lt_of_lt_of_le Nat.one_pos (Nat.le_add_left _ _)
/-- filled with noughts on the left -/
theorem pad_zeros : ∀ k n, n < 10 ^ (k + 1) → (dig n).length ≤ k + 1 ∧ pad (k + 1) n = List.replicate (k + 1 - (dig n).length) 48 ++ dig n
  | 0, n, h => by
    have h : n < 10 := h
    rw [dig_lt h]
    refine ⟨Nat.le_refl 1, ?_⟩
    show [] ++ [48 + n % 10] = [] ++ [48 + n]
    rw [Nat.mod_eq_of_lt h]
  | k + 1, n, h => by
    by_cases h10 : n < 10
    · rw [dig_lt h10]
      refine ⟨Nat.succ_le_succ (Nat.zero_le _), ?_⟩
      have e0 : n / 10 = 0 := Nat.div_eq_of_lt h10
      have ih := (pad_zeros k 0 (Nat.pow_pos (by decide))).2
      show pad (k + 1) (n / 10) ++ [48 + n % 10] = List.replicate (k + 1) 48 ++ [48 + n]
      rw [e0, ih, dig_lt (by decide), Nat.mod_eq_of_lt h10]
      have e : List.replicate (k + 1) 48 = List.replicate k 48 ++ [48] := List.replicate_succ'
      rw [e]
      rfl
    · have hq : n / 10 < 10 ^ (k + 1) := by
        rw [Nat.pow_succ] at h
        omega
      obtain ⟨h1, h2⟩ := pad_zeros k (n / 10) hq
      rw [dig_step (by omega)]
      constructor
      · rw [List.length_append, List.length_singleton]
        omega
      · show pad (k + 1) (n / 10) ++ [48 + n % 10] = _
        rw [h2, List.length_append, List.length_singleton, ← List.append_assoc, show k + 1 + 1 - ((dig (n / 10)).length + 1) = k + 1 - (dig (n / 10)).length by omega]
theorem dig_fig (n : Nat) : Fig (dig n) := by
  induction n using Nat.strongRecOn with
  | ind n ih =>
    intro c hc
    by_cases h : n < 10
    · rw [dig_lt h] at hc
      have := List.mem_singleton.mp hc
      omega
    · rw [dig_step (by omega)] at hc
      rcases List.mem_append.mp hc with z | z
      · exact ih (n / 10) (by omega) c z
      · have := List.mem_singleton.mp z
        omega
theorem val_dig (n : Nat) : val (dig n) = n := by
  induction n using Nat.strongRecOn with
  | ind n ih =>
    by_cases h : n < 10
    · rw [dig_lt h]
      show 0 * 10 + (48 + n - 48) = n
      omega
    · rw [dig_step (by omega), val_snoc, ih (n / 10) (by omega)]
      omega
/-- no nought ahead -/
theorem dig_head {n : Nat} (h : 0 < n) : ∃ c r, dig n = c :: r ∧ 49 ≤ c ∧ c ≤ 57 := by
  induction n using Nat.strongRecOn with
  | ind n ih =>
    by_cases h10 : n < 10
    · exact ⟨48 + n, [], dig_lt h10, by omega, by omega⟩
    · obtain ⟨c, r, e, h1, h2⟩ := ih (n / 10) (by omega) (by omega)
      exact ⟨c, r ++ [48 + n % 10], by rw [dig_step (by omega), e]; rfl, h1, h2⟩
theorem dig_zero : dig 0 = [48] := dig_lt (by decide)
theorem dig_len {k n : Nat} (h : n < 10 ^ (k + 1)) : (dig n).length ≤ k + 1 := (pad_zeros k n h).1
theorem dig_len_lt {k n : Nat} (h : 10 ^ k ≤ n) : k < (dig n).length := by
  rw [dig_split k n h, List.length_append, pad_len]
  have := dig_pos (n / 10 ^ k)
  omega
/-- the text behind a dot: before and behind of N, k signs behind -/
def bef (N k : Nat) : List Nat := dig (N / 10 ^ k)
def beh (N k : Nat) : List Nat := pad k (N % 10 ^ k)
theorem fig_split (N k : Nat) : List.replicate (k + 1 - (dig N).length) 48 ++ dig N = bef N k ++ beh N k := by
  unfold bef beh
  by_cases h : 10 ^ k ≤ N
  · have := dig_len_lt h
    rw [show k + 1 - (dig N).length = 0 by omega, ← dig_split k N h]
    rfl
  · have hk : N < 10 ^ k := by omega
    have p : 10 ^ k ≤ 10 ^ (k + 1) := Nat.pow_le_pow_right (by decide) (by omega)
    rw [← (pad_zeros k N (by omega)).2, Nat.div_eq_of_lt hk, Nat.mod_eq_of_lt hk, dig_zero]
    show pad (k + 1) N = 48 :: pad k N
    have e : ∀ k N, N < 10 ^ k → pad (k + 1) N = 48 :: pad k N := by
      intro k
      induction k with
      | zero =>
        intro N h
        have : N = 0 := by simpa using h
        subst this
        rfl
      | succ k ih =>
        intro N h
        have : N / 10 < 10 ^ k := by
          rw [Nat.pow_succ] at h
          omega
        show pad (k + 1) (N / 10) ++ [48 + N % 10] = 48 :: (pad k (N / 10) ++ [48 + N % 10])
        rw [ih (N / 10) this]
        rfl
    exact e k N hk
theorem val_bb (N k : Nat) : val (bef N k ++ beh N k) = N := by
  unfold bef beh
  rw [val_app, val_dig, val_pad k _ (Nat.mod_lt _ (Nat.pow_pos (by decide))), pad_len]
  exact Nat.div_add_mod' N (10 ^ k)
/-! ### the texts of ints -/
def cod (i : Int) : List Nat := if i < 0 then 45 :: dig i.natAbs else dig i.natAbs
theorem ts_nat (m : Nat) : PySem.Str.ofString (toString (m : Int)) = SX.S (dig m) := by
  refine TL.ext_tl ?_
  exact PySem.W.KIN.signs_num m
theorem ts_cod (i : Int) : PySem.Str.ofString (toString i) = SX.S (cod i) := by
  unfold cod
  cases i with
  | ofNat m => exact ts_nat m
  | negSucc m =>
    rw [if_pos (Int.negSucc_lt_zero m)]
    refine TL.ext_tl ?_
    have h := PySem.W.KIN.signs_num (m + 1)
    show (PySem.Str.ofString (toString (Int.negSucc m))).cps.toList = 45 :: dig (m + 1)
    have e : toString (Int.negSucc m) = "-" ++ toString (((m + 1 : Nat)) : Int) := rfl
    rw [e, signs_ofString, String.toList_append, List.map_append, ← signs_ofString (toString (((m + 1 : Nat)) : Int)), h]
    rfl
theorem fig_all {l : List Nat} (h : Fig l) : l.all (fun c => decide (48 ≤ c) && decide (c ≤ 57)) = true := List.all_eq_true.mpr fun c hc => by
  obtain ⟨h1, h2⟩ := h c hc
  rw [decide_eq_true h1, decide_eq_true h2]
  rfl
/-! ### methods of texts, by lists -/
theorem zfill_S {l : List Nat} {k : Nat} (hl : Fig l) (hne : l ≠ []) : Txt.zfill (SX.S l) (k : Int) = SX.S (List.replicate (k - l.length) 48 ++ l) := by
  unfold Txt.zfill
  rw [SX.S_len]
  by_cases h : (k : Int) ≤ (l.length : Int)
  · rw [if_pos h, show k - l.length = 0 by omega]
    rfl
  · rw [if_neg h, Int.toNat_natCast]
    cases l with
    | nil => exact absurd rfl hne
    | cons c r =>
      have hc := hl c List.mem_cons_self
      have e0 : (SX.S (c :: r)).cps[0]? = some c := rfl
      have e : zfilled (SX.S (c :: r)) (k - (c :: r).length) = Builtin.Str.padded (SX.S (c :: r)) (k - (c :: r).length) 0 48 := by
        unfold zfilled
        rw [e0]
        split
        · rename_i h1
          have := Option.some.inj h1
          omega
        · rename_i h1
          have := Option.some.inj h1
          omega
        · rfl
      rw [e]
      refine TL.ext_tl ?_
      show (Array.replicate (k - (c :: r).length) 48 ++ (c :: r).toArray ++ Array.replicate 0 48).toList = List.replicate (k - (c :: r).length) 48 ++ (c :: r)
      simp
theorem isdig_u : ∀ c : Nat, 48 ≤ c ∧ c ≤ 57 → Unicode.isDigit c = true := by
  have k : ∀ n : _root_.Fin 58, 48 ≤ n.val → Unicode.isDigit n.val = true := by decide +kernel
  exact fun c h => k ⟨c, by omega⟩ h.1
theorem isdigit_S {l : List Nat} (h : Fig l) (hne : l ≠ []) : Txt.isdigit (SX.S l) = true := by
  unfold Txt.isdigit
  rw [SX.S_len]
  refine Bool.and_eq_true_iff.mpr ⟨decide_eq_true (List.length_pos_iff.mpr hne), ?_⟩
  rw [← Array.all_toList]
  exact List.all_eq_true.mpr fun c hc => isdig_u c (h c hc)
theorem isascii_S {l : List Nat} (h : Fig l) : Txt.isascii (SX.S l) = true := by
  unfold Txt.isascii
  rw [← Array.all_toList]
  exact List.all_eq_true.mpr fun c hc => decide_eq_true (by have := h c hc; omega)
theorem subAt_S (l : List Nat) (c : Nat) : Builtin.Str.subAt (SX.S l) (SX.S [c]) 0 = decide (l.head? = some c) := by
  unfold Builtin.Str.subAt
  cases l with
  | nil => rfl
  | cons d r =>
    have e : (SX.S (d :: r)).cps.extract 0 (0 + (SX.S [c]).length) = #[d] := by simp [SX.S, Str.length]
    rw [e]
    show (#[d] == #[c]) = decide (some d = some c)
    by_cases h : d = c
    · subst h
      rw [decide_eq_true rfl]
      exact beq_self_eq_true _
    · rw [decide_eq_false (fun z => h (Option.some.inj z))]
      exact beq_eq_false_iff_ne.mpr fun z => h (List.cons.inj (congrArg Array.toList z)).1
theorem starts_S (l : List Nat) (c : Nat) : Txt.startswith (SX.S l) (SX.S [c]) = decide (l.head? = some c) := by
  unfold Txt.startswith
  rw [subAt_S, SX.S_len, SX.S_len]
  cases l with
  | nil => rfl
  | cons d r =>
    have e : decide (0 + [c].length ≤ (d :: r).length) = true := decide_eq_true (by show 0 + 1 ≤ r.length + 1; omega)
    rw [e, Bool.true_and]
theorem unprefix_S (l : List Nat) (c : Nat) : Txt.removeprefix (SX.S l) (SX.S [c]) = SX.S (if l.head? = some c then l.tail else l) := by
  unfold Txt.removeprefix
  rw [subAt_S, SX.S_len, SX.S_len]
  by_cases h : l.head? = some c
  · rw [decide_eq_true h, if_pos rfl, if_pos h]
    cases l with
    | nil => cases h
    | cons d r =>
      show (if ((r.length + 1 - 1 == (SX.S (d :: r)).length) = true) then _ else _) = _
      rw [if_neg (by rw [SX.S_len]; show ¬ (r.length + 1 - 1 == r.length + 1) = true; simp)]
      refine TL.ext_tl ?_
      show ((d :: r).toArray.extract 1 (r.length + 1)).toList = r
      simp
  · rw [decide_eq_false h, if_neg (by decide), if_neg h]
    rfl
theorem rep_fold (c : Nat) : ∀ (k : Nat) (a : Array Nat), ((List.replicate k #[c]).foldl (· ++ ·) a).toList = a.toList ++ List.replicate k c
  | 0, a => by simp
  | k + 1, a => by
    rw [List.replicate_succ, List.foldl_cons, rep_fold c k, Array.toList_append, List.replicate_succ, List.append_assoc]
    rfl
/-- a text of one sign, so many times -/
def rSign : R2 := fun x y H Q => ∃ (c : Nat) (i : Int), x = .str (SX.S [c]) ∧ y = .int i ∧ i.natAbs ≤ 100000 ∧ Q (.str (SX.S (List.replicate i.toNat c))) H
theorem op_mulSign {X : Cx} : OpR X (binaryOp .Mult) rSign := by
  intro pins s σ H x y v u Q I rx ry h
  obtain ⟨c, i, rfl, rfl, hi, q⟩ := h
  obtain ⟨t, rfl⟩ := rx
  obtain ⟨t', rfl⟩ := ry
  have l1 : (SX.S [c]).length = 1 := SX.S_len [c]
  refine PySem.P.mul_str (by rw [decide_eq_false (by omega), decide_eq_false (by omega)]; rfl) (fun h1 h2 => ?_) (fun h1 h2 => ?_) ?_
  · rw [l1]
    have hi1 : 1 ≤ i := by omega
    have : (1 : Int) ≤ (2 ^ 63 - 1) / i := by
      have : (1 : Int) * i ≤ 2 ^ 63 - 1 := by omega
      exact (Int.le_ediv_iff_mul_le (by omega)).mpr this
    show ¬ ((1 : Nat) : Int) > _
    omega
  · rw [l1, Nat.one_mul]
    exact short24 (by omega)
  · by_cases h1 : i < 1
    · rw [if_pos h1]
      rw [show i.toNat = 0 by omega] at q
      exact ⟨by decide, .str _, H, I.tok _, ⟨_, rfl⟩, q⟩
    · rw [if_neg h1]
      by_cases h2 : i = 1
      · subst h2
        rw [if_pos (show (((1 : Int) == 1 || (SX.S [c]).length == 0) = true) by rw [beq_self_eq_true, Bool.true_or])]
        exact ⟨.str (SX.S [c]), H, I, ⟨_, rfl⟩, q⟩
      · have e : (i == 1 || (SX.S [c]).length == 0) = false := by
          rw [l1, beq_eq_false_iff_ne.mpr h2]
          rfl
        rw [if_neg (by rw [e]; decide)]
        have ex : (⟨(List.replicate i.toNat (SX.S [c]).cps).foldl (· ++ ·) #[]⟩ : Str) = SX.S (List.replicate i.toNat c) := TL.ext_tl (rep_fold c i.toNat #[])
        rw [ex]
        exact ⟨by rw [SX.S_len, List.length_replicate, sizeLine_eq]; omega, .str _, H, I.tok _, ⟨_, rfl⟩, q⟩
end Onc

namespace Onc
open PySem PySem.Spec PyProof.Rows L2 Evl
/-! ### any text, read as a number -/
def isF (c : Nat) : Bool := decide (48 ≤ c) && decide (c ≤ 57)
theorem isF_iff {c : Nat} : isF c = true ↔ 48 ≤ c ∧ c ≤ 57 := by
  unfold isF
  rw [Bool.and_eq_true, decide_eq_true_iff, decide_eq_true_iff]
def figB (l : List Nat) : Bool := !l.isEmpty && l.all isF
theorem all_fig {l : List Nat} : l.all isF = true ↔ Fig l := by
  rw [List.all_eq_true]
  exact ⟨fun h c hc => isF_iff.mp (h c hc), fun h c hc => isF_iff.mpr (h c hc)⟩
theorem figB_iff {l : List Nat} : figB l = true ↔ l ≠ [] ∧ Fig l := by
  unfold figB
  rw [Bool.and_eq_true, all_fig]
  cases l <;> simp
def sizB (l : List Nat) : Bool := figB l && (decide (l = [48]) || !decide (l.head? = some 48))
theorem sizB_fig {l : List Nat} (h : sizB l = true) : l ≠ [] ∧ Fig l := figB_iff.mp (Bool.and_eq_true_iff.mp h).1
def strM (l : List Nat) : List Nat := if l.head? = some 45 then l.tail else l
def sgnB (l : List Nat) : Bool := decide (l.head? = some 45)
def sgI (sg : Bool) (M : Nat) : Int := if sg = true then -(M : Int) else (M : Int)
def wholeO (l : List Nat) : Option Int := if sizB (strM l) = true ∧ l ≠ [45, 48] then some (sgI (sgnB l) (val (strM l))) else none
def cutS (c : Nat) (l : List Nat) : List Nat × Bool × List Nat := match TL.par [c] [] l with
  | none => (l, false, [])
  | some (p, q) => (p, true, q)
theorem cut_no {c : Nat} {l : List Nat} (h : c ∉ l) : cutS c l = (l, false, []) := by
  unfold cutS
  rw [SX.par_head_none (sep := []) h]
theorem cut_yes {c : Nat} {p q : List Nat} (h : c ∉ p) : cutS c (p ++ c :: q) = (p, true, q) := by
  unfold cutS
  rw [show p ++ c :: q = p ++ ([c] ++ q) from rfl, SX.par_head (sep := []) q h]
theorem cut_cases (c : Nat) (l : List Nat) : c ∉ l ∨ ∃ p q, l = p ++ c :: q ∧ c ∉ p := by
  by_cases h : c ∈ l
  · obtain ⟨p, q, e, hn⟩ := List.eq_append_cons_of_mem h
    exact .inr ⟨p, q, e, hn⟩
  · exact .inl h
theorem part_cut (c : Nat) (l : List Nat) : Txt.partition (SX.S l) (SX.S [c]) = (SX.S (cutS c l).1, SX.S (if (cutS c l).2.1 = true then [c] else []), SX.S (cutS c l).2.2) := by
  rcases cut_cases c l with h | ⟨p, q, rfl, h⟩
  · rw [cut_no h]
    exact SX.partition_none (List.cons_ne_nil _ _) (SX.par_head_none h)
  · rw [cut_yes h]
    exact SX.partition_some (List.cons_ne_nil _ _) (SX.par_head (sep := []) q h)
theorem spl_no {c : Nat} {l : List Nat} (h : c ∉ l) : TL.spl [c] 0 [] l = [l] := TL.spl_last1 h
theorem spl_yes {c : Nat} {p q : List Nat} (h : c ∉ p) : TL.spl [c] 0 [] (p ++ c :: q) = p :: TL.spl [c] 0 [] q := TL.spl_part1 (S := []) (acc := []) h
theorem spl_ne (c : Nat) (l : List Nat) : 1 ≤ (TL.spl [c] 0 [] l).length := by
  rcases cut_cases c l with h | ⟨p, q, rfl, h⟩
  · rw [spl_no h]
    exact Nat.le_refl 1
  · rw [spl_yes h, List.length_cons]
    omega
theorem spl_two {c : Nat} {l : List Nat} (h : c ∈ l) : 2 ≤ (TL.spl [c] 0 [] l).length := by
  rcases cut_cases c l with h2 | ⟨p, q, rfl, h2⟩
  · exact absurd h h2
  · rw [spl_yes h2, List.length_cons]
    have := spl_ne c q
    omega
theorem cut_len (c : Nat) (l : List Nat) : (cutS c l).1.length ≤ l.length ∧ (cutS c l).2.2.length ≤ l.length ∧ (cutS c l).1.length + (cutS c l).2.2.length ≤ l.length := by
  rcases cut_cases c l with h | ⟨p, q, rfl, h⟩
  · rw [cut_no h]
    exact ⟨Nat.le_refl _, Nat.zero_le _, Nat.le_refl _⟩
  · rw [cut_yes h, List.length_append, List.length_cons]
    dsimp only
    omega
theorem strM_len (l : List Nat) : (strM l).length ≤ l.length := by
  unfold strM
  split
  · rw [List.length_tail]
    omega
  · exact Nat.le_refl _
theorem cut_dot (c : Nat) (l : List Nat) : (cutS c l).2.1 = false → (cutS c l).2.2 = [] := by
  rcases cut_cases c l with h | ⟨p, q, rfl, h⟩
  · rw [cut_no h]
    exact fun _ => rfl
  · rw [cut_yes h]
    exact fun z => by cases z
def rnO (l : List Nat) : Option (Int × Int) := match wholeO (cutS 112 l).1, wholeO (cutS 112 l).2.2 with
  | some m, some e => if isNumB m e = true then some (m, e) else none
  | _, _ => none
def finO (sg : Bool) (N k : Nat) : Option (Int × Int) := if N % 5 ^ k ≠ 0 ∨ (sg = true ∧ N = 0) then none else some (nrm (sgI sg (N / 5 ^ k)) (-(k : Int)))
def rdO (l : List Nat) : Option (Int × Int) := if 300 < l.length ∨ sizB (cutS 46 (strM l)).1 = false ∨ ((cutS 46 (strM l)).2.1 = true ∧ figB (cutS 46 (strM l)).2.2 = false) then none
  else finO (sgnB l) (val ((cutS 46 (strM l)).1 ++ (cutS 46 (strM l)).2.2)) (cutS 46 (strM l)).2.2.length
theorem whole_signs {l : List Nat} {i : Int} (h : wholeO l = some i) : ∀ c ∈ l, c = 45 ∨ (48 ≤ c ∧ c ≤ 57) := by
  unfold wholeO at h
  split at h
  · rename_i h2
    have hf := (sizB_fig h2.1).2
    intro c hc
    unfold strM at hf
    split at hf
    · cases l with
      | nil => cases hc
      | cons d r =>
        rename_i h3
        have e := Option.some.inj h3
        rcases List.mem_cons.mp hc with y | y
        · exact .inl (y.trans e)
        · exact .inr (hf c y)
    · exact .inr (hf c hc)
  · cases h
theorem whole_no {c : Nat} {l : List Nat} (hc : c ≠ 45 ∧ ¬ (48 ≤ c ∧ c ≤ 57)) (h : c ∈ l) : wholeO l = none := by
  cases hw : wholeO l with
  | none => rfl
  | some i =>
    rcases whole_signs hw c h with y | y
    · exact absurd y hc.1
    · exact absurd y hc.2
theorem whole_nil : wholeO [] = none := by decide
theorem fig_no {c : Nat} {l : List Nat} (hc : ¬ (48 ≤ c ∧ c ≤ 57)) (h : c ∈ l) : figB l = false := by
  cases hf : figB l with
  | false => rfl
  | true => exact absurd ((figB_iff.mp hf).2 c h) hc
/-! ### methods of any text -/
theorem isascii_any (l : List Nat) : Txt.isascii (SX.S l) = l.all (fun c => decide (c < 128)) := by
  unfold Txt.isascii
  rw [← Array.all_toList]
theorem isdig_all : ∀ c : Nat, c < 128 → Unicode.isDigit c = isF c := by
  have k : ∀ n : _root_.Fin 128, Unicode.isDigit n.val = isF n.val := by decide +kernel
  exact fun c h => k ⟨c, h⟩
theorem isdigit_any {l : List Nat} (h : l.all (fun c => decide (c < 128)) = true) : Txt.isdigit (SX.S l) = figB l := by
  unfold Txt.isdigit figB
  rw [SX.S_len, ← Array.all_toList]
  have e : (SX.S l).cps.toList.all Unicode.isDigit = l.all isF := by
    show l.all Unicode.isDigit = l.all isF
    have hh := List.all_eq_true.mp h
    clear h
    induction l with
    | nil => rfl
    | cons c r ih =>
      rw [List.all_cons, List.all_cons, ih (fun x hx => hh x (List.mem_cons_of_mem _ hx)), isdig_all c (of_decide_eq_true (hh c List.mem_cons_self))]
  rw [e]
  cases l <;> rfl
theorem fig_ascii {l : List Nat} (h : figB l = true) : l.all (fun c => decide (c < 128)) = true := List.all_eq_true.mpr fun c hc => decide_eq_true (by have := (figB_iff.mp h).2 c hc; omega)
theorem S_eq (a b : List Nat) : decide (V.str (SX.S a) = V.str (SX.S b)) = decide (a = b) := by
  by_cases h : a = b
  · rw [h, decide_eq_true rfl, decide_eq_true rfl]
  · rw [decide_eq_false h]
    exact decide_eq_false fun z => h (SX.S_inj (V.str.inj z))
/-! ### a comprehension over a text -/
section
variable {K : PySem.W.Frag} {σ : L2.St} {H : Hp} {te tl : TE}
theorem el_lcS {l : List Nat} {j : Nat} {vs : List Nat} (v : Nat → V) (h : Ev tl σ H (.str (SX.S l))) (hz : l.length ≤ 40000) (hw : ∀ x, wipe ((wipe σ vs).set j (some x)) vs = wipe σ vs)
    (he : ∀ (c : Nat) H1, Ex H H1 → c ∈ l → Ev te ((wipe σ vs).set j (some (.str (SX.S [c])))) H1 (v c)) : EvL (tLc (iStr tl) (gName j) tYes te vs) σ H (l.map v) := fun H0 e Q q => h H0 e _ fun H1 e1 => ⟨SX.S l, rfl, fun D hD => by
  refine ⟨fun i m H' => m = l.length - i ∧ i ≤ l.length ∧ Ex H1 H' ∧ H' D = some (.lst ((l.take i).map v)), ⟨l.length, by omega, Nat.zero_le _, Ex.new hD, upd_same⟩, fun i m H' ⟨hm, hi, x1, hd⟩ => ?_⟩
  by_cases hlt : i < l.length
  · refine .inr ⟨?_, fun H2 => i + 1 ≤ l.length ∧ Ex H1 H2 ∧ H2 D = some (.lst ((l.take (i + 1)).map v)), fun H2 ⟨a, b, c⟩ => ⟨l.length - (i + 1), by omega, rfl, a, b, c⟩, fun x H2 hy => ?_⟩
    · show i < (SX.S l).cps.size
      simpa [SX.S] using hlt
    · obtain ⟨rfl, c, hc, rfl⟩ := hy
      have hc' : l[i]? = some c := by simpa [SX.S] using hc
      refine ⟨hw _, o_yes (iteT ?_)⟩
      refine he c H2 ((e.trans e1).trans x1) (List.mem_of_getElem? hc') H2 (Ex.refl H2) _ fun H3 e3 => ⟨_, e3 _ _ hd, ?_, hlt, Ex.mut (x1.trans e3) hD, ?_⟩
      · exact sz_lt (by rw [List.length_map, List.length_take]; omega)
      · rw [upd_same, List.take_succ, hc', Option.toList_some, List.map_append]
        rfl
  · refine .inl ⟨?_, ?_⟩
    · show (SX.S l).cps.size ≤ i
      simp [SX.S]
      omega
    · rw [List.take_of_length_le (by omega)] at hd
      exact q D H' (fresh_back e1 hD) (e1.trans x1) hd⟩
end
end Onc

namespace Onc
open PySem PySem.Spec PyProof.Rows L2 Evl
def topS (i : Nat) : Stmt := PySem.Challenge.pw_oncenear_k81_whole_texts_of_numbers_bent.main.body.getD i (.Pass ⟨0, 0, 0, 0⟩)
structure Top (mg : Str → Option Value) : Prop where
  isinstance : mg "isinstance" = none
  len : mg "len" = none
  range : mg "range" = none
  ty_int : mg "int" = none
  ty_bool : mg "bool" = none
  ty_tuple : mg "tuple" = none
  ty_str : mg "str" = none
  min : mg "min" = none
  max : mg "max" = none
  abs : mg "abs" = none
  all : mg "all" = none
abbrev FnP (K : PySem.W.Frag) (x : Str) (st : Stmt) (f : Addr) (fd : FuncData) : Prop := FunD K x x (defArgs st) (defBody st) (defScope st) [] [] f fd
/-! ### promises -/
def spWhole (K : PySem.W.Frag) : Sp := fun vs H Q _ => ∃ v b, vs = [v] ∧ WholeIs K H v b ∧ Q (.bl b) H
def spNum (K : PySem.W.Frag) : Sp := fun vs H Q _ => ∃ v b, vs = [v] ∧ NumIs K H v b ∧ ∀ H', Ex H H' → Q (.bl b) H'
def spNof : Sp := fun vs H Q _ => ∃ m e : Int, vs = [.int m, .int e] ∧ ∀ H' p, Ex H H' → H p = none → H' p = some (.tup [.int (nrm m e).1, .int (nrm m e).2]) → Q (.ref p) H'
def spTens : Sp := fun vs H Q _ => ∃ k : Int, vs = [.int k] ∧ 0 ≤ k ∧ k ≤ 10000 ∧ ∀ z : Int, Q (.int z) H
def spMix : Sp := fun vs H Q _ => ∃ a k : Int, vs = [.int a, .int k] ∧ ∀ z : Int, Q (.int z) H
def spCel (K : PySem.W.Frag) : Sp := fun vs H Q _ => ∃ (a : Addr) (ns : List Int) (k : Int), vs = [.ref a, .int k] ∧ SqL K H a (ns.map V.int) ∧ 0 ≤ k ∧ k < 1000 ∧ ∀ z : Int, Q (.int z) H
def spTake : Sp := fun vs H Q _ => ∃ (p : Addr) (x n : Int), vs = [.ref p, .int n] ∧ H p = some (.lst [.int x]) ∧ 0 < n ∧ n.natAbs.log2 < 9000 ∧ Q (.int (x % n)) (upd H p (.lst [.int (x / n)]))
def spNumber : Sp := fun vs H Q _ => ∃ (p : Addr) (x : Int), vs = [.ref p] ∧ H p = some (.lst [.int x]) ∧
  ∀ H' q (x' m e : Int), (∀ b o, H b = some o → b ≠ p → H' b = some o) → H' p = some (.lst [.int x']) → H q = none → H' q = some (.tup [.int m, .int e]) → isNumB m e = true → m.natAbs < 2 ^ 201 → e.natAbs < 2000 → Q (.ref q) H'
theorem log_small {z : Int} {k : Nat} (h0 : 0 < z) (h : z ≤ 2 ^ k) (hk : k < 9000) : z.natAbs.log2 < 9000 := by
  have h1 : z.natAbs < 2 ^ (k + 1) := by
    have e : (2 : Int) ^ (k + 1) = 2 ^ k * 2 := Int.pow_succ ..
    have e2 : ((2 ^ (k + 1) : Nat) : Int) = 2 ^ (k + 1) := pow_two_cast _
    omega
  have h2 : z.natAbs.log2 < k + 1 := PySem.Flt.log2_lt_of (Nat.succ_pos k) h1
  omega
/-! ### evaluation beside a pile: all is kept but the pile p -/
def Pl (p : Addr) (H : Hp) : Prop := ∃ x : Int, H p = some (.lst [.int x])
def EvK (p : Addr) (P : Hp → V → Prop) (te : TE) (σ : L2.St) (H : Hp) : Prop := ∀ H1, Keeps p H H1 → Pl p H1 → ∀ Q : VK, (∀ v H2, Keeps p H1 H2 → Pl p H2 → P H2 v → Q v H2) → te σ H1 Q
abbrev EvI (p : Addr) (S : Int → Prop) (te : TE) (σ : L2.St) (H : Hp) : Prop := EvK p (fun _ v => ∃ z, v = .int z ∧ S z) te σ H
section
variable {K : PySem.W.Frag} {p : Addr} {σ : L2.St} {H H' : Hp} {ta tb te : TE} {S T U : Int → Prop}
theorem Keeps.refl (p : Addr) (H : Hp) : Keeps p H H := fun _ _ h _ => h
theorem EvK.mono {P : Hp → V → Prop} (h : EvK p P te σ H) (k : Keeps p H H') : EvK p P te σ H' := fun H1 k1 l Q q => h H1 (k.trans k1) l Q q
theorem EvK.imp {P P' : Hp → V → Prop} (h : EvK p P te σ H) (i : ∀ H v, P H v → P' H v) : EvK p P' te σ H := fun H1 k l Q q => h H1 k l Q fun v H2 k2 l2 hv => q v H2 k2 l2 (i H2 v hv)
theorem evi_imp (h : EvI p S te σ H) (i : ∀ z, S z → T z) : EvI p T te σ H := h.imp fun _ _ ⟨z, e, s⟩ => ⟨z, e, i z s⟩
theorem evi_c {z : Int} (h : S z) : EvI p S (tC (.int z)) σ H := fun H1 k l Q q => q (.int z) H1 (Keeps.refl p H1) l ⟨z, rfl, h⟩
theorem evi_var {i : Nat} {z : Int} (hi : σ[i]? = some (some (.int z))) (h : S z) : EvI p S (tVar i) σ H := fun H1 k l Q q => ⟨.int z, hi, q (.int z) H1 (Keeps.refl p H1) l ⟨z, rfl, h⟩⟩
theorem evi_op {g : Int → Int → Int} (ha : EvI p S ta σ H) (hb : EvI p T tb σ H) (h : ∀ a b, S a → T b → U (g a b)) : EvI p U (tOp (rI0 fun i j => .int (g i j)) ta tb) σ H := fun H1 k l Q q =>
  ha H1 k l _ fun v H2 k2 l2 ⟨a, e, sa⟩ => hb H2 (k.trans k2) l2 _ fun w H3 k3 l3 ⟨b, e2, sb⟩ => by
    subst e e2
    exact ⟨a, b, rfl, rfl, q _ H3 (k2.trans k3) l3 ⟨_, rfl, h a b sa sb⟩⟩
theorem evi_opC {C : Int → Int → Prop} {g : Int → Int → Int} (ha : EvI p S ta σ H) (hb : EvI p T tb σ H) (hc : ∀ a b, S a → T b → C a b) (h : ∀ a b, S a → T b → U (g a b)) : EvI p U (tOp (rI C fun i j => .int (g i j)) ta tb) σ H := fun H1 k l Q q =>
  ha H1 k l _ fun v H2 k2 l2 ⟨a, e, sa⟩ => hb H2 (k.trans k2) l2 _ fun w H3 k3 l3 ⟨b, e2, sb⟩ => by
    subst e e2
    exact ⟨a, b, rfl, rfl, hc a b sa sb, q _ H3 (k2.trans k3) l3 ⟨_, rfl, h a b sa sb⟩⟩
theorem pl_upd {x : Int} : Pl p (upd H p (.lst [.int x])) := ⟨x, upd_same⟩
theorem pl_new {q : Addr} {o : HO} (l : Pl p H) (hq : H q = none) : Pl p (upd H q o) := by
  obtain ⟨x, h⟩ := l
  exact ⟨x, by rw [upd_ne (ne_of_none h hq)]; exact h⟩
theorem pl_ex (l : Pl p H) (e : Ex H H') : Pl p H' := by
  obtain ⟨x, h⟩ := l
  exact ⟨x, e _ _ h⟩
theorem evi_take {i : Nat} {N : Int → Prop} (hi : σ[i]? = some (some (.ref p))) (hn : EvI p N te σ H) (h : ∀ n, N n → 0 < n ∧ n.natAbs.log2 < 9000) (hT : ∀ n z, N n → 0 ≤ z → z < n → T z) : EvI p T (tCall spTake [] E0 (tCons (tVar i) (tCons te tNil))) σ H := fun H1 k l Q q =>
  ⟨.ref p, hi, hn H1 k l _ fun v H2 k2 l2 ⟨n, e, sn⟩ => by
    subst e
    obtain ⟨x, hx⟩ := l2
    obtain ⟨h0, h1⟩ := h n sn
    exact ⟨p, x, n, rfl, hx, h0, h1, q _ _ (k2.trans keeps_upd) pl_upd ⟨_, rfl, hT n _ sn (Int.emod_nonneg _ (by omega)) (Int.emod_lt_of_pos _ h0)⟩⟩⟩
/-- several, each of its own set -/
def All2 : List (Int → Prop) → List Int → Prop
  | [], [] => True
  | S :: Ss, z :: zs => S z ∧ All2 Ss zs
  | _, _ => False
theorem all2_len : ∀ {Ss : List (Int → Prop)} {zs : List Int}, All2 Ss zs → zs.length = Ss.length
  | [], [], _ => rfl
  | _ :: _, _ :: _, h => congrArg Nat.succ (all2_len h.2)
theorem all2_app : ∀ {Ss Ts : List (Int → Prop)} {zs ys : List Int}, All2 Ss zs → All2 Ts ys → All2 (Ss ++ Ts) (zs ++ ys)
  | [], _, [], _, _, h => h
  | _ :: _, _, _ :: _, _, h1, h => ⟨h1.1, all2_app h1.2 h⟩
theorem all2_at : ∀ {Ss : List (Int → Prop)} {zs : List Int}, All2 Ss zs → ∀ {i : Nat} {S : Int → Prop}, Ss[i]? = some S → ∃ z, (zs.map V.int)[i]? = some (.int z) ∧ S z
  | [], [], _, i, S, h => by simp at h
  | T :: _, z :: _, g, 0, S, h => by
    have e : T = S := Option.some.inj h
    subst e
    exact ⟨z, rfl, g.1⟩
  | _ :: _, _ :: _, g, i + 1, S, h => all2_at g.2 (i := i) h
def EvIs (p : Addr) (Ss : List (Int → Prop)) (ta : TA) (σ : L2.St) (H : Hp) : Prop := ∀ H1, Keeps p H H1 → Pl p H1 → ∀ Q : List V → Hp → Prop, (∀ zs H2, Keeps p H1 H2 → Pl p H2 → All2 Ss zs → Q (zs.map V.int) H2) → ta σ H1 Q
theorem evis_nil : EvIs p [] tNil σ H := fun H1 k l Q q => q [] H1 (Keeps.refl p H1) l trivial
theorem evis_cons {tr : TA} {Ss : List (Int → Prop)} (h : EvI p S ta σ H) (hr : EvIs p Ss tr σ H) : EvIs p (S :: Ss) (tCons ta tr) σ H := fun H1 k l Q q =>
  h H1 k l _ fun v H2 k2 l2 ⟨z, e, s⟩ => hr H2 (k.trans k2) l2 _ fun zs H3 k3 l3 hz => by
    subst e
    exact q (z :: zs) H3 (k2.trans k3) l3 ⟨s, hz⟩
/-- a list of ints, elsewhere than the pile -/
def LiAt (p : Addr) (Ss : List (Int → Prop)) (H : Hp) (v : V) : Prop := ∃ l zs, v = .ref l ∧ l ≠ p ∧ H l = some (.lst (zs.map V.int)) ∧ All2 Ss zs
theorem li_keep {Ss : List (Int → Prop)} {v : V} (h : LiAt p Ss H v) (k : Keeps p H H') : LiAt p Ss H' v := by
  obtain ⟨l, zs, e, ne, hl, ha⟩ := h
  exact ⟨l, zs, e, ne, k _ _ hl ne, ha⟩
theorem keeps_new {q : Addr} {o : HO} (hq : H q = none) : Keeps p H (upd H q o) := keeps_ex (Ex.new hq)
theorem evk_lst {tr : TA} {Ss : List (Int → Prop)} (h : EvIs p Ss tr σ H) (hl : Ss.length ≤ 1000 := by decide) : EvK p (LiAt p Ss) (tLst tr) σ H := fun H1 k l Q q =>
  h H1 k l _ fun zs H2 k2 l2 hz => ⟨sz_of (by rw [List.length_map, all2_len hz]; omega), fun r hr => q (.ref r) _ (k2.trans (keeps_new hr)) (pl_new l2 hr) ⟨r, zs, rfl, (fun e => by obtain ⟨x, hx⟩ := l2; rw [e, hx] at hr; cases hr), upd_same, hz⟩⟩
theorem evk_var {P : Hp → V → Prop} {i : Nat} {v : V} (hi : σ[i]? = some (some v)) (h : ∀ H1, Keeps p H H1 → Pl p H1 → P H1 v) : EvK p P (tVar i) σ H := fun H1 k l Q q => ⟨v, hi, q v H1 (Keeps.refl p H1) l (h H1 k l)⟩
theorem evk_cat {Ss Ts : List (Int → Prop)} (ha : EvK p (LiAt p Ss) ta σ H) (hb : EvK p (LiAt p Ts) tb σ H) (hl : Ss.length + Ts.length ≤ 1000 := by decide) : EvK p (LiAt p (Ss ++ Ts)) (tOp rCat ta tb) σ H := fun H1 k l Q q =>
  ha H1 k l _ fun v H2 k2 l2 hv => hb H2 (k.trans k2) l2 _ fun w H3 k3 l3 hw => by
    obtain ⟨a, zs, rfl, na, hza, aa⟩ := li_keep hv k3
    obtain ⟨b, ys, rfl, nb, hyb, ab⟩ := hw
    refine ⟨a, b, _, _, rfl, rfl, hza, hyb, sz_of (by rw [List.length_map, List.length_map, all2_len aa, all2_len ab]; omega), fun r hr => q (.ref r) _ ((k2.trans k3).trans (keeps_new hr)) (pl_new l3 hr) ⟨r, zs ++ ys, rfl, (fun e => by obtain ⟨x, hx⟩ := l3; rw [e, hx] at hr; cases hr), by rw [List.map_append]; exact upd_same, all2_app aa ab⟩⟩
/-- an item of a list of ints, by an int that is known to be one of a set -/
theorem evi_ix {Ss : List (Int → Prop)} {W : Int → Prop} (ha : EvK p (LiAt p Ss) ta σ H) (hb : EvI p W tb σ H) (h : ∀ w, W w → 0 ≤ w ∧ ∃ R, Ss[w.toNat]? = some R ∧ ∀ z, R z → U z) : EvI p U (tOp (rIxL K) ta tb) σ H := fun H1 k l Q q =>
  ha H1 k l _ fun v H2 k2 l2 hv => hb H2 (k.trans k2) l2 _ fun w H3 k3 l3 ⟨i, e, hi⟩ => by
    subst e
    obtain ⟨a, zs, rfl, na, hza, aa⟩ := li_keep hv k3
    obtain ⟨i0, R, hR, hU⟩ := h i hi
    obtain ⟨z, hz, sz⟩ := all2_at aa hR
    obtain ⟨j, rfl⟩ : ∃ j : Nat, i = (j : Int) := ⟨i.toNat, by omega⟩
    rw [Int.toNat_natCast] at hz
    exact ⟨a, _, _, _, rfl, rfl, sq_of hza, atI_nat hz, q _ H3 (k2.trans k3) l3 ⟨z, rfl, hU z sz⟩⟩
theorem k_asg {P : Hp → V → Prop} {i : Nat} {tz : TS} {D : Ends} (h : EvK p P te σ H) (l : Pl p H) (k : ∀ v H1, Keeps p H H1 → Pl p H1 → P H1 v → tz D (σ.set i (some v)) H1) : tSeq (tAsg te (gName i)) tz D σ H := h H (Keeps.refl p H) l _ fun v H2 k2 l2 hv => k v H2 k2 l2 hv
theorem k_asg1 {P : Hp → V → Prop} {i : Nat} {D : Ends} (h : EvK p P te σ H) (l : Pl p H) (k : ∀ v H1, Keeps p H H1 → Pl p H1 → P H1 v → D.nx (σ.set i (some v)) H1) : tAsg te (gName i) D σ H := h H (Keeps.refl p H) l _ fun v H2 k2 l2 hv => k v H2 k2 l2 hv
theorem k_ret {P : Hp → V → Prop} {D : Ends} (h : EvK p P te σ H) (l : Pl p H) (k : ∀ v H1, Keeps p H H1 → Pl p H1 → P H1 v → D.rt v H1) : tRet te D σ H := h H (Keeps.refl p H) l _ fun v H2 k2 l2 hv => k v H2 k2 l2 hv
theorem k_asgL {tr : TA} {Ss : List (Int → Prop)} {i : Nat} {tz : TS} {D : Ends} (h : EvIs p Ss tr σ H) (l : Pl p H) (hl : Ss.length ≤ 1000) (k : ∀ r zs H1, Keeps p H H1 → Pl p H1 → H r = none → r ≠ p → H1 r = some (.lst (zs.map V.int)) → All2 Ss zs → tz D (σ.set i (some (.ref r))) H1) : tSeq (tAsg (tLst tr) (gName i)) tz D σ H :=
  h H (Keeps.refl p H) l _ fun zs H2 k2 l2 hz => ⟨sz_of (by rw [List.length_map, all2_len hz]; omega), fun r hr => by
    have rp : r ≠ p := fun e => by
      obtain ⟨x, hx⟩ := l2
      rw [e, hx] at hr
      cases hr
    refine k r zs _ (k2.trans (keeps_new hr)) (pl_new l2 hr) ?_ rp upd_same hz
    cases hH : H r with
    | none => rfl
    | some o =>
      rw [k2 _ _ hH rp] at hr
      cases hr⟩
theorem fresh_keep {r : Addr} (k : Keeps p H H') (hr : H' r = none) (rp : r ≠ p) : H r = none := by
  cases hH : H r with
  | none => rfl
  | some o =>
    rw [k _ _ hH rp] at hr
    cases hr
theorem keeps_mut {r : Addr} {o : HO} (k : Keeps p H H') (hr : H r = none) : Keeps p H (upd H' r o) := fun b u hb hbp => by
  rw [upd_ne (ne_of_none hb hr)]
  exact k b u hb hbp
/-- a number made of two ints -/
theorem evk_nof {R : Int → Int → Prop} {B : Nat} (ha : EvI p S ta σ H) (hb : EvI p T tb σ H) (h : ∀ a b, S a → T b → R a b ∧ Bd (nrm a b) B) : EvK p (fun H v => ∃ a b, R a b ∧ Gn K H v (nrm a b) B) (tCall spNof [] E0 (tCons ta (tCons tb tNil))) σ H := fun H1 k l Q q =>
  ha H1 k l _ fun v H2 k2 l2 ⟨a, e, sa⟩ => hb H2 (k.trans k2) l2 _ fun w H3 k3 l3 ⟨b, e2, sb⟩ => by
    subst e e2
    obtain ⟨h1, h2⟩ := h a b sa sb
    exact ⟨a, b, rfl, fun H4 r e4 _ hr => q (.ref r) H4 ((k2.trans k3).trans (keeps_ex e4)) (pl_ex l3 e4) ⟨a, b, h1, numAt_of hr, nrm_num a b, h2⟩⟩
end
/-! ### a number, or None -/
def OptAt (K : PySem.W.Frag) (H : Hp) (v : V) : Option (Int × Int) → Prop
  | none => v = .non
  | some n => NumAt K H v n
theorem optAt_ex {K : PySem.W.Frag} {H H' : Hp} {v : V} {o : Option (Int × Int)} (e : Ex H H') (h : OptAt K H v o) : OptAt K H' v o := by
  cases o with
  | none => exact h
  | some n => exact numAt_ex e h
def optD : Option (Int × Int) → PyData
  | none => .none
  | some n => pairD n
theorem optAt_dp {K : PySem.W.Frag} {H : Hp} {v : V} {o : Option (Int × Int)} (h : OptAt K H v o) : Dp K H v (optD o) := by
  cases o with
  | none =>
    rw [show v = .non from h]
    exact .non
  | some n => exact numAt_dp h
theorem opt_shaped (o : Option (Int × Int)) : SeqAt.shaped (optD o) = true := by
  cases o <;> rfl
theorem opt_lay (o : Option (Int × Int)) : PyData.canLay0 (optD o) = true := by
  cases o <;> rfl
/-! ### what an error is told as, in the suite that handles it -/
structure GlM (mg : Str → Option Value) (x : Str) (C : Addr) : Prop where
  m : mg x = some (.ref C)
structure TopX (mg : Str → Option Value) : Prop where
  ValueError : mg "ValueError" = none
  LookupError : mg "LookupError" = none
  ArithmeticError : mg "ArithmeticError" = none
  ZeroDivisionError : mg "ZeroDivisionError" = none
  OverflowError : mg "OverflowError" = none
  KeyError : mg "KeyError" = none
  IndexError : mg "IndexError" = none
  zip : mg "zip" = none
def kNames : List Str := ["number", "form", "place", "stretch", "text", "line", "word", "great", "many"]
def sel : List Str → List Bool → List Str
  | w :: ws, b :: bs => if b = true then w :: sel ws bs else sel ws bs
  | _, _ => []
theorem sel_snoc : ∀ (ws : List Str) (bs : List Bool) (i : Nat) (w : Str) (b : Bool), ws[i]? = some w → bs[i]? = some b → sel (ws.take (i + 1)) (bs.take (i + 1)) = if b = true then sel (ws.take i) (bs.take i) ++ [w] else sel (ws.take i) (bs.take i)
  | [], _, i, _, _, h, _ => by simp at h
  | _ :: _, [], i, _, _, _, h => by simp at h
  | v :: ws, c :: bs, 0, w, b, h1, h2 => by
    cases (show v = w from Option.some.inj h1)
    cases (show c = b from Option.some.inj h2)
    cases c <;> rfl
  | v :: ws, c :: bs, i + 1, w, b, h1, h2 => by
    have ih := sel_snoc ws bs i w b h1 h2
    show sel (v :: ws.take (i + 1)) (c :: bs.take (i + 1)) = if b = true then sel (v :: ws.take i) (c :: bs.take i) ++ [w] else sel (v :: ws.take i) (c :: bs.take i)
    unfold sel
    rw [ih]
    cases b <;> cases c <;> rfl
/-- [w for w, so in zip(ws, bs) if so] -/
theorem lc_sel {K : PySem.W.Frag} {σ : L2.St} {H : Hp} {Q : VK} {i j k l : Nat} {A B : Addr} {ws : List Str} {bs : List Bool} (hi : σ[i]? = some (some (.ref A))) (hj : σ[j]? = some (some (.ref B))) (hA : H A = some (.lst (ws.map V.str))) (hB : H B = some (.lst (bs.map V.bl))) (hl : ws.length = bs.length) (hn : ws.length < 1000)
    (hk : ∀ x y, ((((wipe σ [k, l]).set k (some x)).set l (some y))[k]? = some (some x)) ∧ ((((wipe σ [k, l]).set k (some x)).set l (some y))[l]? = some (some y)) ∧ wipe (((wipe σ [k, l]).set k (some x)).set l (some y)) [k, l] = wipe σ [k, l])
    (q : ∀ D H', Ex H H' → H D = none → H' D = some (.lst ((sel ws bs).map V.str)) → Q (.ref D) H') : tLc (iZip K (tCons (tVar i) (tCons (tVar j) tNil))) (gTup K 2 (gCons (gName k) (gCons (gName l) gNil))) (tB (tVar l)) (tVar k) [k, l] σ H Q := by
  refine ⟨.ref A, hi, .ref B, hj, A, B, _, _, rfl, sq_of hA, sq_of hB, fun D hD => ?_⟩
  refine ⟨fun i m H' => Ex H H' ∧ H' D = some (.lst ((sel (ws.take i) (bs.take i)).map V.str)) ∧ i + m = ws.length ∧ (sel (ws.take i) (bs.take i)).length ≤ i, ⟨ws.length, Ex.new hD, upd_same, Nat.zero_add _, Nat.le_refl _⟩, fun i m H' ⟨e, hd, him, hle⟩ => ?_⟩
  rcases Nat.lt_or_ge i ws.length with lt | ge
  · obtain ⟨w, hw⟩ : ∃ w, ws[i]? = some w := ⟨_, List.getElem?_eq_getElem lt⟩
    obtain ⟨b, hb⟩ : ∃ b, bs[i]? = some b := ⟨_, List.getElem?_eq_getElem (by omega)⟩
    have hw' : (ws.map V.str)[i]? = some (.str w) := by rw [List.getElem?_map, hw]; rfl
    have hb' : (bs.map V.bl)[i]? = some (.bl b) := by rw [List.getElem?_map, hb]; rfl
    have ss := sel_snoc ws bs i w b hw hb
    refine .inr ⟨⟨_, _, .str w, .bl b, sq_of (e _ _ hA), sq_of (e _ _ hB), hw', hb'⟩, fun H2 => Ex H H2 ∧ H2 D = some (.lst ((sel (ws.take (i + 1)) (bs.take (i + 1))).map V.str)) ∧ (sel (ws.take (i + 1)) (bs.take (i + 1))).length ≤ i + 1, fun H2 ⟨e2, h2, l2⟩ => ⟨m - 1, by omega, e2, h2, by omega, l2⟩, fun x H2 ⟨T, u, v, ex, nT, eH, hu, hv⟩ => ?_⟩
    have eu : V.str w = u := Option.some.inj (hw'.symm.trans (hu _ (sq_of (e _ _ hA))))
    have ev : V.bl b = v := Option.some.inj (hb'.symm.trans (hv _ (sq_of (e _ _ hB))))
    subst ex eH eu ev
    have TD : D ≠ T := fun z => by
      rw [← z, hd] at nT
      cases nT
    have e2 : Ex H (upd H' T (.tup [.str w, .bl b])) := e.trans (Ex.new nT)
    have hd2 : (upd H' T (.tup [.str w, .bl b])) D = some (.lst ((sel (ws.take i) (bs.take i)).map V.str)) := by
      rw [upd_ne TD]
      exact hd
    obtain ⟨k1, k2, k3⟩ := hk (.str w) (.bl b)
    refine ⟨T, _, rfl, st_of upd_same, rfl, .str w, _, rfl, .bl b, _, rfl, rfl, k3, .bl b, k2, b, rfl, ?_⟩
    cases b with
    | false =>
      rw [if_neg (by decide)] at ss
      rw [if_neg (by decide)]
      exact ⟨e2, by rw [ss]; exact hd2, by rw [ss]; omega⟩
    | true =>
      rw [if_pos rfl] at ss
      rw [if_pos rfl]
      refine ⟨.str w, k1, _, hd2, sz_lt (by rw [List.length_map]; omega), fun c o hc => ?_, ?_, ?_⟩
      · rw [upd_ne (ne_of_none hc hD)]
        exact e2 c o hc
      · rw [upd_same, ss, List.map_append]
        rfl
      · rw [ss, List.length_append]
        show _ + 1 ≤ i + 1
        omega
  · refine .inl ⟨⟨_, _, sq_of (e _ _ hA), sq_of (e _ _ hB), .inl (by rw [List.length_map]; exact ge)⟩, q D H' e hD ?_⟩
    rw [List.take_of_length_le ge, List.take_of_length_le (by omega)] at hd
    exact hd
/-- what _law_kinds tells: words, and five truths -/
def KindAt (H : Hp) (v : V) (ws : List Str) (bs : List Bool) : Prop := ∃ L L1 L2, v = .ref L ∧ H L = some (.lst [.ref L1, .ref L2]) ∧ H L1 = some (.lst (ws.map V.str)) ∧ H L2 = some (.lst (bs.map V.bl))
/-! ### whole numbers within bounds, and own refusals -/
def winD : PyData → Int → Int → Bool
  | .int i, l, m => decide (l ≤ i) && decide (i ≤ m)
  | _, _, _ => false
theorem winD_int {d : PyData} {l m : Int} (h : winD d l m = true) : ∃ i, d = .int i ∧ l ≤ i ∧ i ≤ m := by
  cases d with
  | int i =>
    have z : (decide (l ≤ i) && decide (i ≤ m)) = true := h
    rw [Bool.and_eq_true] at z
    exact ⟨i, rfl, of_decide_eq_true z.1, of_decide_eq_true z.2⟩
  | _ => cases h
def spWinA (K : PySem.W.Frag) : Sp := fun vs H Q _ => ∃ v l m d, vs = [v, .int l, .int m] ∧ Dp K H v d ∧ Q (.bl (winD d l m)) H
/-- an own class beneath ValueError, without __init__ -/
structure RaC (K : PySem.W.Frag) (mg : Str → Option Value) (x : Str) (C : Addr) : Prop where
  m : mg x = some (.ref C)
  x : PySem.W.excIn K C [.type "ValueError", .type "Exception", .type "BaseException", .type "object"] "ValueError.__new__" = true
  kp : PySem.W.keepIn K (.ref C) = true
  b : PySem.W.subIn K (.ref C) (.type "BaseException") = some true
  t : PySem.W.typeIn K (.ref C) = some (.type "type")
  e : PySem.W.exmOne K (.ref C) (.ref C) = some true
/-! ### texts of figures -/
open SX in
theorem joinL_nil : ∀ ys : List (List Nat), TL.joinL [] ys = ys.flatten
  | [] => rfl
  | [p] => (List.append_nil p).symm
  | p :: q :: r => by
    show p ++ ([] ++ TL.joinL [] (q :: r)) = _
    rw [joinL_nil (q :: r)]
    rfl
theorem S_length (a : List Nat) : (SX.S a).length = a.length := SX.S_len a
theorem str_nn {i : Int} (h : 0 ≤ i) : PySem.Str.ofString (toString i) = SX.S (dig i.toNat) := by
  have e : i = (i.toNat : Int) := by omega
  rw [e, ts_nat, Int.toNat_natCast]
def spFigs : Sp := fun vs H Q _ => ∃ n : Nat, vs = [.int (n : Int)] ∧ n < 2 ^ 3000 ∧ ∀ H', Ex H H' → Q (.str (SX.S (dig n))) H'
theorem ml {i j : Int} {a b : Nat} (ha : i.natAbs ≤ 2 ^ a) (hb : j.natAbs ≤ 2 ^ b) (h : a + b ≤ 100000) : CMulX i j := mulx_ok (a := a + 1) (b := b + 1) (Nat.lt_of_le_of_lt ha (Nat.pow_lt_pow_right (by decide) (Nat.lt_succ_self a))) (Nat.lt_of_le_of_lt hb (Nat.pow_lt_pow_right (by decide) (Nat.lt_succ_self b))) (by omega)
theorem pw_le {x : Int} {a : Nat} (h : x.natAbs ≤ 2 ^ a) : ∀ k : Nat, (x ^ k).natAbs ≤ 2 ^ (a * k)
  | 0 => by rw [Int.pow_zero]; exact Nat.le_refl 1
  | k + 1 => by
    rw [Int.pow_succ, Nat.mul_succ, Int.natAbs_mul, Nat.pow_add]
    exact Nat.mul_le_mul (pw_le h k) h
def spPow : Sp := fun vs H Q _ => ∃ (b : Int) (k : Nat), vs = [.int b, .int (k : Int)] ∧ b.natAbs ≤ 8 ∧ k ≤ 1000 ∧ ∀ H', Ex H H' → Q (.int (b ^ k)) H'
theorem shr_nat (k p : Nat) : (k : Int) / 2 ^ p = ((k / 2 ^ p : Nat) : Int) := by
  rw [← pow_two_cast]
  rfl
def spWt : Sp := fun vs H Q _ => ∃ i : Int, vs = [.int i] ∧ i.natAbs < 2 ^ 3000 ∧ ∀ H', Ex H H' → Q (.str (SX.S (cod i))) H'
def ntx (n : Int × Int) : List Nat := cod n.1 ++ [112] ++ cod n.2
def spNt (K : PySem.W.Frag) : Sp := fun vs H Q _ => ∃ v n, vs = [v] ∧ Gn K H v n 2000 ∧ ∀ H', Ex H H' → Q (.str (SX.S (ntx n))) H'
theorem dig_len_bd {n : Nat} (h : n < 2 ^ 3000) : (dig n).length ≤ 1000 := dig_len (k := 999) (Nat.lt_of_lt_of_le h (by
  have e : (2 : Nat) ^ 3000 = (2 ^ 3) ^ 1000 := by rw [← Nat.pow_mul]
  rw [e]
  exact Nat.pow_le_pow_left (by decide) 1000))
theorem cod_len {i : Int} (h : i.natAbs < 2 ^ 3000) : (cod i).length ≤ 1001 := by
  unfold cod
  have := dig_len_bd h
  by_cases z : i < 0
  · rw [if_pos z, List.length_cons]; omega
  · rw [if_neg z]; omega
theorem cat_ok {a b : List Nat} (h : a.length + b.length ≤ 100000) : (SX.S a).length + (SX.S b).length ≤ sizeLine := by
  rw [SX.S_len, SX.S_len, sizeLine_eq]
  omega
theorem iop_mulX {X : Cx} : OpR X (inplaceOp .Mult) (rI CMulX fun i j => .int (i * j)) := opI fun _ _ _ _ _ _ _ hc q => imul_int q hc.ok
abbrev s_is_number : Stmt := topS 14
theorem sc_is_number : FnScope ["thing", "m", "e"] ["thing"] (defScope s_is_number) := ⟨rfl, rfl, rfl, by decide +kernel, rfl, by decide +kernel, by decide +kernel⟩
abbrev s_need_number : Stmt := topS 15
theorem sc_need_number : FnScope ["thing"] ["thing"] (defScope s_need_number) := ⟨rfl, rfl, rfl, by decide +kernel, rfl, by decide +kernel, by decide +kernel⟩
abbrev s_lowered : Stmt := topS 16
theorem sc_lowered : FnScope ["m", "e", "noughts"] ["m", "e"] (defScope s_lowered) := ⟨rfl, rfl, rfl, by decide +kernel, rfl, by decide +kernel, by decide +kernel⟩
abbrev s_power_of : Stmt := topS 11
theorem sc_power_of : FnScope ["base", "k", "power", "place"] ["base", "k"] (defScope s_power_of) := ⟨rfl, rfl, rfl, by decide +kernel, rfl, by decide +kernel, by decide +kernel⟩
abbrev s_figures_of : Stmt := topS 30
theorem sc_figures_of : FnScope ["size", "parts", "part"] ["size"] (defScope s_figures_of) := ⟨rfl, rfl, rfl, by decide +kernel, rfl, by decide +kernel, by decide +kernel⟩
abbrev s_whole_text : Stmt := topS 25
theorem sc_whole_text : FnScope ["whole"] ["whole"] (defScope s_whole_text) := ⟨rfl, rfl, rfl, by decide +kernel, rfl, by decide +kernel, by decide +kernel⟩
abbrev s_number_text : Stmt := topS 21
theorem sc_number_text : FnScope ["number", "m", "e"] ["number"] (defScope s_number_text) := ⟨rfl, rfl, rfl, by decide +kernel, rfl, by decide +kernel, by decide +kernel⟩
abbrev s_is_figures : Stmt := topS 27
theorem sc_is_figures : FnScope ["text"] ["text"] (defScope s_is_figures) := ⟨rfl, rfl, rfl, by decide +kernel, rfl, by decide +kernel, by decide +kernel⟩
abbrev s_is_size : Stmt := topS 28
theorem sc_is_size : FnScope ["text"] ["text"] (defScope s_is_size) := ⟨rfl, rfl, rfl, by decide +kernel, rfl, by decide +kernel, by decide +kernel⟩
abbrev s_size_from : Stmt := topS 29
theorem sc_size_from : FnScope ["figures", "first", "size", "at"] ["figures"] (defScope s_size_from) := ⟨rfl, rfl, rfl, by decide +kernel, rfl, by decide +kernel, by decide +kernel⟩
abbrev s_whole_of : Stmt := topS 26
theorem sc_whole_of : FnScope ["text", "size"] ["text"] (defScope s_whole_of) := ⟨rfl, rfl, rfl, by decide +kernel, rfl, by decide +kernel, by decide +kernel⟩
abbrev s_read_number : Stmt := topS 22
theorem sc_read_number : FnScope ["text", "before", "dividing", "behind", "number"] ["text"] (defScope s_read_number) := ⟨rfl, rfl, rfl, by decide +kernel, rfl, by decide +kernel, by decide +kernel⟩
abbrev s_decimal_text : Stmt := topS 23
theorem sc_decimal_text : FnScope ["number", "m", "e", "sign", "figures"] ["number"] (defScope s_decimal_text) := ⟨rfl, rfl, rfl, by decide +kernel, rfl, by decide +kernel, by decide +kernel⟩
abbrev s_read_decimal : Stmt := topS 24
theorem sc_read_decimal : FnScope ["text", "before", "dot", "behind", "whole", "fives"] ["text"] (defScope s_read_decimal) := ⟨rfl, rfl, rfl, by decide +kernel, rfl, by decide +kernel, by decide +kernel⟩
abbrev s_law_fives : Stmt := topS 32
theorem sc_law_fives : FnScope ["_law_k", "_law_found", "_law_turn"] ["_law_k"] (defScope s_law_fives) := ⟨rfl, rfl, rfl, by decide +kernel, rfl, by decide +kernel, by decide +kernel⟩
abbrev s_law_mixed : Stmt := topS 33
theorem sc_law_mixed : FnScope ["_law_cell_here", "_law_k", "_law_mix"] ["_law_cell_here", "_law_k"] (defScope s_law_mixed) := ⟨rfl, rfl, rfl, by decide +kernel, rfl, by decide +kernel, by decide +kernel⟩
abbrev s_law_cell : Stmt := topS 34
theorem sc_law_cell : FnScope ["_law_script", "_law_k", "_law_cell_here", "_law_found", "_law_j"] ["_law_script", "_law_k"] (defScope s_law_cell) := ⟨rfl, rfl, rfl, by decide +kernel, rfl, by decide +kernel, by decide +kernel⟩
abbrev s_law_take : Stmt := topS 35
theorem sc_law_take : FnScope ["_law_pile", "_law_size", "_law_digit"] ["_law_pile", "_law_size"] (defScope s_law_take) := ⟨rfl, rfl, rfl, by decide +kernel, rfl, by decide +kernel, by decide +kernel⟩
abbrev s_law_odd : Stmt := topS 36
theorem sc_law_odd : FnScope ["_law_m", "_law_e"] ["_law_m", "_law_e"] (defScope s_law_odd) := ⟨rfl, rfl, rfl, by decide +kernel, rfl, by decide +kernel, by decide +kernel⟩
abbrev s_law_number : Stmt := topS 37
theorem sc_law_number : FnScope ["_law_pile", "_law_way", "_law_most", "_law_far", "_law_m"] ["_law_pile"] (defScope s_law_number) := ⟨rfl, rfl, rfl, by decide +kernel, rfl, by decide +kernel, by decide +kernel⟩
abbrev s_law_kinds : Stmt := topS 38
theorem sc_law_kinds : FnScope ["_law_error", "_law_got", "_law_names", "_law_beneath", "_law_word", "_law_so"] ["_law_error"] (defScope s_law_kinds) := ⟨rfl, rfl, rfl, by decide +kernel, rfl, by decide +kernel, by decide +kernel⟩
abbrev s_law_figures : Stmt := topS 39
theorem sc_law_figures : FnScope ["_law_wording", "_law_sign"] ["_law_wording"] (defScope s_law_figures) := ⟨rfl, rfl, rfl, by decide +kernel, rfl, by decide +kernel, by decide +kernel⟩
abbrev s_law_due_number : Stmt := topS 40
theorem sc_law_due_number : FnScope ["_law_wording", "_law_parts", "_law_part", "_law_found"] ["_law_wording"] (defScope s_law_due_number) := ⟨rfl, rfl, rfl, by decide +kernel, rfl, by decide +kernel, by decide +kernel⟩
abbrev s_law_due_decimal : Stmt := topS 41
theorem sc_law_due_decimal : FnScope ["_law_wording", "_law_bare", "_law_parts", "_law_behind", "_law_sign", "_law_whole", "_law_fives_here"] ["_law_wording"] (defScope s_law_due_decimal) := ⟨rfl, rfl, rfl, by decide +kernel, rfl, by decide +kernel, by decide +kernel⟩
abbrev s_law_asked : Stmt := topS 42
theorem sc_law_asked : FnScope ["_law_which", "_law_wording", "_law_found", "_law_got", "_law_e"] ["_law_which", "_law_wording"] (defScope s_law_asked) := ⟨rfl, rfl, rfl, by decide +kernel, rfl, by decide +kernel, by decide +kernel⟩
abbrev s_law_good : Stmt := topS 43
theorem sc_law_good : FnScope ["_law_wording", "_law_refused", "_law_which", "_law_due"] ["_law_wording"] (defScope s_law_good) := ⟨rfl, rfl, rfl, by decide +kernel, rfl, by decide +kernel, by decide +kernel⟩
abbrev s_law_bent : Stmt := topS 44
theorem sc_law_bent : FnScope ["_law_pile", "_law_wording", "_law_at", "_law_sign", "_law_way"] ["_law_pile", "_law_wording"] (defScope s_law_bent) := ⟨rfl, rfl, rfl, by decide +kernel, rfl, by decide +kernel, by decide +kernel⟩
abbrev s_law_written : Stmt := topS 45
theorem sc_law_written : FnScope ["_law_which", "_law_odd_here", "_law_got", "_law_e"] ["_law_which", "_law_odd_here"] (defScope s_law_written) := ⟨rfl, rfl, rfl, by decide +kernel, rfl, by decide +kernel, by decide +kernel⟩
abbrev s_law : Stmt := topS 46
theorem sc_law : FnScope ["_law_script", "_law_some", "_law_wording", "_law_odd_here", "_law_which", "_law_k", "_law_pile", "_law_near", "_law_value", "_law_turn", "_law_once", "_law_twice", "_law_one"] ["_law_script"] (defScope s_law) := ⟨rfl, rfl, rfl, by decide +kernel, rfl, by decide +kernel, by decide +kernel⟩
section
variable {P : Program} {w : World} {K : PySem.W.Frag} {mg : Str → Option Value} {base : Heap}
theorem ok_is_number {f : Addr} {fd : FuncData} (T : Top mg) (F : FnP K "is_number" s_is_number f fd) : FnOk P w K mg base CX0 1 f fd ["thing"] (spNum K) := by
  have sc := sc_is_number
  refine ok0 F sc (fun vs H Q E h => ?_) (fun cdv A outer s H vs Q E hr h => ?_)
  · obtain ⟨v, b, rfl, _⟩ := h
    rfl
  · obtain ⟨v, b, rfl, hn, q0⟩ := h
    have q := q0 H (Ex.refl H)
    refine ⟨_, (pss_cons (ps_if (PW.pt (pw_or (pt_not (pt_val (pe_callB call_isi (by rfl) T.isinstance (by decide +kernel) (pa_cons (pv 0) (pa_cons (pe_bltn (v := .ty "tuple") (by rfl) T.ty_tuple (by decide +kernel) rfl) pa_nil))))) (pw_or1 (pt_cmpR op_ne (pe_callB call_len (by rfl) T.len (by decide +kernel) (pa_cons (pv 0) pa_nil)) pe_int (nomark _)))))
      (pss_one (ps_ret pe_bl)) pss_nil)
    (pss_cons (ps_asg (pv 0) (pg_tup rfl (pgs_cons (pg_name (i := 1) sc.nd rfl (.inl rfl)) (pgs_cons (pg_name (i := 2) sc.nd rfl (.inl rfl)) pgs_nil))))
    (pss_cons (ps_if (PW.pt (pw_or (pt_not (pt_val (pe_callB call_isi (by rfl) T.isinstance (by decide +kernel) (pa_cons (pv 1) (pa_cons (pe_bltn (v := .ty "int") (by rfl) T.ty_int (by decide +kernel) rfl) pa_nil))))) (pw_or (pt_not (pt_val (pe_callB call_isi (by rfl) T.isinstance (by decide +kernel) (pa_cons (pv 2) (pa_cons (pe_bltn (v := .ty "int") (by rfl) T.ty_int (by decide +kernel) rfl) pa_nil))))) (pw_or (pt_cmpR op_isT (pv 2) pe_bl (nomark _)) (pw_or1 (pt_cmpR op_isT (pv 2) pe_bl (nomark _)))))))
      (pss_one (ps_ret pe_bl)) pss_nil)
    (pss_cons (ps_if (pt_truth (pe_op op_and1 (pv 1) pe_int) (fun _ => rfl))
      (pss_one (ps_ret (pe_cmpR op_notT (pv 1) pe_bl (nomark _)))) pss_nil)
    (pss_one (ps_ret (pe_and (pe_cmpR (op_eqD hr.units) (pv 1) pe_int (nomark _)) (pe_and (pe_cmpR op_eq (pv 2) pe_int (nomark _)) (pe_one (pe_cmpR op_notT (pv 1) pe_bl (nomark _))))))))))), ?_⟩
    cases hn with
    | no ty k => exact rd_isi (i := 0) rfl ty k ⟨false, rfl, iteT (iteT q)⟩
    | @len a xs h l =>
      refine rd_tup (i := 0) rfl h ⟨true, rfl, iteF ?_⟩
      refine ⟨.ref a, rfl, .ref a, xs.length, rfl, .inr ⟨xs, h, rfl⟩, rfl, _, rfl, ite2 (fun _ => q) (fun hh => absurd ?_ hh)⟩
      have e : ¬ V.int ((xs.length : Nat) : Int) = V.int 2 := fun z => l (by have := V.int.inj z; omega)
      rw [decide_eq_false e]
      rfl
    | @fst a x y b h p1 p2 =>
      refine rd_tup (i := 0) rfl h ⟨true, rfl, iteF ?_⟩
      refine ⟨.ref a, rfl, .ref a, 2, rfl, .inr ⟨[x, y], h, rfl⟩, rfl, _, rfl, iteNS rfl ?_⟩
      refine ⟨.ref a, rfl, a, [x, y], rfl, h, rfl, x, [y], rfl, y, [], rfl, rfl, ?_⟩
      cases p1 with
      | no h1 k1 k2 => exact rd_isi (i := 1) (v := x) rfl h1 k1 ⟨false, rfl, iteT (iteT q)⟩
      | bl c =>
        refine rd_isi (i := 1) (v := .bl c) rfl (ty_bl c) kit_bi ⟨true, rfl, iteF ?_⟩
        cases p2 with
        | no h1 k1 k2 => exact rd_isi (i := 2) (v := y) rfl h1 k1 ⟨false, rfl, iteT (iteT q)⟩
        | bl d =>
          refine rd_isi (i := 2) (v := .bl d) rfl (ty_bl d) kit_bi ⟨true, rfl, iteF ?_⟩
          cases d with
          | true => exact ⟨.bl true, rfl, true, rfl, rfl, _, rfl, iteT (iteT q)⟩
          | false => exact ⟨.bl false, rfl, true, rfl, rfl, _, rfl, iteF ⟨.bl false, rfl, false, rfl, rfl, _, rfl, iteT q⟩⟩
        | int e =>
          refine rd_isi (i := 2) (v := .int e) rfl (ty_int e) kit_ii ⟨true, rfl, iteF ?_⟩
          refine ⟨.int e, rfl, true, rfl, rfl, _, rfl, iteF ⟨.int e, rfl, false, rfl, rfl, _, rfl, iteF ?_⟩⟩
          cases c with
          | true => exact ⟨.bl true, rfl, rfl, .inr ⟨true, rfl, true, rfl, iteT ⟨.bl true, rfl, true, rfl, rfl, q⟩⟩⟩
          | false => 
            refine ⟨.bl false, rfl, rfl, .inr ⟨false, rfl, false, rfl, iteF ?_⟩⟩
            refine ⟨.bl false, rfl, .bool false, .int 0, .bl false, .int 0, rfl, rfl, true, by decide +kernel, iteT ?_⟩
            refine ⟨.int e, rfl, rfl, _, rfl, ite2 (fun _ => ?_) (fun h2 => ?_)⟩
            · exact ⟨.bl false, rfl, false, rfl, rfl, q⟩
            · exact q
    | @snd a x y h p1 p2 =>
      refine rd_tup (i := 0) rfl h ⟨true, rfl, iteF ?_⟩
      refine ⟨.ref a, rfl, .ref a, 2, rfl, .inr ⟨[x, y], h, rfl⟩, rfl, _, rfl, iteNS rfl ?_⟩
      refine ⟨.ref a, rfl, a, [x, y], rfl, h, rfl, x, [y], rfl, y, [], rfl, rfl, ?_⟩
      cases p1 with
      | int m =>
        refine rd_isi (i := 1) (v := .int m) rfl (ty_int m) kit_ii ⟨true, rfl, iteF ?_⟩
        cases p2 with
        | no h1 k1 k2 => exact rd_isi (i := 2) (v := y) rfl h1 k1 ⟨false, rfl, iteT (iteT q)⟩
        | bl d =>
          refine rd_isi (i := 2) (v := .bl d) rfl (ty_bl d) kit_bi ⟨true, rfl, iteF ?_⟩
          cases d with
          | true => exact ⟨.bl true, rfl, true, rfl, rfl, _, rfl, iteT (iteT q)⟩
          | false => exact ⟨.bl false, rfl, true, rfl, rfl, _, rfl, iteF ⟨.bl false, rfl, false, rfl, rfl, _, rfl, iteT q⟩⟩
    | @num a m e h =>
      refine rd_tup (i := 0) rfl h ⟨true, rfl, iteF ?_⟩
      refine ⟨.ref a, rfl, .ref a, 2, rfl, .inr ⟨[.int m, .int e], h, rfl⟩, rfl, _, rfl, iteNS rfl ?_⟩
      refine ⟨.ref a, rfl, a, [.int m, .int e], rfl, h, rfl, .int m, [.int e], rfl, .int e, [], rfl, rfl, ?_⟩
      refine rd_isi (i := 1) (v := .int m) rfl (ty_int m) kit_ii ⟨true, rfl, iteF ?_⟩
      refine rd_isi (i := 2) (v := .int e) rfl (ty_int e) kit_ii ⟨true, rfl, iteF ?_⟩
      refine ⟨.int e, rfl, true, rfl, rfl, _, rfl, iteF ⟨.int e, rfl, false, rfl, rfl, _, rfl, iteF ?_⟩⟩
      refine ⟨.int m, rfl, rfl, .inl ⟨m, rfl, _, rfl, ite2 (fun h1 => ?_) (fun h1 => ?_)⟩⟩
      · have e1 : m % 2 = 1 := by
          have : m % 2 ≠ 0 := by simpa using h1
          omega
        have e2 : isNumB m e = true := by
          unfold isNumB
          rw [decide_eq_true e1]
          rfl
        rw [e2] at q
        exact ⟨.int m, rfl, true, rfl, rfl, q⟩
      · have e1 : ¬ m % 2 = 1 := fun z => h1 (by rw [z]; rfl)
        have e2 : isNumB m e = (decide (m = 0) && decide (e = 0)) := by
          unfold isNumB
          rw [decide_eq_false e1]
          rfl
        rw [e2] at q
        refine ⟨.int m, rfl, .int m, .int 0, .int m, .int 0, rfl, rfl, decide (m = 0), by simp [PyData.eqv]; rfl, ite2 (fun h2 => ?_) (fun h2 => ?_)⟩
        · rw [h2] at q
          refine ⟨.int e, rfl, rfl, _, rfl, ite2 (fun h3 => ?_) (fun h3 => ?_)⟩
          · have e4 : e = 0 := V.int.inj (of_decide_eq_true h3)
            rw [decide_eq_true e4] at q
            exact ⟨.int m, rfl, false, rfl, rfl, q⟩
          · have e4 : ¬ e = 0 := fun z => h3 (decide_eq_true (congrArg V.int z))
            rw [decide_eq_false e4] at q
            exact q
        · rw [Bool.eq_false_iff.mpr h2] at q
          exact q
theorem ok_need_number {f f1 : Addr} {fd fd1 : FuncData} (T : Top mg) (F : FnP K "need_number" s_need_number f fd) (c_is_number : Cal P w K mg base CX0 1 "is_number" ["thing"] (spNum K) f1 fd1) : FnOk P w K mg base CX0 2 f fd ["thing"] (spNeed K) := by
  have sc := sc_need_number
  refine ok0 F sc (fun vs H Q E h => ?_) (fun cdv A outer s H vs Q E hr h => ?_)
  · obtain ⟨v, rfl, _⟩ := h
    rfl
  · obtain ⟨v, rfl, hn, q⟩ := h
    refine ⟨_, (pss_one (ps_if (pt_not (pt_val (pe_call c_is_number.ok (hr.mono (by decide)) (by rfl) c_is_number.m c_is_number.kp c_is_number.b .nil pass0 (pa_cons (pv 0) pa_nil))))
      (pss_one ps_never) pss_nil)), ?_⟩
    exact ⟨v, rfl, v, true, rfl, hn, fun H' e => ⟨true, rfl, iteF (q H' e)⟩⟩
/-! ### what is refused -/
def spNeedX (K : PySem.W.Frag) (N : Addr) : Sp := fun vs H Q E => ∃ v b, vs = [v] ∧ NumIs K H v b ∧ (b = true → ∀ H', Ex H H' → Q .non H') ∧ (b = false → ∀ H', Ex H H' → E (.ref N) none H')
theorem okX_need_number {f f1 N : Addr} {fd fd1 : FuncData} {tn : Tok} {zn : Str} (T : Top mg) (R : RaC K mg "NoNumber" N) (mN : mg "NUMBER_NEEDED" = some (.str zn tn)) (F : FnP K "need_number" s_need_number f fd) (c_is_number : Cal P w K mg base CX0 1 "is_number" ["thing"] (spNum K) f1 fd1) : FnOk P w K mg base (L2N.CX P w) 2 f fd ["thing"] (spNeedX K N) := by
  have sc := sc_need_number
  refine F.ok sc (fun vs H Q E h => ?_) (fun cdv A outer s H vs Q E hr h => ?_)
  · obtain ⟨v, b, rfl, _⟩ := h
    rfl
  · obtain ⟨v, b, rfl, hn, q1, q2⟩ := h
    refine ⟨_, (pss_one (ps_if (pt_not (pt_val (pe_call c_is_number.ok (hr.mono (by decide)) (by rfl) c_is_number.m c_is_number.kp c_is_number.b .nil pass0 (pa_cons (pv 0) pa_nil))))
      (pss_one (L2N.ps_raise rfl (L2N.takes_of rfl rfl rfl rfl) (pmkN1 PySem.F.excBase_ValueError R.x R.m R.kp (raises_own R.b R.t) (by rfl) (pe_glob (v := .str zn) (by rfl) mN ⟨_, rfl⟩)))) pss_nil)), ?_⟩
    refine ⟨v, rfl, v, b, rfl, hn, fun H' e => ⟨b, rfl, ?_⟩⟩
    cases b with
    | true => exact iteF (q1 rfl H' e)
    | false => exact iteT (q2 rfl H' e)
theorem ok_lowered {f : Addr} {fd : FuncData} (T : Top mg) (F : FnP K "lowered" s_lowered f fd) : FnOk P w K mg base CX0 1 f fd ["m", "e"] spNof := by
  have sc := sc_lowered
  refine ok0 F sc (fun vs H Q E h => ?_) (fun cdv A outer s H vs Q E hr h => ?_)
  · obtain ⟨m, e, rfl, _⟩ := h
    rfl
  · obtain ⟨m, e, rfl, q⟩ := h
    refine ⟨_, (pss_cons (ps_if (pt_truth (pe_op op_and1 (pv 0) pe_int) (fun _ => rfl))
      (pss_one (ps_ret (pe_tup (pa_cons (pv 0) (pa_cons (pv 1) pa_nil))))) pss_nil)
    (pss_cons (ps_if (pt_cmpR op_eq (pv 0) pe_int (nomark _))
      (pss_one (ps_ret (pe_tup (pa_cons pe_int (pa_cons pe_int pa_nil))))) pss_nil)
    (pss_cons (ps_set (i := 2) sc.nd rfl (.inl rfl) (pe_op op_sub (pe_bits (pe_op op_and (pv 0) (pe_un un_neg (pv 0)))) pe_int))
    (pss_one (ps_ret (pe_tup (pa_cons (pe_op op_shrN (pv 0) (pv 2)) (pa_cons (pe_op op_add (pv 1) (pv 2)) pa_nil)))))))), ?_⟩
    refine ⟨.int m, rfl, rfl, .inl ⟨m, rfl, _, rfl, ite2 (fun h1 => ?_) (fun h1 => ?_)⟩⟩
    · have e1 : m % 2 = 1 := by
        have : m % 2 ≠ 0 := by simpa using h1
        omega
      have e2 : isNumB m e = true := by
        unfold isNumB
        rw [decide_eq_true e1]
        rfl
      rw [nrm_self e2] at q
      exact ⟨.int m, rfl, .int e, rfl, by show 2 ≤ sizeLine; decide, fun p hp => q _ p (Ex.new hp) hp upd_same⟩
    · refine ⟨.int m, rfl, rfl, _, rfl, ite2 (fun h0 => ?_) (fun h0 => ?_)⟩
      · have e0 : m = 0 := V.int.inj (of_decide_eq_true h0)
        subst e0
        exact ⟨by show 2 ≤ sizeLine; decide, fun p hp => q _ p (Ex.new hp) hp upd_same⟩
      · have e0 : m ≠ 0 := fun z => h0 (decide_eq_true (congrArg V.int z))
        obtain ⟨a, ha⟩ := v2_spec e0
        have en := nrm_of e ha
        have eb : Builtin.bitAnd m (-m) = 2 ^ v2 m := by
          have h1 := PySem.W.kbt_low (v2 m) a
          rw [← ha] at h1
          exact h1
        have ev : ((Builtin.Int.intBits (Builtin.bitAnd m (-m)) : Nat) : Int) - 1 = ((v2 m : Nat) : Int) := by
          rw [eb, bits_two]
          omega
        have ed : m / 2 ^ v2 m = 2 * a + 1 := by
          have := nrm_of 0 ha
          unfold nrm at this
          rw [if_neg e0] at this
          exact (Prod.mk.inj this).1
        refine ⟨.int m, rfl, .int m, rfl, m, rfl, m, -m, rfl, rfl, _, rfl, _, 1, rfl, rfl, ?_⟩
        refine ⟨.int m, rfl, _, rfl, m, v2 m, rfl, congrArg V.int ev, .int e, rfl, _, rfl, e, _, rfl, rfl, by show 2 ≤ sizeLine; decide, fun p hp => q _ p (Ex.new hp) hp ?_⟩
        rw [upd_same, en, ed, ev]
theorem ok_power_of {f : Addr} {fd : FuncData} (T : Top mg) (F : FnP K "power_of" s_power_of f fd) : FnOk P w K mg base CX0 1 f fd ["base", "k"] spPow := by
  have sc := sc_power_of
  refine ok0 F sc (fun vs H Q E h => ?_) (fun cdv A outer s H vs Q E hr h => ?_)
  · obtain ⟨b, k, rfl, _⟩ := h
    rfl
  · obtain ⟨b, k, rfl, hb, hk, q⟩ := h
    refine ⟨_, (pss_cons (ps_set (i := 2) sc.nd rfl (.inl rfl) pe_int)
    (pss_cons (ps_for PassesOwn.never rfl (pi_range3 (by rfl) T.range (pa_cons (pe_op op_sub (pe_bits (pv 1)) pe_int) (pa_cons (pe_un un_neg pe_int) (pa_cons (pe_un un_neg pe_int) pa_nil)))) (pg_name (i := 3) sc.nd rfl (.inl rfl))
      (pss_cons (ps_aug (i := 2) sc.nd rfl (.inl rfl) (pv 2) iop_mulX)
      (pss_one (ps_if (pt_truth (pe_op op_and1 (pe_op op_shrN (pv 1) (pv 3)) pe_int) (fun _ => rfl))
        (pss_one (ps_aug (i := 2) sc.nd rfl (.inl rfl) (pv 0) iop_mulX)) pss_nil))))
    (pss_one (ps_ret (pv 2))))), ?_⟩
    obtain ⟨L, hL⟩ : ∃ L, L = Builtin.Int.intBits (k : Int) := ⟨_, rfl⟩
    have L10 : L ≤ 10 := by
      rw [hL]
      exact PyProof.Rows.intBits_le (a := (k : Int)) (k := 10) (by rw [Int.natAbs_natCast]; exact Nat.lt_of_le_of_lt hk (by decide))
    have kL : k < 2 ^ L := by
      by_cases z : k = 0
      · rw [z]; exact Nat.pow_pos (by decide)
      · rw [hL, bits_of (by omega), Int.natAbs_natCast]
        exact Nat.lt_log2_self
    refine ⟨.int (k : Int), rfl, (k : Int), rfl, _, 1, rfl, rfl, 1, rfl, 1, rfl, _, -1, -1, L, rfl, ?_, ?_⟩
    · have := RgC.neg (i := ((L : Nat) : Int) - 1) (j := -1) (by omega) (by omega) (by omega) (by omega)
      rw [show (((L : Nat) : Int) - 1 - -1).toNat = L by omega] at this
      rw [← hL]
      exact this
    refine for_rangeC (fun i σ' H' => Ex H H' ∧ i ≤ L ∧ ∃ t, σ' = [some (.int b), some (.int (k : Int)), some (.int (b ^ (k / 2 ^ (L - i)))), t]) ⟨Ex.refl H, Nat.zero_le _, none, ?_⟩ (fun i σ' H' hi hp => ?_) (fun σ' H' hp => ?_)
    · rw [Nat.sub_zero, Nat.div_eq_of_lt kL, Int.pow_zero]
      rfl
    · obtain ⟨e1, _, t, rfl⟩ := hp
      rw [← hL]
      have ei : ((L : Nat) : Int) - 1 + ((i : Nat) : Int) * -1 = ((L - 1 - i : Nat) : Int) := by omega
      rw [ei]
      refine g_name ?_
      have m1 : k / 2 ^ (L - i) ≤ 1000 := Nat.le_trans (Nat.div_le_self _ _) hk
      have b3 : b.natAbs ≤ 2 ^ 3 := hb
      have x1 := pw_le b3 (k / 2 ^ (L - i))
      have x2 : (b ^ (k / 2 ^ (L - i))).natAbs ≤ 2 ^ 3000 := Nat.le_trans x1 (Nat.pow_le_pow_right (by decide) (by omega))
      have x4 : (b ^ (k / 2 ^ (L - i)) * b ^ (k / 2 ^ (L - i))).natAbs ≤ 2 ^ 6000 := by
        rw [Int.natAbs_mul, show (2 : Nat) ^ 6000 = 2 ^ 3000 * 2 ^ 3000 from Nat.pow_add 2 3000 3000]
        exact Nat.mul_le_mul x2 x2
      refine ⟨_, rfl, _, rfl, _, _, rfl, rfl, ml x2 x2 (by decide), ?_⟩
      have eL : L - i = (L - 1 - i) + 1 := by omega
      have eh : k / 2 ^ (L - i) = k / 2 ^ (L - 1 - i) / 2 := by
        rw [eL, Nat.pow_succ, Nat.div_div_eq_div_mul]
      have eL2 : L - (i + 1) = L - 1 - i := by omega
      have sh := shr_nat k (L - 1 - i)
      have m2 : k / 2 ^ (L - 1 - i) ≤ 1000 := Nat.le_trans (Nat.div_le_self _ _) hk
      rw [eL2]
      rw [eh] at x4 ⊢
      generalize k / 2 ^ (L - 1 - i) = m at *
      refine ⟨.int (k : Int), rfl, .int ((L - 1 - i : Nat) : Int), rfl, (k : Int), L - 1 - i, rfl, rfl, rfl, .inl ⟨_, rfl, _, rfl, ?_⟩⟩
      rw [sh]
      refine ite2 (fun z => ?_) (fun z => ?_)
      · have z : m = m / 2 + m / 2 + 1 := by
          have : ((m : Int) % 2) ≠ 0 := bne_iff_ne.mp z
          omega
        refine ⟨_, rfl, .int b, rfl, _, _, rfl, rfl, ml x4 b3 (by decide), e1, hi, some (.int ((L - 1 - i : Nat) : Int)), ?_⟩
        have e : b ^ m = b ^ (m / 2) * b ^ (m / 2) * b := by
          have := congrArg (fun y => b ^ y) z
          rw [show b ^ m = b ^ (m / 2 + m / 2 + 1) from this, Int.pow_succ, Int.pow_add]
        rw [e]
        rfl
      · have z : m = m / 2 + m / 2 := by
          have : (m : Int) % 2 = 0 := by
            refine Classical.byContradiction fun y => z (bne_iff_ne.mpr y)
          omega
        refine ⟨e1, hi, some (.int ((L - 1 - i : Nat) : Int)), ?_⟩
        have e : b ^ m = b ^ (m / 2) * b ^ (m / 2) := by
          have := congrArg (fun y => b ^ y) z
          rw [show b ^ m = b ^ (m / 2 + m / 2) from this, Int.pow_add]
        rw [e]
        rfl
    · obtain ⟨e1, _, t, rfl⟩ := hp
      dsimp only
      rw [Nat.sub_self, Nat.pow_zero, Nat.div_one]
      exact ⟨_, rfl, q H' e1⟩
theorem ok_figures_of {f : Addr} {fd : FuncData} {tP tT : Tok} (T : Top mg) (T_divmod : mg "divmod" = none) (m_PART : mg "PART" = some (.int 60 tP)) (m_TEN_TO_PART : mg "TEN_TO_PART" = some (.int (10 ^ 60) tT)) (F : FnP K "figures_of" s_figures_of f fd) : FnOk P w K mg base CX0 1 f fd ["size"] spFigs := by
  have sc := sc_figures_of
  refine ok0 F sc (fun vs H Q E h => ?_) (fun cdv A outer s H vs Q E hr h => ?_)
  · obtain ⟨n, rfl, _⟩ := h
    rfl
  · obtain ⟨n, rfl, hn, q⟩ := h
    refine ⟨_, (pss_cons (ps_set (i := 1) sc.nd rfl (.inl rfl) (pe_lst pa_nil))
    (pss_cons (ps_while PassesOwn.never (pt_cmpR op_ge (pv 0) (pe_glob (v := .int (10 ^ 60)) (by rfl) m_TEN_TO_PART ⟨_, rfl⟩) (nomark _))
      (pss_cons (ps_asg (pe_callB call_divmodW (by rfl) T_divmod (by decide +kernel) (pa_cons (pv 0) (pa_cons (pe_glob (v := .int (10 ^ 60)) (by rfl) m_TEN_TO_PART ⟨_, rfl⟩) pa_nil))) (pg_tup rfl (pgs_cons (pg_name (i := 0) sc.nd rfl (.inl rfl)) (pgs_cons (pg_name (i := 2) sc.nd rfl (.inl rfl)) pgs_nil))))
      (pss_one (ps_expr (pe_bm PySem.F.plainAttrs_list PySem.F.slot_list_append PySem.F.type_list_append mt_append (pv 1) (pa_cons (pe_m1 PySem.F.slot_str_zfill PySem.F.type_str_zfill mt_zfill (pe_callTy call_str_int (by rfl) T.ty_str (by decide +kernel) (pa_cons (pv 2) pa_nil)) (pe_glob (v := .int 60) (by rfl) m_PART ⟨_, rfl⟩)) pa_nil))))))
    (pss_cons (ps_expr (pe_bm PySem.F.plainAttrs_list PySem.F.slot_list_append PySem.F.type_list_append mt_append (pv 1) (pa_cons (pe_callTy call_str_int (by rfl) T.ty_str (by decide +kernel) (pa_cons (pv 0) pa_nil)) pa_nil)))
    (pss_one (ps_ret (pe_join pe_str (pe_revL (pv 1)))))))), ?_⟩
    refine ⟨by show 0 ≤ sizeLine; decide, fun R nR => ?_⟩
    have e1 := Ex.new (o := .lst []) nR
    have hR : (upd H R (.lst [])) R = some (.lst []) := upd_same
    generalize upd H R (.lst []) = H1 at e1 hR ⊢
    have p60 : (10 : Int) ^ 60 = ((10 ^ 60 : Nat) : Int) := by decide +kernel
    have toC : ∀ {H' : Hp}, (∀ b o, H b = some o → b ≠ R → H' b = some o) → Ex H H' := fun {H'} k b o hb => k b o hb (ne_of_none hb nR)
    refine q_while (fun m σ' H' => ∃ (u : Nat) (ps : List (List Nat)) (t : Option V), σ' = [some (.int (u : Int)), some (.ref R), t] ∧ Ex H H' ∧ H' R = some (.lst (ps.map fun p => V.str (SX.S p))) ∧ dig n = dig u ++ ps.reverse.flatten ∧ (∀ p ∈ ps, p.length = 60) ∧ u * 2 ^ ps.length ≤ n ∧ m = u) n ⟨n, [], none, rfl, e1, hR, by rw [List.reverse_nil, List.flatten_nil, List.append_nil], (fun p h => by cases h), by rw [List.length_nil, Nat.pow_zero, Nat.mul_one]; exact Nat.le_refl n, rfl⟩ ?_
    rintro m σ' H2 ⟨u, ps, t, rfl, e2, hR2, hd, h60, hps, hm⟩
    have upos : 0 < 2 ^ ps.length := Nat.pow_pos (by decide)
    have un : u ≤ n := Nat.le_trans (Nat.le_mul_of_pos_right u upos) hps
    have dl := dig_len_bd hn
    have psl : ps.length ≤ 1000 := by
      have h1 := congrArg List.length hd
      rw [List.length_append] at h1
      have h2 : ∀ l : List (List Nat), (∀ p ∈ l, p.length = 60) → l.length ≤ l.reverse.flatten.length := fun l => by
        induction l with
        | nil => exact fun _ => Nat.le_refl 0
        | cons a l ih =>
          intro h
          have := ih fun p hp => h p (List.mem_cons_of_mem _ hp)
          have h3 := h a List.mem_cons_self
          rw [List.reverse_cons, List.flatten_append, List.length_append, List.length_cons]
          have h4 : [a].flatten.length = 60 := by rw [List.flatten_cons, List.flatten_nil, List.append_nil]; exact h3
          omega
      have := h2 ps h60
      omega
    have ub : u < 2 ^ 3000 := Nat.lt_of_le_of_lt un hn
    refine ⟨_, et_test (ev_op (ev_var (i := 0) rfl) ev_c rv_I0), fun hz H3 e3 => ?_, fun hz H3 e3 => ?_⟩
    · have hz : (10 : Int) ^ 60 ≤ (u : Int) := of_decide_eq_true hz
      have hz2 : 10 ^ 60 ≤ u := by rw [p60] at hz; exact Int.ofNat_le.mp hz
      refine ⟨_, fun _ _ h => h, ?_⟩
      have cd : CDivP (u : Int) (10 ^ 60) := by
        refine divp_ok (by decide +kernel) ?_
        have := PyProof.Rows.intBits_le (a := (u : Int)) (k := 3000) (by rw [Int.natAbs_natCast]; exact ub)
        omega
      refine ⟨.int (u : Int), rfl, (u : Int), 10 ^ 60, rfl, cd, fun p hp => ?_⟩
      have e4 := Ex.new (o := .tup [.int ((u : Int) / 10 ^ 60), .int ((u : Int) % 10 ^ 60)]) hp
      refine ⟨p, _, rfl, st_of upd_same, rfl, _, _, rfl, _, [], rfl, rfl, ?_⟩
      have hR4 := (e3.trans e4) _ _ hR2
      have e14 := (e2.trans e3).trans e4
      generalize upd H3 p (.tup [.int ((u : Int) / 10 ^ 60), .int ((u : Int) % 10 ^ 60)]) = H4 at hR4 e14 ⊢
      have q1 : (u : Int) / 10 ^ 60 = ((u / 10 ^ 60 : Nat) : Int) := by rw [p60]; rfl
      have q2 : (u : Int) % 10 ^ 60 = ((u % 10 ^ 60 : Nat) : Int) := by rw [p60]; rfl
      dsimp only
      rw [q1, q2]
      have r60 : u % 10 ^ 60 < 10 ^ 60 := Nat.mod_lt _ (Nat.pow_pos (by decide))
      have sds := dig_split 60 u hz2
      have ez : Txt.zfill (PySem.Str.ofString (toString ((u % 10 ^ 60 : Nat) : Int))) 60 = SX.S (pad 60 (u % 10 ^ 60)) := by
        rw [ts_nat, (pad_zeros 59 _ r60).2]
        exact zfill_S (k := 60) (dig_fig _) (List.ne_nil_of_length_pos (dig_pos _))
      have hq10 : u / 10 ^ 60 * 2 ≤ u := by
        have h1 := Nat.div_mul_le_self u (10 ^ 60)
        have h2 : u / 10 ^ 60 * 2 ≤ u / 10 ^ 60 * 10 ^ 60 := Nat.mul_le_mul_left _ (by decide +kernel)
        omega
      have hqlt : u / 10 ^ 60 < u := Nat.div_lt_self (Nat.lt_of_lt_of_le (Nat.pow_pos (by decide)) hz2) (by decide +kernel)
      generalize u % 10 ^ 60 = r at *
      generalize u / 10 ^ 60 = v at *
      refine ⟨.ref R, rfl, .inl ⟨rfl, _, sq_of hR4⟩, ?_⟩
      have rlog : ((r : Int)).natAbs.log2 < 1920 := by
        rw [Int.natAbs_natCast]
        exact PySem.Flt.log2_lt_of (by decide) (Nat.lt_trans (Nat.lt_of_lt_of_le r60 (by decide +kernel : 10 ^ 60 ≤ 2 ^ 200)) (Nat.pow_lt_pow_right (by decide) (by decide)))
      refine ⟨.int (r : Int), rfl, (r : Int), rfl, rlog, ⟨_, rfl⟩, _, _, rfl, rfl, by decide, ?_⟩
      refine ⟨R, _, _, rfl, rfl, hR4, sz_lt (by rw [List.length_map]; omega), ?_⟩
      refine ⟨v, by omega, v, ps ++ [pad 60 r], some (.int (r : Int)), rfl, e14.mut nR, ?_, ?_, fun p hp => ?_, ?_, rfl⟩
      · rw [ez, List.map_append]
        exact upd_same
      · rw [hd, sds, List.reverse_append, List.append_assoc]
        rfl
      · rcases List.mem_append.mp hp with h | h
        · exact h60 p h
        · rw [List.mem_singleton.mp h, pad_len]
      · rw [List.length_append, List.length_singleton, Nat.pow_succ, Nat.mul_comm _ 2, ← Nat.mul_assoc]
        exact Nat.le_trans (Nat.mul_le_mul_right _ hq10) hps
    · have hz : ¬ (10 : Int) ^ 60 ≤ (u : Int) := of_decide_eq_false hz
      have hz2 : u < 10 ^ 60 := by
        rw [p60] at hz
        exact Nat.lt_of_not_le fun y => hz (Int.ofNat_le.mpr y)
      have hR3 := e3 _ _ hR2
      have e13 := e2.trans e3
      refine ⟨.ref R, rfl, .inl ⟨rfl, _, sq_of hR3⟩, ?_⟩
      have ulog : ((u : Int)).natAbs.log2 < 1920 := by
        rw [Int.natAbs_natCast]
        exact PySem.Flt.log2_lt_of (by decide) (Nat.lt_trans (Nat.lt_of_lt_of_le hz2 (by decide +kernel : 10 ^ 60 ≤ 2 ^ 200)) (Nat.pow_lt_pow_right (by decide) (by decide)))
      refine ⟨.int (u : Int), rfl, (u : Int), rfl, ulog, ?_⟩
      refine ⟨R, _, _, rfl, rfl, hR3, sz_lt (by rw [List.length_map]; omega), ?_⟩
      have e4 : Ex H (upd H3 R (.lst ((ps.map fun p => V.str (SX.S p)) ++ [.str (PySem.Str.ofString (toString (u : Int)))]))) := e13.mut nR
      have hR4 : (upd H3 R (.lst ((ps.map fun p => V.str (SX.S p)) ++ [.str (PySem.Str.ofString (toString (u : Int)))]))) R = some (.lst ((ps.map fun p => V.str (SX.S p)) ++ [.str (PySem.Str.ofString (toString (u : Int)))])) := upd_same
      dsimp only
      generalize upd H3 R (.lst ((ps.map fun p => V.str (SX.S p)) ++ [.str (PySem.Str.ofString (toString (u : Int)))])) = H4 at e4 hR4 ⊢
      refine ⟨⟨_, rfl⟩, .ref R, rfl, R, _, rfl, sq_of hR4, fun p hp => ?_⟩
      have el : ((ps.map fun p => V.str (SX.S p)) ++ [V.str (PySem.Str.ofString (toString (u : Int)))]).reverse = (((dig u :: ps.reverse).map SX.S).map V.str) := by
        rw [ts_nat, List.reverse_append, List.map_map, List.map_cons, ← List.map_reverse]
        rfl
      have hjl : TL.joinL [] (dig u :: ps.reverse) = dig n := by
        rw [joinL_nil, List.flatten_cons, hd]
      rw [el]
      refine ⟨_, p, (dig u :: ps.reverse).map SX.S, rfl, rfl, .inl (sq_of upd_same), ?_, ?_⟩
      · rw [SX.lens, ← List.length_flatten, List.flatten_cons, ← hd]
        show (dig n).length + ((dig u :: ps.reverse).map SX.S).length * 0 ≤ 16777216
        omega
      · have ej : Txt.join (SX.S []) ((dig u :: ps.reverse).map SX.S) = SX.S (dig n) := by rw [SX.join_S, hjl]
        have := q (upd H4 p (.lst (((dig u :: ps.reverse).map SX.S).map V.str))) (e4.trans (Ex.new hp))
        rw [← ej] at this
        exact this
theorem ok_whole_text {f f1 : Addr} {fd fd1 : FuncData} (T : Top mg) (F : FnP K "whole_text" s_whole_text f fd) (c_figures_of : Cal P w K mg base CX0 1 "figures_of" ["size"] spFigs f1 fd1) : FnOk P w K mg base CX0 2 f fd ["whole"] spWt := by
  have sc := sc_whole_text
  refine ok0 F sc (fun vs H Q E h => ?_) (fun cdv A outer s H vs Q E hr h => ?_)
  · obtain ⟨i, rfl, _⟩ := h
    rfl
  · obtain ⟨i, rfl, hi, q⟩ := h
    refine ⟨_, (pss_one (ps_ret (pe_ifExp (pt_cmpR op_lt (pv 0) pe_int (nomark _)) (pe_op op_add_str pe_str (pe_call c_figures_of.ok (hr.mono (by decide)) (by rfl) c_figures_of.m c_figures_of.kp c_figures_of.b .nil pass0 (pa_cons (pe_un un_neg (pv 0)) pa_nil))) (pe_call c_figures_of.ok (hr.mono (by decide)) (by rfl) c_figures_of.m c_figures_of.kp c_figures_of.b .nil pass0 (pa_cons (pv 0) pa_nil))))), ?_⟩
    unfold cod at q
    have dl := dig_len_bd hi
    refine ⟨.int i, rfl, i, 0, rfl, rfl, _, rfl, ite2 (fun z => ?_) (fun z => ?_)⟩
    · have z : i < 0 := of_decide_eq_true z
      rw [if_pos z] at q
      refine ⟨.int i, rfl, i, rfl, i.natAbs, congrArg (fun y => [V.int y]) (show -i = ((i.natAbs : Nat) : Int) by omega), hi, fun H1 e1 => ⟨_, _, rfl, rfl, cat_ok (a := [45]) (by show 1 + _ ≤ 100000; omega), ?_⟩⟩
      have e : SX.S [45] ++ SX.S (dig i.natAbs) = SX.S (45 :: dig i.natAbs) := SX.S_cat [45] (dig i.natAbs)
      have := q H1 e1
      rw [← e] at this
      exact this
    · have z : ¬ i < 0 := fun y => z (decide_eq_true y)
      rw [if_neg z] at q
      exact ⟨.int i, rfl, i.natAbs, congrArg (fun y => [V.int y]) (show i = ((i.natAbs : Nat) : Int) by omega), hi, q⟩
theorem ok_number_text {f f1 f2 : Addr} {fd fd1 fd2 : FuncData} (T : Top mg) (F : FnP K "number_text" s_number_text f fd) (c_need_number : Cal P w K mg base CX0 2 "need_number" ["thing"] (spNeed K) f1 fd1) (c_whole_text : Cal P w K mg base CX0 2 "whole_text" ["whole"] spWt f2 fd2) : FnOk P w K mg base CX0 3 f fd ["number"] (spNt K) := by
  have sc := sc_number_text
  refine ok0 F sc (fun vs H Q E h => ?_) (fun cdv A outer s H vs Q E hr h => ?_)
  · obtain ⟨v, n, rfl, _⟩ := h
    rfl
  · obtain ⟨v, n, rfl, gv, q⟩ := h
    refine ⟨_, (pss_cons (ps_expr (pe_call c_need_number.ok (hr.mono (by decide)) (by rfl) c_need_number.m c_need_number.kp c_need_number.b .nil pass0 (pa_cons (pv 0) pa_nil)))
    (pss_cons (ps_asg (pv 0) (pg_tup rfl (pgs_cons (pg_name (i := 1) sc.nd rfl (.inl rfl)) (pgs_cons (pg_name (i := 2) sc.nd rfl (.inl rfl)) pgs_nil))))
    (pss_one (ps_ret (pe_op op_add_str (pe_op op_add_str (pe_call c_whole_text.ok (hr.mono (by decide)) (by rfl) c_whole_text.m c_whole_text.kp c_whole_text.b .nil pass0 (pa_cons (pv 1) pa_nil)) pe_str) (pe_call c_whole_text.ok (hr.mono (by decide)) (by rfl) c_whole_text.m c_whole_text.kp c_whole_text.b .nil pass0 (pa_cons (pv 2) pa_nil))))))), ?_⟩
    have b1 : n.1.natAbs < 2 ^ 3000 := Nat.lt_of_lt_of_le gv.bd.1 (Nat.pow_le_pow_right (by decide) (by decide))
    have b2 : n.2.natAbs < 2 ^ 3000 := Nat.lt_of_le_of_lt gv.bd.2 (Nat.lt_of_lt_of_le (by decide : 2000 < 2 ^ 11) (Nat.pow_le_pow_right (by decide) (by decide)))
    have l1 := cod_len b1
    have l2 := cod_len b2
    refine ⟨v, rfl, v, rfl, gv.num, fun H1 e1 => ?_⟩
    obtain ⟨r, rfl, hr1⟩ := (gv.ex e1).at_
    refine ⟨.ref r, rfl, r, [.int n.1, .int n.2], rfl, hr1, rfl, .int n.1, [.int n.2], rfl, .int n.2, [], rfl, rfl, ?_⟩
    refine ⟨.int n.1, rfl, n.1, rfl, b1, fun H2 e2 => ⟨_, _, rfl, rfl, cat_ok (b := [112]) (by show _ + 1 ≤ 100000; omega), .int n.2, rfl, n.2, rfl, b2, fun H3 e3 => ?_⟩⟩
    have e : SX.S (cod n.1) ++ SX.S [112] ++ SX.S (cod n.2) = SX.S (ntx n) := by
      rw [SX.S_cat, SX.S_cat]
      rfl
    have q := q H3 ((e1.trans e2).trans e3)
    rw [← e] at q
    refine ⟨_, _, rfl, rfl, ?_, q⟩
    rw [SX.S_cat]
    refine cat_ok ?_
    rw [List.length_append]
    show _ + 1 + _ ≤ 100000
    omega
def spIsFG : Sp := fun vs H Q _ => ∃ l : List Nat, vs = [.str (SX.S l)] ∧ Q (.bl (figB l)) H
theorem ok_is_figures {f : Addr} {fd : FuncData} (T : Top mg) (F : FnP K "is_figures" s_is_figures f fd) : FnOk P w K mg base CX0 1 f fd ["text"] spIsFG := by
  have sc := sc_is_figures
  refine ok0 F sc (fun vs H Q E h => ?_) (fun cdv A outer s H vs Q E hr h => ?_)
  · obtain ⟨l, rfl, _⟩ := h
    rfl
  · obtain ⟨l, rfl, q⟩ := h
    refine ⟨_, (pss_one (ps_ret (pe_and (pe_m0 PySem.F.slot_str_isascii PySem.F.type_str_isascii mt_isascii (pv 0)) (pe_one (pe_m0 PySem.F.slot_str_isdigit PySem.F.type_str_isdigit mt_isdigit (pv 0)))))), ?_⟩
    refine ⟨.str (SX.S l), rfl, ⟨_, rfl⟩, SX.S l, rfl, rfl, trivial, l.all (fun c => decide (c < 128)), by rw [isascii_any], ?_⟩
    cases ha : l.all (fun c => decide (c < 128)) with
    | false =>
      have e : figB l = false := by
        cases hf : figB l with
        | false => rfl
        | true =>
          rw [fig_ascii hf] at ha
          cases ha
      rw [e] at q
      exact iteF q
    | true =>
      refine iteT ⟨.str (SX.S l), rfl, ⟨_, rfl⟩, SX.S l, rfl, rfl, trivial, ?_⟩
      rw [isdigit_any ha]
      exact q
def spIsSG : Sp := fun vs H Q _ => ∃ l : List Nat, vs = [.str (SX.S l)] ∧ Q (.bl (sizB l)) H
theorem ok_is_size {f f1 : Addr} {fd fd1 : FuncData} (T : Top mg) (F : FnP K "is_size" s_is_size f fd) (c_is_figures : Cal P w K mg base CX0 1 "is_figures" ["text"] spIsFG f1 fd1) : FnOk P w K mg base CX0 2 f fd ["text"] spIsSG := by
  have sc := sc_is_size
  refine ok0 F sc (fun vs H Q E h => ?_) (fun cdv A outer s H vs Q E hr h => ?_)
  · obtain ⟨l, rfl, _⟩ := h
    rfl
  · obtain ⟨l, rfl, q⟩ := h
    refine ⟨_, (pss_one (ps_ret (pe_and (pe_call c_is_figures.ok (hr.mono (by decide)) (by rfl) c_is_figures.m c_is_figures.kp c_is_figures.b .nil pass0 (pa_cons (pv 0) pa_nil)) (pe_one (pe_or (pe_cmpR op_eq (pv 0) pe_str (nomark _)) (pe_one (pe_not (pe_m1 PySem.F.slot_str_startswith PySem.F.type_str_startswith mt_startswith (pv 0) pe_str)))))))), ?_⟩
    refine ⟨.str (SX.S l), rfl, l, rfl, figB l, rfl, ?_⟩
    unfold sizB at q
    cases hf : figB l with
    | false =>
      rw [hf] at q
      exact iteF q
    | true =>
      rw [hf, Bool.true_and] at q
      refine iteT ⟨.str (SX.S l), rfl, rfl, decide (l = [48]), congrArg V.bl (S_eq l [48]), ?_⟩
      cases z : decide (l = [48]) with
      | true =>
        rw [z] at q
        exact iteT q
      | false =>
        rw [z, Bool.false_or] at q
        refine iteF ⟨.str (SX.S l), rfl, ⟨_, rfl⟩, SX.S l, SX.S [48], rfl, rfl, _, rfl, ?_⟩
        rw [starts_S]
        exact q
theorem rg60 : ∀ f : _root_.Fin 60, ∀ n : _root_.Fin 34, Builtin.Range.small (f.val : Int) ((f.val + 60 * n.val : Nat) : Int) 60 = true ∧ Builtin.Range.rangeSize (f.val : Int) ((f.val + 60 * n.val : Nat) : Int) 60 = n.val := by decide +kernel
theorem rg_part {len : Nat} (h : len ≤ 2000) : RgC ((len % 60 : Nat) : Int) (len : Int) 60 (len / 60) := by
  have r := rg60 ⟨len % 60, Nat.mod_lt _ (by decide)⟩ ⟨len / 60, by omega⟩
  have e : len % 60 + 60 * (len / 60) = len := Nat.mod_add_div len 60
  dsimp only at r
  rw [e] at r
  exact ⟨by decide, by decide, r.1, r.2⟩
theorem slice_mid {l : List Nat} {a b : Nat} (hab : a ≤ b) (hb : b ≤ l.length) : Txt.slice (SX.S l) (some (a : Int)) (some (b : Int)) = SX.S ((l.drop a).take (b - a)) := TL.ext_tl (PySem.W.os_slice (t := SX.S l) hab (by rw [SX.S_len]; exact hb))
def spSf : Sp := fun vs H Q _ => ∃ l : List Nat, vs = [.str (SX.S l)] ∧ Fig l ∧ l.length ≤ 2000 ∧ ∀ H', Ex H H' → Q (.int (val l : Int)) H'
theorem fig_sub {l m : List Nat} (h : Fig l) (hs : ∀ c ∈ m, c ∈ l) : Fig m := fun c hc => h c (hs c hc)
theorem val_bd {l : List Nat} (h : Fig l) : val l < 10 ^ l.length := by
  induction hn : l.length generalizing l with
  | zero =>
    have : l = [] := List.length_eq_zero_iff.mp hn
    rw [this]
    decide
  | succ k ih =>
    have hne : l ≠ [] := fun z => by rw [z] at hn; cases hn
    have e := (List.dropLast_concat_getLast hne).symm
    have hf : Fig l.dropLast := fig_sub h fun c hc => List.dropLast_subset l hc
    have hl := h _ (List.getLast_mem hne)
    have i := ih hf (by rw [List.length_dropLast, hn]; rfl)
    rw [e, val_snoc, Nat.pow_succ]
    omega
theorem ok_size_from {f : Addr} {fd : FuncData} {tP tT : Tok} (T : Top mg) (m_PART : mg "PART" = some (.int 60 tP)) (m_TEN_TO_PART : mg "TEN_TO_PART" = some (.int (10 ^ 60) tT)) (F : FnP K "size_from" s_size_from f fd) : FnOk P w K mg base CX0 1 f fd ["figures"] spSf := by
  have sc := sc_size_from
  refine ok0 F sc (fun vs H Q E h => ?_) (fun cdv A outer s H vs Q E hr h => ?_)
  · obtain ⟨l, rfl, _⟩ := h
    rfl
  · obtain ⟨l, rfl, hf, hl, q⟩ := h
    refine ⟨_, (pss_cons (ps_set (i := 1) sc.nd rfl (.inl rfl) (pe_op op_mod (pe_callB call_len (by rfl) T.len (by decide +kernel) (pa_cons (pv 0) pa_nil)) (pe_glob (v := .int 60) (by rfl) m_PART ⟨_, rfl⟩)))
    (pss_cons (ps_set (i := 2) sc.nd rfl (.inl rfl) (pe_callTy call_int_str (by rfl) T.ty_int (by decide +kernel) (pa_cons (pe_op op_add_str pe_str (pe_slice C8.sl_txt (pv 0) po_none (po_some (pv 1)))) pa_nil)))
    (pss_cons (ps_for PassesOwn.never rfl (pi_range3 (by rfl) T.range (pa_cons (pv 1) (pa_cons (pe_callB call_len (by rfl) T.len (by decide +kernel) (pa_cons (pv 0) pa_nil)) (pa_cons (pe_glob (v := .int 60) (by rfl) m_PART ⟨_, rfl⟩) pa_nil)))) (pg_name (i := 3) sc.nd rfl (.inl rfl))
      (pss_one (ps_set (i := 2) sc.nd rfl (.inl rfl) (pe_op op_add (pe_op op_mulX (pv 2) (pe_glob (v := .int (10 ^ 60)) (by rfl) m_TEN_TO_PART ⟨_, rfl⟩)) (pe_callTy call_int_str (by rfl) T.ty_int (by decide +kernel) (pa_cons (pe_slice C8.sl_txt (pv 0) (po_some (pv 3)) (po_some (pe_op op_add (pv 3) (pe_glob (v := .int 60) (by rfl) m_PART ⟨_, rfl⟩)))) pa_nil))))))
    (pss_one (ps_ret (pv 2)))))), ?_⟩
    have sl : (SX.S l).length ≤ sizeLine := by rw [SX.S_len, sizeLine_eq]; omega
    have lenV : LenV K (.str (SX.S l)) H l.length := ⟨sl, (SX.S_len l).symm⟩
    have em : (l.length : Int) % 60 = ((l.length % 60 : Nat) : Int) := by omega
    refine ⟨.str (SX.S l), rfl, _, l.length, rfl, lenV, _, _, rfl, rfl, by show (0 : Int) < 60; decide, ?_⟩
    dsimp only
    rw [em]
    generalize hfst : l.length % 60 = a
    have a60 : a < 60 := by omega
    have al : a ≤ l.length := by omega
    have s1 : Txt.slice (SX.S l) none (some (a : Int)) = SX.S (l.take a) := SX.slice_to (Int.natCast_nonneg a)
    have c1 : SX.S [48] ++ SX.S (l.take a) = SX.S (48 :: l.take a) := SX.S_cat [48] (l.take a)
    have ft : Fig (48 :: l.take a) := fun c hc => by
      rcases List.mem_cons.mp hc with h | h
      · omega
      · exact hf c (List.mem_of_mem_take h)
    have i1 : PySem.intText? (SX.S (48 :: l.take a)) = some ((val (l.take a) : Nat) : Int) := by
      have e := PySem.intText_digits (x := SX.S (48 :: l.take a)) ft (List.cons_ne_nil _ _) (by rw [SX.S_len, List.length_cons, List.length_take]; omega)
      refine e.trans ?_
      show some ((val (48 :: l.take a) : Nat) : Int) = _
      rw [show 48 :: l.take a = [48] ++ l.take a from rfl, val_app]
      show some (((0 * _ + val (l.take a) : Nat)) : Int) = _
      rw [Nat.zero_mul, Nat.zero_add]
    have tl : (l.take a).length = a := by rw [List.length_take]; omega
    refine ⟨.str (SX.S l), rfl, .int (a : Int), rfl, (a : Int), rfl, SX.S l, rfl, sl, ?_⟩
    rw [s1]
    refine ⟨_, _, rfl, rfl, cat_ok (a := [48]) (by rw [tl]; show 1 + a ≤ 100000; omega), _, _, rfl, (congrArg PySem.intText? c1).trans i1, by
      show (SX.S [48] ++ SX.S (l.take a)).length ≤ 640
      rw [c1, SX.S_len, List.length_cons, tl]
      omega, ?_⟩
    refine ⟨.int (a : Int), rfl, .str (SX.S l), rfl, _, l.length, rfl, lenV, (a : Int), (l.length : Int), 60, l.length / 60, rfl, hfst ▸ rg_part hl, ?_⟩
    have am : a + 60 * (l.length / 60) = l.length := by rw [← hfst]; exact Nat.mod_add_div l.length 60
    refine for_rangeC (fun i σ' H' => H' = H ∧ i ≤ l.length / 60 ∧ ∃ t, σ' = [some (.str (SX.S l)), some (.int (a : Int)), some (.int ((val (l.take (a + 60 * i)) : Nat) : Int)), t]) ⟨rfl, Nat.zero_le _, none, rfl⟩ (fun i σ' H' hi hp => ?_) (fun σ' H' hp => ?_)
    · obtain ⟨rfl, _, t, rfl⟩ := hp
      refine g_name ?_
      rw [show (a : Int) + (i : Nat) * 60 = ((a + 60 * i : Nat) : Int) by omega]
      have b1 : a + 60 * i + 60 ≤ l.length := by omega
      have s2 : Txt.slice (SX.S l) (some ((a + 60 * i : Nat) : Int)) (some (((a + 60 * i : Nat) : Int) + 60)) = SX.S ((l.drop (a + 60 * i)).take 60) := by
        have := slice_mid (l := l) (a := a + 60 * i) (b := a + 60 * i + 60) (by omega) b1
        rw [show a + 60 * i + 60 - (a + 60 * i) = 60 by omega] at this
        exact this
      have l60 : ((l.drop (a + 60 * i)).take 60).length = 60 := by rw [List.length_take, List.length_drop]; omega
      have i2 : PySem.intText? (SX.S ((l.drop (a + 60 * i)).take 60)) = some ((val ((l.drop (a + 60 * i)).take 60) : Nat) : Int) := PySem.intText_digits (x := SX.S ((l.drop (a + 60 * i)).take 60)) (fun c hc => hf c (List.mem_of_mem_drop (List.mem_of_mem_take hc))) (fun z => by
        have z2 : ((l.drop (a + 60 * i)).take 60) = [] := z
        rw [z2] at l60
        cases l60) (by rw [SX.S_len, l60]; decide)
      have et : l.take (a + 60 * (i + 1)) = l.take (a + 60 * i) ++ (l.drop (a + 60 * i)).take 60 := by
        rw [show a + 60 * (i + 1) = a + 60 * i + 60 by omega, List.take_add]
      have ev : val (l.take (a + 60 * (i + 1))) = val (l.take (a + 60 * i)) * 10 ^ 60 + val ((l.drop (a + 60 * i)).take 60) := by rw [et, val_app, l60]
      have vb : ((val (l.take (a + 60 * i)) : Nat) : Int).natAbs ≤ 2 ^ 8000 := by
        rw [Int.natAbs_natCast]
        have h1 := val_bd (l := l.take (a + 60 * i)) (fun c hc => hf c (List.mem_of_mem_take hc))
        have h2 : (l.take (a + 60 * i)).length ≤ 2000 := by rw [List.length_take]; omega
        refine Nat.le_of_lt (Nat.lt_of_lt_of_le h1 (Nat.le_trans (Nat.pow_le_pow_right (by decide) h2) ?_))
        have e8 : (2 : Nat) ^ 8000 = (2 ^ 4) ^ 2000 := by rw [← Nat.pow_mul]
        rw [e8]
        exact Nat.pow_le_pow_left (by decide) 2000
      refine ⟨_, rfl, _, _, rfl, rfl, ml (b := 200) vb (by decide +kernel) (by decide), .str (SX.S l), rfl, _, rfl, _, rfl, _, rfl, _, 60, rfl, rfl, _, rfl, SX.S l, rfl, sl, ?_⟩
      dsimp only
      rw [s2]
      refine ⟨_, _, rfl, i2, by rw [SX.S_len, l60]; decide, _, _, rfl, rfl, rfl, hi, some (.int ((a + 60 * i : Nat) : Int)), ?_⟩
      rw [ev, Int.natCast_add, Int.natCast_mul]
      rfl
    · obtain ⟨rfl, _, t, rfl⟩ := hp
      dsimp only
      rw [am, List.take_length]
      exact ⟨_, rfl, q _ (Ex.refl _)⟩
/-- a whole number, or None -/
def WholeV : Option Int → V
  | none => .non
  | some i => .int i
def spWoG : Sp := fun vs H Q _ => ∃ l : List Nat, vs = [.str (SX.S l)] ∧ l.length ≤ 1000 ∧ ∀ H', Ex H H' → Q (WholeV (wholeO l)) H'
theorem ok_whole_of {f f1 f2 : Addr} {fd fd1 fd2 : FuncData} (T : Top mg) (F : FnP K "whole_of" s_whole_of f fd) (c_is_size : Cal P w K mg base CX0 2 "is_size" ["text"] spIsSG f1 fd1) (c_size_from : Cal P w K mg base CX0 1 "size_from" ["figures"] spSf f2 fd2) : FnOk P w K mg base CX0 3 f fd ["text"] spWoG := by
  have sc := sc_whole_of
  refine ok0 F sc (fun vs H Q E h => ?_) (fun cdv A outer s H vs Q E hr h => ?_)
  · obtain ⟨l, rfl, _⟩ := h
    rfl
  · obtain ⟨l, rfl, hl, q⟩ := h
    refine ⟨_, (pss_cons (ps_if (pt_not (pt_val (pe_m1 PySem.F.slot_str_startswith PySem.F.type_str_startswith mt_startswith (pv 0) pe_str)))
      (pss_one (ps_ret (pe_ifExp (pt_val (pe_call c_is_size.ok (hr.mono (by decide)) (by rfl) c_is_size.m c_is_size.kp c_is_size.b .nil pass0 (pa_cons (pv 0) pa_nil))) (pe_call c_size_from.ok (hr.mono (by decide)) (by rfl) c_size_from.m c_size_from.kp c_size_from.b .nil pass0 (pa_cons (pv 0) pa_nil)) pe_non))) pss_nil)
    (pss_cons (ps_set (i := 1) sc.nd rfl (.inl rfl) (pe_slice C8.sl_txt (pv 0) (po_some pe_int) po_none))
    (pss_one (ps_ret (pe_ifExp (PW.pt (pw_and (pt_val (pe_call c_is_size.ok (hr.mono (by decide)) (by rfl) c_is_size.m c_is_size.kp c_is_size.b .nil pass0 (pa_cons (pv 1) pa_nil))) (pw_and1 (pt_cmpR op_ne (pv 1) pe_str (nomark _))))) (pe_un un_neg (pe_call c_size_from.ok (hr.mono (by decide)) (by rfl) c_size_from.m c_size_from.kp c_size_from.b .nil pass0 (pa_cons (pv 1) pa_nil))) pe_non))))), ?_⟩
    refine ⟨.str (SX.S l), rfl, ⟨_, rfl⟩, SX.S l, SX.S [45], rfl, rfl, _, rfl, ?_⟩
    rw [starts_S]
    unfold wholeO strM sgnB at q
    by_cases z : l.head? = some 45
    · rw [decide_eq_true z]
      rw [if_pos z, decide_eq_true z] at q
      refine iteF ?_
      refine ⟨.str (SX.S l), rfl, 1, rfl, SX.S l, rfl, by rw [SX.S_len, sizeLine_eq]; omega, ?_⟩
      have es : Txt.slice (SX.S l) (some 1) none = SX.S l.tail := by
        rw [SX.slice_from (a := l) (i := 1) (by decide)]
        show SX.S (l.drop 1) = _
        rw [List.drop_one]
      dsimp only
      rw [es]
      refine ⟨.str (SX.S l.tail), rfl, l.tail, rfl, sizB l.tail, rfl, ?_⟩
      have e0 : l.tail = [48] ↔ l = [45, 48] := by
        constructor
        · intro y
          cases l with
          | nil => cases z
          | cons c r =>
            have := Option.some.inj z
            have y : r = [48] := y
            rw [y, this]
        · intro y
          rw [y]
          rfl
      cases hs : sizB l.tail with
      | false =>
        rw [hs, if_neg (by simp)] at q
        exact iteF (iteF (q H (Ex.refl H)))
      | true =>
        rw [hs] at q
        refine iteT ⟨.str (SX.S l.tail), rfl, rfl, _, rfl, ?_⟩
        rw [show decide (V.str (SX.S l.tail) = V.str "0") = decide (l.tail = [48]) from S_eq l.tail [48]]
        by_cases y : l.tail = [48]
        · rw [decide_eq_true y]
          rw [if_neg (fun x => x.2 (e0.mp y))] at q
          exact iteF (q H (Ex.refl H))
        · rw [decide_eq_false y]
          rw [if_pos ⟨rfl, fun x => y (e0.mpr x)⟩] at q
          exact iteT ⟨.str (SX.S l.tail), rfl, l.tail, rfl, (sizB_fig hs).2, by rw [List.length_tail]; omega, fun H1 e1 => ⟨_, rfl, q H1 e1⟩⟩
    · rw [decide_eq_false z]
      rw [if_neg z, decide_eq_false z] at q
      refine iteT ⟨.str (SX.S l), rfl, l, rfl, sizB l, rfl, ?_⟩
      have e0 : l ≠ [45, 48] := fun y => z (by rw [y]; rfl)
      cases hs : sizB l with
      | false =>
        rw [hs, if_neg (by simp)] at q
        exact iteF (q H (Ex.refl H))
      | true =>
        rw [hs, if_pos ⟨rfl, e0⟩] at q
        exact iteT ⟨.str (SX.S l), rfl, l, rfl, (sizB_fig hs).2, by omega, fun H1 e1 => q H1 e1⟩
/-! ### read_number of anything -/
def NewT (H : Hp) (Q : VK) (vs : List V) : Prop := ∀ H' p, Ex H H' → H' p = some (.tup vs) → Q (.ref p) H'
theorem ty_strK {K : PySem.W.Frag} {H : Hp} (x : Str) : TyX K H (.str x) (.type "str") := .base (.str x)
/-- no text -/
def NoTx (K : PySem.W.Frag) (H : Hp) (v : V) : Prop := ∃ t, TyX K H v t ∧ PySem.W.kitOne K t (.type "str") = some false
theorem noTx_ex {K : PySem.W.Frag} {H H' : Hp} {v : V} (e : Ex H H') (h : NoTx K H v) : NoTx K H' v := by
  obtain ⟨t, a, b⟩ := h
  exact ⟨t, tyX_ex e a, b⟩
def GetO (H : Hp) (Q : VK) (E : XK) (N : Addr) : Option (Int × Int) → Prop
  | some n => NewT H Q [.int n.1, .int n.2]
  | none => ∀ H', Ex H H' → E (.ref N) none H'
def spRdG (K : PySem.W.Frag) (N : Addr) (g : List Nat → Option (Int × Int)) : Sp := fun vs H Q E => ∃ v, vs = [v] ∧ ((NoTx K H v ∧ ∀ H', Ex H H' → E (.ref N) none H') ∨ (∃ l, v = .str (SX.S l) ∧ l.length ≤ 1000 ∧ GetO H Q E N (g l)))
theorem okX_read_number {f f1 f2 N : Addr} {fd fd1 fd2 : FuncData} (T : Top mg) (R : RaC K mg "NoText" N) (F : FnP K "read_number" s_read_number f fd) (c_whole_of : Cal P w K mg base CX0 3 "whole_of" ["text"] spWoG f1 fd1) (c_is_number : Cal P w K mg base CX0 1 "is_number" ["thing"] (spNum K) f2 fd2) : FnOk P w K mg base (L2N.CX P w) 4 f fd ["text"] (spRdG K N rnO) := by
  have sc := sc_read_number
  refine F.ok sc (fun vs H Q E h => ?_) (fun cdv A outer s H vs Q E hr h => ?_)
  · obtain ⟨v, rfl, _⟩ := h
    rfl
  · obtain ⟨v, rfl, h⟩ := h
    refine ⟨_, (pss_cons (ps_if (pt_not (pt_val (pe_callB call_isi (by rfl) T.isinstance (by decide +kernel) (pa_cons (pv 0) (pa_cons (pe_bltn (v := .ty "str") (by rfl) T.ty_str (by decide +kernel) rfl) pa_nil)))))
      (pss_one (L2N.ps_raise rfl (L2N.takes_of rfl rfl rfl rfl) (pmkN1 PySem.F.excBase_ValueError R.x R.m R.kp (raises_own R.b R.t) (by rfl) pe_str))) pss_nil)
    (pss_cons (ps_asg (pe_partition (pv 0) pe_str) (pg_tup rfl (pgs_cons (pg_name (i := 1) sc.nd rfl (.inl rfl)) (pgs_cons (pg_name (i := 2) sc.nd rfl (.inl rfl)) (pgs_cons (pg_name (i := 3) sc.nd rfl (.inl rfl)) pgs_nil)))))
    (pss_cons (ps_set (i := 4) sc.nd rfl (.inl rfl) (pe_tup (pa_cons (pe_call c_whole_of.ok (hr.mono (by decide)) (by rfl) c_whole_of.m c_whole_of.kp c_whole_of.b .nil pass0 (pa_cons (pv 1) pa_nil)) (pa_cons (pe_call c_whole_of.ok (hr.mono (by decide)) (by rfl) c_whole_of.m c_whole_of.kp c_whole_of.b .nil pass0 (pa_cons (pv 3) pa_nil)) pa_nil))))
    (pss_cons (ps_if (pt_not (pt_val (pe_call c_is_number.ok (hr.mono (by decide)) (by rfl) c_is_number.m c_is_number.kp c_is_number.b .nil pass0 (pa_cons (pv 4) pa_nil))))
      (pss_one (L2N.ps_raise rfl (L2N.takes_of rfl rfl rfl rfl) (pmkN1 PySem.F.excBase_ValueError R.x R.m R.kp (raises_own R.b R.t) (by rfl) pe_str))) pss_nil)
    (pss_one (ps_ret (pv 4))))))), ?_⟩
    rcases h with ⟨⟨t, ty, kt⟩, q⟩ | ⟨l, rfl, hl, q⟩
    · exact rd_isi (i := 0) rfl ty kt ⟨false, rfl, iteT (q H (Ex.refl H))⟩
    refine rd_isi (i := 0) rfl (ty_strK _) (kit_ty (by decide +kernel : kitB "str" "str" = some true)) ⟨true, rfl, iteF ?_⟩
    have cl := cut_len 112 l
    refine ⟨.str (SX.S l), rfl, ⟨_, rfl⟩, SX.S l, SX.S [112], rfl, rfl, rfl, by rw [SX.S_len, sizeLine_eq]; omega, fun p hp => ?_⟩
    rw [part_cut]
    unfold rnO at q
    generalize cutS 112 l = C at *
    obtain ⟨b, d, c⟩ := C
    dsimp only at cl q
    have e1 := Ex.new (o := .tup [.str (SX.S b), .str (SX.S (if d = true then [112] else [])), .str (SX.S c)]) hp
    refine ⟨p, _, rfl, st_of upd_same, rfl, _, _, rfl, _, _, rfl, _, [], rfl, rfl, ?_⟩
    dsimp only
    generalize upd H p (.tup [.str (SX.S b), .str (SX.S (if d = true then [112] else [])), .str (SX.S c)]) = H1 at e1 ⊢
    refine ⟨.str (SX.S b), rfl, b, rfl, by omega, fun H2 e2 => ⟨.str (SX.S c), rfl, c, rfl, by omega, fun H3 e3 => ⟨by show 2 ≤ sizeLine; decide, fun p2 hp2 => ?_⟩⟩⟩
    have e4 := Ex.new (o := .tup [WholeV (wholeO b), WholeV (wholeO c)]) hp2
    have h4 : SqT K (upd H3 p2 (.tup [WholeV (wholeO b), WholeV (wholeO c)])) p2 [WholeV (wholeO b), WholeV (wholeO c)] := st_of upd_same
    have h5 : (upd H3 p2 (.tup [WholeV (wholeO b), WholeV (wholeO c)])) p2 = some (.tup [WholeV (wholeO b), WholeV (wholeO c)]) := upd_same
    generalize upd H3 p2 (.tup [WholeV (wholeO b), WholeV (wholeO c)]) = H4 at e4 h4 h5 ⊢
    have x4 : Ex H H4 := ((e1.trans e2).trans e3).trans e4
    have wN : ∀ {H' : Hp}, WholeIs K H' .non false := fun {H'} => .no (.base .non) (kit_ty (by decide +kernel : kitB "NoneType" "int" = some false)) (kit_ty (by decide +kernel : kitB "NoneType" "bool" = some false))
    obtain ⟨bb, ni, q1, q2⟩ : ∃ bb : Bool, NumIs K H4 (.ref p2) bb ∧ (bb = true → ∃ m e, wholeO b = some m ∧ wholeO c = some e ∧ isNumB m e = true) ∧ (bb = false → ∀ H', Ex H H' → E (.ref N) none H') := by
      cases hb : wholeO b with
      | none =>
        rw [hb] at h4 q
        exact ⟨false, .fst h4 wN (b := (wholeO c).isSome) (by cases wholeO c with | none => exact wN | some i => exact .int i), (fun z => by cases z), fun _ => q⟩
      | some m =>
        cases hc : wholeO c with
        | none =>
          rw [hb, hc] at h4 q
          exact ⟨false, .snd h4 (.int m) wN, (fun z => by cases z), fun _ => q⟩
        | some e =>
          rw [hb, hc] at h4 q
          refine ⟨isNumB m e, .num h4, fun z => ⟨m, e, rfl, rfl, z⟩, fun z => ?_⟩
          dsimp only at q
          rw [if_neg (by rw [z]; decide)] at q
          exact q
    refine ⟨.ref p2, rfl, .ref p2, bb, rfl, ni, fun H5 e5 => ⟨bb, rfl, ?_⟩⟩
    cases bb with
    | false => exact iteT (q2 rfl H5 (x4.trans e5))
    | true =>
      obtain ⟨m, e, hm, he, hn⟩ := q1 rfl
      rw [hm, he] at q h5
      dsimp only at q
      rw [if_pos hn] at q
      exact iteF ⟨.ref p2, rfl, q H5 p2 (x4.trans e5) (e5 _ _ h5)⟩
def sgnT (m : Int) : List Nat := if m < 0 then [45] else []
def dN (n : Int × Int) : Nat := n.1.natAbs * 5 ^ (-n.2).toNat
def dtx (n : Int × Int) : List Nat := if 0 ≤ n.2 then sgnT n.1 ++ dig (n.1.natAbs * 2 ^ n.2.toNat) else sgnT n.1 ++ bef (dN n) (-n.2).toNat ++ [46] ++ beh (dN n) (-n.2).toNat
theorem sgnT_len (m : Int) : (sgnT m).length ≤ 1 := by
  unfold sgnT
  split
  · exact Nat.le_refl 1
  · exact Nat.zero_le 1
theorem slice_neg_to {a b : List Nat} (h : 1 ≤ b.length) : Txt.slice (SX.S (a ++ b)) none (some (-(b.length : Int))) = SX.S a := by
  have hl : (SX.S (a ++ b)).length = a.length + b.length := by rw [SX.S_len, List.length_append]
  have e := beq_iff_eq.mp (PyProof.Rows.slice_closes_to_neg (x := SX.S (a ++ b)) (j := -(b.length : Int)) (k := (a.length : Int)) (by omega) (by rw [hl]; omega) (by rw [hl]; omega))
  refine e.trans (TL.ext_tl ?_)
  show ((a ++ b).drop (0 : Int).toNat).take ((a.length : Int) - 0).toNat = a
  rw [show (0 : Int).toNat = 0 from rfl, List.drop_zero, show ((a.length : Int) - 0).toNat = a.length by omega]
  exact List.take_left
theorem slice_neg_from {a b : List Nat} (h : 1 ≤ b.length) : Txt.slice (SX.S (a ++ b)) (some (-(b.length : Int))) none = SX.S b := by
  have hl : (SX.S (a ++ b)).length = a.length + b.length := by rw [SX.S_len, List.length_append]
  have e := beq_iff_eq.mp (PyProof.Rows.slice_closes_from_neg (x := SX.S (a ++ b)) (i := -(b.length : Int)) (a := (a.length : Int)) (b := ((a.length + b.length : Nat) : Int)) (by omega) (by rw [hl]; omega) (by rw [hl]; omega) (by rw [hl]))
  refine e.trans (TL.ext_tl ?_)
  show ((a ++ b).drop ((a.length : Int)).toNat).take (((a.length + b.length : Nat) : Int) - (a.length : Int)).toNat = b
  rw [Int.toNat_natCast, List.drop_left, show (((a.length + b.length : Nat) : Int) - (a.length : Int)).toNat = b.length by omega, List.take_length]
theorem dN_bd {n : Int × Int} (h1 : n.1.natAbs < 2 ^ 300) (h2 : n.2.natAbs ≤ 1000) : dN n < 2 ^ 3000 := by
  unfold dN
  have e5 : 5 ^ (-n.2).toNat ≤ 2 ^ 2400 := by
    have a1 : (5 : Nat) ^ (-n.2).toNat ≤ 5 ^ 1000 := Nat.pow_le_pow_right (by decide) (by omega)
    exact Nat.le_trans a1 (by decide +kernel)
  have p : 0 < 5 ^ (-n.2).toNat := Nat.pow_pos (by decide)
  have m1 : n.1.natAbs * 5 ^ (-n.2).toNat ≤ 2 ^ 300 * 2 ^ 2400 := Nat.mul_le_mul (Nat.le_of_lt h1) e5
  rw [← Nat.pow_add] at m1
  exact Nat.lt_of_le_of_lt m1 (Nat.pow_lt_pow_right (by decide) (by decide))
theorem dE_bd {n : Int × Int} (h1 : n.1.natAbs < 2 ^ 300) (h2 : n.2.natAbs ≤ 1000) : n.1.natAbs * 2 ^ n.2.toNat < 2 ^ 3000 := by
  have m1 : n.1.natAbs * 2 ^ n.2.toNat ≤ 2 ^ 300 * 2 ^ 1000 := Nat.mul_le_mul (Nat.le_of_lt h1) (Nat.pow_le_pow_right (by decide) (by omega))
  rw [← Nat.pow_add] at m1
  exact Nat.lt_of_le_of_lt m1 (Nat.pow_lt_pow_right (by decide) (by decide))
theorem bb_len {N k : Nat} (hN : N < 2 ^ 3000) (hk : k ≤ 1000) : (bef N k).length ≤ 1000 ∧ (beh N k).length = k := by
  unfold bef beh
  exact ⟨dig_len_bd (Nat.lt_of_le_of_lt (Nat.div_le_self _ _) hN), pad_len _ _⟩
theorem abs_nat (m : Int) : (if m < 0 then -m else m) = ((m.natAbs : Nat) : Int) := by
  by_cases h : m < 0
  · rw [if_pos h]; omega
  · rw [if_neg h]; omega
def spDt (K : PySem.W.Frag) : Sp := fun vs H Q _ => ∃ v n, vs = [v] ∧ Gn K H v n 2000 ∧ n.1.natAbs < 2 ^ 300 ∧ n.2.natAbs ≤ 1000 ∧ ∀ H', Ex H H' → Q (.str (SX.S (dtx n))) H'
theorem ok_decimal_text {f f1 f2 f3 : Addr} {fd fd1 fd2 fd3 : FuncData} (T : Top mg) (F : FnP K "decimal_text" s_decimal_text f fd) (c_need_number : Cal P w K mg base CX0 2 "need_number" ["thing"] (spNeed K) f1 fd1) (c_figures_of : Cal P w K mg base CX0 1 "figures_of" ["size"] spFigs f2 fd2) (c_power_of : Cal P w K mg base CX0 1 "power_of" ["base", "k"] spPow f3 fd3) : FnOk P w K mg base CX0 3 f fd ["number"] (spDt K) := by
  have sc := sc_decimal_text
  refine ok0 F sc (fun vs H Q E h => ?_) (fun cdv A outer s H vs Q E hr h => ?_)
  · obtain ⟨v, n, rfl, _⟩ := h
    rfl
  · obtain ⟨v, n, rfl, gv, h1, h2, q⟩ := h
    refine ⟨_, (pss_cons (ps_expr (pe_call c_need_number.ok (hr.mono (by decide)) (by rfl) c_need_number.m c_need_number.kp c_need_number.b .nil pass0 (pa_cons (pv 0) pa_nil)))
    (pss_cons (ps_asg (pv 0) (pg_tup rfl (pgs_cons (pg_name (i := 1) sc.nd rfl (.inl rfl)) (pgs_cons (pg_name (i := 2) sc.nd rfl (.inl rfl)) pgs_nil))))
    (pss_cons (ps_set (i := 3) sc.nd rfl (.inl rfl) (pe_ifExp (pt_cmpR op_lt (pv 1) pe_int (nomark _)) pe_str pe_str))
    (pss_cons (ps_if (pt_cmpR op_ge (pv 2) pe_int (nomark _))
      (pss_one (ps_ret (pe_op op_add_str (pv 3) (pe_call c_figures_of.ok (hr.mono (by decide)) (by rfl) c_figures_of.m c_figures_of.kp c_figures_of.b .nil pass0 (pa_cons (pe_op op_shlW (pe_callB call_abs (by rfl) T.abs (by decide +kernel) (pa_cons (pv 1) pa_nil)) (pv 2)) pa_nil))))) pss_nil)
    (pss_cons (ps_set (i := 4) sc.nd rfl (.inl rfl) (pe_m1 PySem.F.slot_str_zfill PySem.F.type_str_zfill mt_zfill (pe_call c_figures_of.ok (hr.mono (by decide)) (by rfl) c_figures_of.m c_figures_of.kp c_figures_of.b .nil pass0 (pa_cons (pe_op op_mulX (pe_callB call_abs (by rfl) T.abs (by decide +kernel) (pa_cons (pv 1) pa_nil)) (pe_call c_power_of.ok (hr.mono (by decide)) (by rfl) c_power_of.m c_power_of.kp c_power_of.b .nil pass0 (pa_cons pe_int (pa_cons (pe_un un_neg (pv 2)) pa_nil)))) pa_nil)) (pe_op op_sub pe_int (pv 2))))
    (pss_one (ps_ret (pe_op op_add_str (pe_op op_add_str (pe_op op_add_str (pv 3) (pe_slice C8.sl_txt (pv 4) po_none (po_some (pv 2)))) pe_str) (pe_slice C8.sl_txt (pv 4) (po_some (pv 2)) po_none))))))))), ?_⟩
    refine ⟨v, rfl, v, rfl, gv.num, fun H1 e1 => ?_⟩
    obtain ⟨r, rfl, hr1⟩ := (gv.ex e1).at_
    refine ⟨.ref r, rfl, r, [.int n.1, .int n.2], rfl, hr1, rfl, .int n.1, [.int n.2], rfl, .int n.2, [], rfl, rfl, ?_⟩
    dsimp only
    have sl := sgnT_len n.1
    refine q_asg (v := .str (SX.S (sgnT n.1))) (ev_if (et_test (ev_op (ev_var (i := 1) rfl) ev_c rv_I0)) (fun z => ?_) (fun z => ?_)) (fun H2 e2 => ?_)
    · have z : n.1 < 0 := of_decide_eq_true z
      have e : sgnT n.1 = [45] := if_pos z
      rw [e]
      exact ev_c
    · have z : ¬ n.1 < 0 := of_decide_eq_false z
      have e : sgnT n.1 = [] := if_neg z
      rw [e]
      exact ev_c
    have e12 := e1.trans e2
    unfold dtx at q
    refine q_when (et_test (ev_op (ev_var (i := 2) rfl) ev_c rv_I0)) (fun z H3 e3 => ?_) (fun z H3 e3 => ?_)
    · have z : 0 ≤ n.2 := of_decide_eq_true z
      rw [if_pos z] at q
      have bE := dE_bd h1 h2
      have dl := dig_len_bd bE
      have cs : CShl (n.1.natAbs : Int) n.2 := by
        rw [show n.2 = (n.2.toNat : Int) by omega]
        exact shl_ok (n := 300) (by rw [Int.natAbs_natCast]; exact h1) (by omega)
      have ev : (n.1.natAbs : Int) * 2 ^ n.2.toNat = ((n.1.natAbs * 2 ^ n.2.toNat : Nat) : Int) := by rw [Int.natCast_mul, pow_two_cast]
      refine ⟨.str (SX.S (sgnT n.1)), rfl, .int n.1, rfl, n.1, rfl, ?_⟩
      rw [abs_nat]
      refine ⟨.int n.2, rfl, _, _, rfl, rfl, cs, _, congrArg (fun y => [V.int y]) ev, bE, fun H4 e4 => ⟨_, _, rfl, rfl, cat_ok (by omega), ?_⟩⟩
      rw [SX.S_cat]
      exact q H4 ((e12.trans e3).trans e4)
    · have z : ¬ 0 ≤ n.2 := of_decide_eq_false z
      rw [if_neg z] at q
      have bN := dN_bd h1 h2
      obtain ⟨k, hk⟩ : ∃ k : Nat, k = (-n.2).toNat := ⟨_, rfl⟩
      have kp : 1 ≤ k := by omega
      have kb : k ≤ 1000 := by omega
      have nk : -n.2 = (k : Int) := by omega
      have nk2 : n.2 = -(k : Int) := by omega
      obtain ⟨bl1, bl2⟩ := bb_len bN kb
      rw [← hk] at q
      have ev : (n.1.natAbs : Int) * 5 ^ k = ((dN n : Nat) : Int) := by
        unfold dN
        rw [← hk, Int.natCast_mul, Int.natCast_pow]
        rfl
      have ef : List.replicate (k + 1 - (dig (dN n)).length) 48 ++ dig (dN n) = bef (dN n) k ++ beh (dN n) k := fig_split (dN n) k
      have ez : Txt.zfill (SX.S (dig (dN n))) (1 - n.2) = SX.S (bef (dN n) k ++ beh (dN n) k) := by
        rw [← ef, show 1 - n.2 = ((k + 1 : Nat) : Int) by omega]
        exact zfill_S (dig_fig _) (List.ne_nil_of_length_pos (dig_pos _))
      have m5 : ((5 : Int) ^ k).natAbs ≤ 2 ^ 3000 := Nat.le_trans (pw_le (a := 3) (by decide) k) (Nat.pow_le_pow_right (by decide) (by omega))
      refine ⟨.int n.1, rfl, n.1, rfl, ?_⟩
      rw [abs_nat]
      refine ⟨.int n.2, rfl, n.2, rfl, 5, k, congrArg (fun y => [V.int 5, V.int y]) nk, by decide, kb, fun H4 e4 => ?_⟩
      refine ⟨_, _, rfl, rfl, ml (a := 300) (by rw [Int.natAbs_natCast]; exact Nat.le_of_lt h1) m5 (by decide), dN n, congrArg (fun y => [V.int y]) ev, bN, fun H5 e5 => ?_⟩
      refine ⟨⟨_, rfl⟩, .int n.2, rfl, 1, n.2, rfl, rfl, SX.S (dig (dN n)), 1 - n.2, rfl, rfl, padOk_of (by omega) (by omega), ?_⟩
      rw [ez]
      have e15 := ((e12.trans e3).trans e4).trans e5
      generalize hbe : bef (dN n) k = B at *
      generalize hbh : beh (dN n) k = C at *
      have zl : (SX.S (B ++ C)).length ≤ sizeLine := by rw [SX.S_len, List.length_append, sizeLine_eq]; omega
      have s1 : Txt.slice (SX.S (B ++ C)) none (some n.2) = SX.S B := by
        rw [nk2, ← bl2]
        exact slice_neg_to (by omega)
      have s2 : Txt.slice (SX.S (B ++ C)) (some n.2) none = SX.S C := by
        rw [nk2, ← bl2]
        exact slice_neg_from (by omega)
      refine ⟨.str (SX.S (sgnT n.1)), rfl, .str (SX.S (B ++ C)), rfl, .int n.2, rfl, n.2, rfl, SX.S (B ++ C), rfl, zl, ?_⟩
      rw [s1]
      refine ⟨_, _, rfl, rfl, cat_ok (by omega), _, _, rfl, rfl, ?_, .str (SX.S (B ++ C)), rfl, .int n.2, rfl, n.2, rfl, SX.S (B ++ C), rfl, zl, ?_⟩
      · rw [SX.S_cat]
        exact cat_ok (b := [46]) (by rw [List.length_append]; show _ + 1 ≤ 100000; omega)
      · rw [s2]
        have e : SX.S (sgnT n.1) ++ SX.S B ++ SX.S [46] ++ SX.S C = SX.S (sgnT n.1 ++ B ++ [46] ++ C) := by rw [SX.S_cat, SX.S_cat, SX.S_cat]
        have q := q H5 e15
        rw [← e] at q
        refine ⟨_, _, rfl, rfl, ?_, q⟩
        rw [SX.S_cat, SX.S_cat]
        exact cat_ok (a := sgnT n.1 ++ B ++ [46]) (by rw [List.length_append, List.length_append]; show _ + _ + 1 + _ ≤ 100000; omega)
def spTextX (K : PySem.W.Frag) (N : Addr) : Sp := fun vs H _ E => ∃ v, vs = [v] ∧ NumIs K H v false ∧ ∀ H', Ex H H' → E (.ref N) none H'
theorem okX_number_text {f f1 N : Addr} {fd fd1 : FuncData} (T : Top mg) (F : FnP K "number_text" s_number_text f fd) (x_need_number : Cal P w K mg base (L2N.CX P w) 2 "need_number" ["thing"] (spNeedX K N) f1 fd1) : FnOk P w K mg base (L2N.CX P w) 3 f fd ["number"] (spTextX K N) := by
  have sc := sc_number_text
  refine F.ok sc (fun vs H Q E h => ?_) (fun cdv A outer s H vs Q E hr h => ?_)
  · obtain ⟨v, rfl, _⟩ := h
    rfl
  · obtain ⟨v, rfl, hn, q⟩ := h
    refine ⟨_, (pss_cons (ps_expr (pe_call (E := E) x_need_number.ok (hr.mono (by decide)) (by rfl) x_need_number.m x_need_number.kp x_need_number.b .nil (passX (L2N.takes_of rfl rfl rfl rfl)) (pa_cons (pv 0) pa_nil))) pss_never), ?_⟩
    exact ⟨v, rfl, v, false, rfl, hn, (fun z => by cases z), fun _ H' e => q H' e⟩
theorem okX_decimal_text {f f1 N : Addr} {fd fd1 : FuncData} (T : Top mg) (F : FnP K "decimal_text" s_decimal_text f fd) (x_need_number : Cal P w K mg base (L2N.CX P w) 2 "need_number" ["thing"] (spNeedX K N) f1 fd1) : FnOk P w K mg base (L2N.CX P w) 3 f fd ["number"] (spTextX K N) := by
  have sc := sc_decimal_text
  refine F.ok sc (fun vs H Q E h => ?_) (fun cdv A outer s H vs Q E hr h => ?_)
  · obtain ⟨v, rfl, _⟩ := h
    rfl
  · obtain ⟨v, rfl, hn, q⟩ := h
    refine ⟨_, (pss_cons (ps_expr (pe_call (E := E) x_need_number.ok (hr.mono (by decide)) (by rfl) x_need_number.m x_need_number.kp x_need_number.b .nil (passX (L2N.takes_of rfl rfl rfl rfl)) (pa_cons (pv 0) pa_nil))) pss_never), ?_⟩
    exact ⟨v, rfl, v, false, rfl, hn, (fun z => by cases z), fun _ H' e => q H' e⟩
theorem okX_read_decimal {f f1 f2 f3 f4 f5 N : Addr} {fd fd1 fd2 fd3 fd4 fd5 : FuncData} {tM : Tok} (T : Top mg) (R : RaC K mg "NoText" N) (m_MOST_SIGNS : mg "MOST_SIGNS" = some (.int 300 tM)) (F : FnP K "read_decimal" s_read_decimal f fd) (c_is_size : Cal P w K mg base CX0 2 "is_size" ["text"] spIsSG f1 fd1) (c_is_figures : Cal P w K mg base CX0 1 "is_figures" ["text"] spIsFG f2 fd2) (c_size_from : Cal P w K mg base CX0 1 "size_from" ["figures"] spSf f3 fd3) (c_power_of : Cal P w K mg base CX0 1 "power_of" ["base", "k"] spPow f4 fd4) (c_lowered : Cal P w K mg base CX0 1 "lowered" ["m", "e"] spNof f5 fd5) : FnOk P w K mg base (L2N.CX P w) 4 f fd ["text"] (spRdG K N rdO) := by
  have sc := sc_read_decimal
  refine F.ok sc (fun vs H Q E h => ?_) (fun cdv A outer s H vs Q E hr h => ?_)
  · obtain ⟨v, rfl, _⟩ := h
    rfl
  · obtain ⟨v, rfl, h⟩ := h
    refine ⟨_, (pss_cons (ps_if (PW.pt (pw_or (pt_not (pt_val (pe_callB call_isi (by rfl) T.isinstance (by decide +kernel) (pa_cons (pv 0) (pa_cons (pe_bltn (v := .ty "str") (by rfl) T.ty_str (by decide +kernel) rfl) pa_nil))))) (pw_or1 (pt_cmpR op_gt (pe_callB call_len (by rfl) T.len (by decide +kernel) (pa_cons (pv 0) pa_nil)) (pe_glob (v := .int 300) (by rfl) m_MOST_SIGNS ⟨_, rfl⟩) (nomark _)))))
      (pss_one (L2N.ps_raise rfl (L2N.takes_of rfl rfl rfl rfl) (pmkN1 PySem.F.excBase_ValueError R.x R.m R.kp (raises_own R.b R.t) (by rfl) pe_str))) pss_nil)
    (pss_cons (ps_asg (pe_partition (pe_m1 PySem.F.slot_str_removeprefix PySem.F.type_str_removeprefix mt_removeprefix (pv 0) pe_str) pe_str) (pg_tup rfl (pgs_cons (pg_name (i := 1) sc.nd rfl (.inl rfl)) (pgs_cons (pg_name (i := 2) sc.nd rfl (.inl rfl)) (pgs_cons (pg_name (i := 3) sc.nd rfl (.inl rfl)) pgs_nil)))))
    (pss_cut (ps_if (PW.pt (pw_or (pt_not (pt_val (pe_call c_is_size.ok (hr.mono (by decide)) (by rfl) c_is_size.m c_is_size.kp c_is_size.b .nil pass0 (pa_cons (pv 1) pa_nil)))) (pw_or1 (PW.pt (pw_and (pt_truth (pv 2) (fun _ => rfl)) (pw_and1 (pt_not (pt_val (pe_call c_is_figures.ok (hr.mono (by decide)) (by rfl) c_is_figures.m c_is_figures.kp c_is_figures.b .nil pass0 (pa_cons (pv 3) pa_nil))))))))))
      (pss_one (L2N.ps_raise rfl (L2N.takes_of rfl rfl rfl rfl) (pmkN1 PySem.F.excBase_ValueError R.x R.m R.kp (raises_own R.b R.t) (by rfl) pe_str))) pss_nil)
    (pss_cons (ps_set (i := 4) sc.nd rfl (.inl rfl) (pe_call c_size_from.ok (hr.mono (by decide)) (by rfl) c_size_from.m c_size_from.kp c_size_from.b .nil pass0 (pa_cons (pe_op op_add_str (pv 1) (pv 3)) pa_nil)))
    (pss_cons (ps_set (i := 5) sc.nd rfl (.inl rfl) (pe_call c_power_of.ok (hr.mono (by decide)) (by rfl) c_power_of.m c_power_of.kp c_power_of.b .nil pass0 (pa_cons pe_int (pa_cons (pe_callB call_len (by rfl) T.len (by decide +kernel) (pa_cons (pv 3) pa_nil)) pa_nil))))
    (pss_cons (ps_if (pt_cmpR op_ne (pe_op op_mod (pv 4) (pv 5)) pe_int (nomark _))
      (pss_one (L2N.ps_raise rfl (L2N.takes_of rfl rfl rfl rfl) (pmkN1 PySem.F.excBase_ValueError R.x R.m R.kp (raises_own R.b R.t) (by rfl) pe_str))) pss_nil)
    (pss_cons (ps_if (pt_not (pt_val (pe_m1 PySem.F.slot_str_startswith PySem.F.type_str_startswith mt_startswith (pv 0) pe_str)))
      (pss_one (ps_ret (pe_call c_lowered.ok (hr.mono (by decide)) (by rfl) c_lowered.m c_lowered.kp c_lowered.b .nil pass0 (pa_cons (pe_op op_fdivW (pv 4) (pv 5)) (pa_cons (pe_un un_neg (pe_callB call_len (by rfl) T.len (by decide +kernel) (pa_cons (pv 3) pa_nil))) pa_nil))))) pss_nil)
    (pss_cons (ps_if (pt_cmpR op_eq (pv 4) pe_int (nomark _))
      (pss_one (L2N.ps_raise rfl (L2N.takes_of rfl rfl rfl rfl) (pmkN1 PySem.F.excBase_ValueError R.x R.m R.kp (raises_own R.b R.t) (by rfl) pe_str))) pss_nil)
    (pss_one (ps_ret (pe_call c_lowered.ok (hr.mono (by decide)) (by rfl) c_lowered.m c_lowered.kp c_lowered.b .nil pass0 (pa_cons (pe_op op_fdivW (pe_un un_neg (pv 4)) (pv 5)) (pa_cons (pe_un un_neg (pe_callB call_len (by rfl) T.len (by decide +kernel) (pa_cons (pv 3) pa_nil))) pa_nil))))))))))))), ?_⟩
    rcases h with ⟨⟨t, ty, kt⟩, q⟩ | ⟨l, rfl, hl, q⟩
    · exact rd_isi (i := 0) rfl ty kt ⟨false, rfl, iteT (iteT (q H (Ex.refl H)))⟩
    have st : Txt.startswith (SX.S l) (SX.S [45]) = sgnB l := starts_S l 45
    have up : Txt.removeprefix (SX.S l) (SX.S [45]) = SX.S (strM l) := unprefix_S l 45
    have sl : (SX.S l).length ≤ sizeLine := by rw [SX.S_len, sizeLine_eq]; omega
    have lenL : LenV K (.str (SX.S l)) H l.length := ⟨sl, (SX.S_len l).symm⟩
    have ll := strM_len l
    have cl := cut_len 46 (strM l)
    refine rd_isi (i := 0) rfl (ty_strK _) (kit_ty (by decide +kernel : kitB "str" "str" = some true)) ⟨true, rfl, iteF ?_⟩
    refine ⟨.str (SX.S l), rfl, _, l.length, rfl, lenL, (l.length : Int), 300, rfl, rfl, _, rfl, ?_⟩
    unfold rdO at q
    by_cases h300 : 300 < l.length
    · rw [if_pos (.inl h300)] at q
      rw [decide_eq_true (show (l.length : Int) > 300 by omega)]
      exact iteT (q H (Ex.refl H))
    rw [decide_eq_false (show ¬ (l.length : Int) > 300 by omega)]
    refine iteF ?_
    refine ⟨.str (SX.S l), rfl, ⟨_, rfl⟩, SX.S l, SX.S [45], rfl, rfl, sl, ?_⟩
    rw [up]
    refine ⟨⟨_, rfl⟩, SX.S (strM l), SX.S [46], rfl, rfl, rfl, by rw [SX.S_len, sizeLine_eq]; omega, fun p hp => ?_⟩
    rw [part_cut]
    have hcd := cut_dot 46 (strM l)
    generalize cutS 46 (strM l) = C at *
    obtain ⟨B, dot, C⟩ := C
    dsimp only at cl q hcd
    have e1 := Ex.new (o := .tup [.str (SX.S B), .str (SX.S (if dot = true then [46] else [])), .str (SX.S C)]) hp
    refine ⟨p, _, rfl, st_of upd_same, rfl, _, _, rfl, _, _, rfl, _, [], rfl, rfl, ?_⟩
    dsimp only
    generalize upd H p (.tup [.str (SX.S B), .str (SX.S (if dot = true then [46] else [])), .str (SX.S C)]) = H1 at e1 ⊢
    have qn : (sizB B = false ∨ (dot = true ∧ figB C = false)) → ∀ H', Ex H H' → E (.ref N) none H' := fun z => by
      rw [if_pos (.inr z)] at q
      exact q
    refine ⟨fun σ' H' => Ex H H' ∧ σ' = [some (.str (SX.S l)), some (.str (SX.S B)), some (.str (SX.S (if dot = true then [46] else []))), some (.str (SX.S C)), none, none] ∧ sizB B = true ∧ (dot = true → figB C = true), ?_, ?_⟩
    · refine ⟨.str (SX.S B), rfl, B, rfl, sizB B, rfl, ?_⟩
      cases hB : sizB B with
      | false => exact iteT (iteT (qn (.inl hB) H1 e1))
      | true =>
        refine iteF ?_
        cases dot with
        | true =>
          refine ⟨.str (SX.S [46]), rfl, true, ⟨by show 1 ≤ sizeLine; decide, rfl⟩, iteT ⟨.str (SX.S C), rfl, C, rfl, figB C, rfl, ?_⟩⟩
          cases hC : figB C with
          | false => exact iteT (qn (.inr ⟨rfl, hC⟩) H1 e1)
          | true => exact iteF ⟨e1, rfl, rfl, fun _ => rfl⟩
        | false =>
          exact ⟨.str (SX.S []), rfl, false, ⟨by show 0 ≤ sizeLine; decide, rfl⟩, iteF (iteF ⟨e1, rfl, rfl, fun z => by cases z⟩)⟩
    rintro σ' H2 ⟨e2, rfl, hB, hC⟩
    have fC : Fig C := by
      cases dot with
      | true => exact (figB_iff.mp (hC rfl)).2
      | false =>
        rw [hcd rfl]
        exact fun c hc => by cases hc
    have fBC : Fig (B ++ C) := fun c hc => by
      rcases List.mem_append.mp hc with h | h
      · exact (sizB_fig hB).2 c h
      · exact fC c h
    rw [if_neg (fun z => by
      rcases z with z | z | z
      · exact h300 z
      · rw [hB] at z
        cases z
      · rw [hC z.1] at z
        cases z.2)] at q
    have lBC : B.length + C.length ≤ 300 := by omega
    refine ⟨.str (SX.S B), rfl, .str (SX.S C), rfl, _, _, rfl, rfl, cat_ok (by omega), B ++ C, congrArg (fun y => [V.str y]) (SX.S_cat B C), fBC, by rw [List.length_append]; omega, fun H3 e3 => ?_⟩
    dsimp only
    have lenC : ∀ {H' : Hp}, LenV K (.str (SX.S C)) H' C.length := fun {H'} => ⟨by rw [SX.S_len, sizeLine_eq]; omega, (SX.S_len C).symm⟩
    refine ⟨.str (SX.S C), rfl, _, C.length, rfl, lenC, 5, C.length, rfl, by decide, by omega, fun H4 e4 => ?_⟩
    dsimp only
    generalize val (B ++ C) = M at *
    have p5 : (0 : Int) < 5 ^ C.length := Int.pow_pos (by decide)
    have c5 : (5 : Int) ^ C.length = ((5 ^ C.length : Nat) : Int) := (Int.natCast_pow 5 C.length).symm
    have cd : ∀ i : Int, CDivW i (5 ^ C.length) := fun i => ⟨p5, PySem.Flt.log2_lt_of (by decide) (Nat.lt_of_le_of_lt (pw_le (x := 5) (a := 3) (by decide) C.length) (Nat.pow_lt_pow_right (by decide) (by omega)))⟩
    have e04 := (e2.trans e3).trans e4
    have md : (M : Int) % 5 ^ C.length = ((M % 5 ^ C.length : Nat) : Int) := by
      rw [c5]
      exact (Int.natCast_emod M (5 ^ C.length)).symm
    refine ⟨_, rfl, _, rfl, _, _, rfl, rfl, p5, rfl, _, rfl, ?_⟩
    have md2 : decide (V.int ((M : Int) % 5 ^ C.length) = V.int 0) = decide (M % 5 ^ C.length = 0) := by
      rw [md]
      by_cases h : M % 5 ^ C.length = 0
      · rw [h]
        rfl
      · rw [decide_eq_false h]
        exact decide_eq_false fun y => h (by have := V.int.inj y; omega)
    rw [md2]
    unfold finO at q
    by_cases hm : M % 5 ^ C.length = 0
    · rw [decide_eq_true hm]
      refine iteF ?_
      obtain ⟨J, hJ⟩ : ∃ J, M = J * 5 ^ C.length := ⟨M / 5 ^ C.length, (Nat.div_mul_cancel (Nat.dvd_of_mod_eq_zero hm)).symm⟩
      have p5n : 0 < 5 ^ C.length := Nat.pow_pos (by decide)
      have dJ : M / 5 ^ C.length = J := by rw [hJ]; exact Nat.mul_div_cancel J p5n
      have vM : (M : Int) = (J : Int) * 5 ^ C.length := by rw [hJ, c5, Int.natCast_mul]
      rw [dJ] at q
      refine ⟨.str (SX.S l), rfl, ⟨_, rfl⟩, SX.S l, SX.S [45], rfl, rfl, _, rfl, ?_⟩
      rw [st]
      cases sg : sgnB l with
      | false =>
        rw [sg, if_neg (fun z => by rcases z with z | z; exact z hm; cases z.1)] at q
        have dv : (M : Int) / 5 ^ C.length = (J : Int) := by rw [vM]; exact Int.mul_ediv_cancel _ (Int.ne_of_gt p5)
        refine iteT ⟨_, rfl, _, rfl, _, _, rfl, rfl, cd _, .str (SX.S C), rfl, _, C.length, rfl, lenC, (C.length : Int), rfl, (J : Int), -(C.length : Int), congrArg (fun y => [V.int y, V.int (-(C.length : Int))]) dv, fun H5 p5 e5 _ h5 => q H5 p5 (e04.trans e5) h5⟩
      | true =>
        refine iteF ?_
        refine ⟨_, rfl, rfl, _, rfl, ?_⟩
        by_cases hz : M = 0
        · rw [if_pos (.inr ⟨sg, hz⟩)] at q
          rw [show decide (V.int (M : Int) = V.int 0) = true from decide_eq_true (by rw [hz]; rfl)]
          exact iteT (q H4 e04)
        · rw [sg, if_neg (fun z => by rcases z with z | z; exact z hm; exact hz z.2)] at q
          rw [show decide (V.int (M : Int) = V.int 0) = false from decide_eq_false (fun y => hz (by have := V.int.inj y; omega))]
          have dv : -(M : Int) / 5 ^ C.length = -(J : Int) := by
            rw [vM, ← Int.neg_mul]
            exact Int.mul_ediv_cancel _ (Int.ne_of_gt p5)
          refine iteF ⟨_, rfl, _, rfl, _, rfl, _, _, rfl, rfl, cd _, .str (SX.S C), rfl, _, C.length, rfl, lenC, (C.length : Int), rfl, -(J : Int), -(C.length : Int), congrArg (fun y => [V.int y, V.int (-(C.length : Int))]) dv, fun H5 p5 e5 _ h5 => q H5 p5 (e04.trans e5) h5⟩
    · rw [if_pos (.inl hm)] at q
      rw [decide_eq_false hm]
      exact iteT (q H4 e04)
def spFv : Sp := fun vs H Q _ => ∃ k : Nat, vs = [.int (k : Int)] ∧ k ≤ 1000 ∧ Q (.int ((5 : Int) ^ k)) H
theorem ok_law_fives {f : Addr} {fd : FuncData} (T : Top mg) (F : FnP K "_law_fives" s_law_fives f fd) : FnOk P w K mg base CX0 1 f fd ["_law_k"] spFv := by
  have sc := sc_law_fives
  refine ok0 F sc (fun vs H Q E h => ?_) (fun cdv A outer s H vs Q E hr h => ?_)
  · obtain ⟨k, rfl, _⟩ := h
    rfl
  · obtain ⟨k, rfl, hk, q⟩ := h
    refine ⟨_, (pss_cons (ps_set (i := 1) sc.nd rfl (.inl rfl) pe_int)
    (pss_cons (ps_for PassesOwn.never rfl (pi_range1 (by rfl) T.range (pa_cons (pv 0) pa_nil)) (pg_name (i := 2) sc.nd rfl (.inl rfl))
      (pss_one (ps_set (i := 1) sc.nd rfl (.inl rfl) (pe_op op_mulX (pv 1) pe_int))))
    (pss_one (ps_ret (pv 1))))), ?_⟩
    refine ⟨.int (k : Int), rfl, (k : Int), rfl, by omega, by omega, for_range (lo := 0) (n := ((k : Nat) : Int).toNat) (fun i σ' H' => H' = H ∧ ∃ t, σ' = [some (.int (k : Int)), some (.int ((5 : Int) ^ i)), t]) ⟨rfl, none, rfl⟩ (fun i σ' H' hi hp => ?_) (fun σ' H' hp => ?_)⟩
    · obtain ⟨rfl, t, rfl⟩ := hp
      have hi : i < k := hi
      refine g_name ?_
      refine ⟨_, rfl, _, 5, rfl, rfl, ml (a := 3000) (b := 3) (Nat.le_trans (pw_le (a := 3) (by decide) i) (Nat.pow_le_pow_right (by decide) (by omega))) (by decide) (by decide), rfl, some (.int (0 + (i : Int))), ?_⟩
      rw [Int.pow_succ]
      rfl
    · obtain ⟨rfl, t, rfl⟩ := hp
      exact ⟨_, rfl, q⟩
theorem ok_law_mixed {f : Addr} {fd : FuncData} (T : Top mg) (F : FnP K "_law_mixed" s_law_mixed f fd) : FnOk P w K mg base CX0 1 f fd ["_law_cell_here", "_law_k"] spMix := by
  have sc := sc_law_mixed
  refine ok0 F sc (fun vs H Q E h => ?_) (fun cdv A outer s H vs Q E hr h => ?_)
  · obtain ⟨a, k, rfl, _⟩ := h
    rfl
  · obtain ⟨a, k, rfl, q⟩ := h
    refine ⟨_, (pss_cons (ps_set (i := 2) sc.nd rfl (.inl rfl) (pe_op op_mod (pe_op op_add (pe_op op_add (pe_op op_mul (pe_op op_mod (pv 0) pe_int) pe_int) (pe_op op_mul (pv 1) pe_int)) pe_int) pe_int))
    (pss_cons (ps_set (i := 2) sc.nd rfl (.inl rfl) (pe_op op_mod (pe_op op_mul (pv 2) (pv 2)) pe_int))
    (pss_one (ps_ret (pe_op op_mod (pe_op op_mul (pv 2) (pe_op op_add (pv 2) pe_int)) pe_int))))), ?_⟩
    have b1 : ∀ z : Int, 0 ≤ z % 2147483629 ∧ z % 2147483629 < 2147483629 := fun z => ⟨Int.emod_nonneg z (by decide), Int.emod_lt_of_pos z (by decide)⟩
    have b2 : ∀ z : Int, 0 ≤ z % 2147483587 ∧ z % 2147483587 < 2147483587 := fun z => ⟨Int.emod_nonneg z (by decide), Int.emod_lt_of_pos z (by decide)⟩
    refine ⟨.int a, rfl, a, 2147483647, rfl, rfl, by show (0 : Int) < _; decide, _, 48271, rfl, rfl, .inr ⟨by decide, by decide⟩, .int k, rfl, k, 69621, rfl, rfl, .inr ⟨by decide, by decide⟩, _, _, rfl, rfl, _, 1048583, rfl, rfl, _, 2147483629, rfl, rfl, by show (0 : Int) < _; decide, ?_⟩
    refine ⟨_, rfl, _, rfl, _, _, rfl, rfl, .inl ⟨?_, ?_⟩, _, 2147483587, rfl, rfl, by show (0 : Int) < _; decide, ?_⟩
    · have := b1 (a % 2147483647 * 48271 + k * 69621 + 1048583)
      omega
    · have := b1 (a % 2147483647 * 48271 + k * 69621 + 1048583)
      omega
    · refine ⟨_, rfl, _, rfl, _, 2, rfl, rfl, _, _, rfl, rfl, .inl ⟨?_, ?_⟩, _, 2147483579, rfl, rfl, by show (0 : Int) < _; decide, q _⟩
      · have := b2 ((a % 2147483647 * 48271 + k * 69621 + 1048583) % 2147483629 * ((a % 2147483647 * 48271 + k * 69621 + 1048583) % 2147483629))
        omega
      · have := b2 ((a % 2147483647 * 48271 + k * 69621 + 1048583) % 2147483629 * ((a % 2147483647 * 48271 + k * 69621 + 1048583) % 2147483629))
        omega
theorem ok_law_cell {f f1 : Addr} {fd fd1 : FuncData} (T : Top mg) (F : FnP K "_law_cell" s_law_cell f fd) (c_law_mixed : Cal P w K mg base CX0 1 "_law_mixed" ["_law_cell_here", "_law_k"] spMix f1 fd1) : FnOk P w K mg base CX0 2 f fd ["_law_script", "_law_k"] (spCel K) := by
  have sc := sc_law_cell
  refine ok0 F sc (fun vs H Q E h => ?_) (fun cdv A outer s H vs Q E hr h => ?_)
  · obtain ⟨a, ns, k, rfl, _⟩ := h
    rfl
  · obtain ⟨a, ns, k, rfl, hS, h0, h1, q⟩ := h
    refine ⟨_, (pss_cons (ps_set (i := 2) sc.nd rfl (.inl rfl) pe_int)
    (pss_cut (ps_if (pt_cmpR op_lt (pv 1) (pe_callB call_len (by rfl) T.len (by decide +kernel) (pa_cons (pv 0) pa_nil)) (nomark _))
      (pss_one (ps_set (i := 2) sc.nd rfl (.inl rfl) (pe_ix ix_list (pv 0) (pv 1) (fun _ _ => rfl)))) pss_nil)
    (pss_cons (ps_if (pt_cmpR op_ge (pv 2) (pe_op op_pow pe_int pe_int) (nomark _))
      (pss_one (ps_ret (pe_op op_mod (pe_op op_sub (pv 2) (pe_op op_pow pe_int pe_int)) (pe_op op_mulX (pe_op op_mulX (pe_op op_mulX (pe_op op_pow pe_int pe_int) (pe_op op_pow pe_int pe_int)) (pe_op op_pow pe_int pe_int)) (pe_op op_pow pe_int pe_int))))) pss_nil)
    (pss_cons (ps_set (i := 3) sc.nd rfl (.inl rfl) pe_int)
    (pss_cons (ps_for PassesOwn.never rfl (pi_range1 (by rfl) T.range (pa_cons pe_int pa_nil)) (pg_name (i := 4) sc.nd rfl (.inl rfl))
      (pss_one (ps_set (i := 3) sc.nd rfl (.inl rfl) (pe_op op_add (pe_op op_mul (pv 3) pe_int) (pe_call c_law_mixed.ok (hr.mono (by decide)) (by rfl) c_law_mixed.m c_law_mixed.kp c_law_mixed.b .nil pass0 (pa_cons (pv 2) (pa_cons (pe_op op_add (pe_op op_add (pe_op op_mul pe_int (pv 1)) (pe_op op_mul pe_int (pv 4))) (pe_op op_mul (pv 4) (pv 4))) pa_nil)))))))
    (pss_one (ps_ret (pv 3)))))))), ?_⟩
    refine ⟨fun σ' H' => H' = H ∧ ∃ c : Int, σ' = [some (.ref a), some (.int k), some (.int c), none, none], ?_, fun σ' H' hm => ?_⟩
    · refine ⟨.int k, rfl, .ref a, rfl, _, (ns.map V.int).length, rfl, .inl ⟨_, hS, rfl⟩, k, _, rfl, rfl, _, rfl, ite2 (fun hk => ?_) (fun hk => ?_)⟩
      · have hk2 : k < ((ns.map V.int).length : Int) := of_decide_eq_true hk
        rw [List.length_map] at hk2
        obtain ⟨j, rfl⟩ : ∃ j : Nat, k = (j : Int) := ⟨k.toNat, by omega⟩
        have hj : j < ns.length := by omega
        have ha : atI (ns.map V.int) ((j : Nat) : Int) = some (.int ns[j]) := atI_nat (by rw [List.getElem?_map, List.getElem?_eq_getElem hj]; rfl)
        exact ⟨.ref a, rfl, .int (j : Nat), rfl, a, _, _, _, rfl, rfl, hS, ha, rfl, _, rfl⟩
      · exact ⟨rfl, 0, rfl⟩
    · obtain ⟨rfl, c, rfl⟩ := hm
      refine ⟨.int c, rfl, 10, 18, rfl, rfl, ⟨by decide, by decide, by decide⟩, c, _, rfl, rfl, _, rfl, ite2 (fun _ => ?_) (fun _ => ?_)⟩
      · refine ⟨.int c, rfl, 10, 18, rfl, rfl, ⟨by decide, by decide, by decide⟩, c, _, rfl, rfl, 10, 60, rfl, rfl, ⟨by decide, by decide, by decide⟩, 10, 60, rfl, rfl, ⟨by decide, by decide, by decide⟩, _, _, rfl, rfl, by show CMulX _ _; unfold CMulX; decide +kernel,
          10, 60, rfl, rfl, ⟨by decide, by decide, by decide⟩, _, _, rfl, rfl, by show CMulX _ _; unfold CMulX; decide +kernel, 10, 60, rfl, rfl, ⟨by decide, by decide, by decide⟩, _, _, rfl, rfl, by show CMulX _ _; unfold CMulX; decide +kernel, _, _, rfl, rfl, by show (0 : Int) < _; decide +kernel, q _⟩
      · refine ⟨24, rfl, by decide, by decide, for_range (lo := 0) (n := 24) (fun _ σ' H'' => H'' = H' ∧ ∃ z t, σ' = [some (.ref a), some (.int k), some (.int c), some (.int z), t]) ⟨rfl, 0, none, rfl⟩ (fun i σ' H'' hi hp => ?_) (fun σ' H'' hp => ?_)⟩
        · obtain ⟨rfl, z, t, rfl⟩ := hp
          refine ⟨.int z, rfl, z, 2147483579, rfl, rfl, .inr ⟨by decide, by decide⟩, .int c, rfl, .int k, rfl, 7, k, rfl, rfl, .inl ⟨by decide, by decide⟩, .int (0 + (i : Int)), rfl, 100, _, rfl, rfl, .inl ⟨by decide, by decide⟩, _, _, rfl, rfl, .int (0 + (i : Int)), rfl, .int (0 + (i : Int)), rfl, _, _, rfl, rfl, .inl ⟨by omega, by omega⟩, _, _, rfl, rfl, c, _, rfl, fun y => ⟨_, _, rfl, rfl, rfl, _, _, rfl⟩⟩
        · obtain ⟨rfl, z, t, rfl⟩ := hp
          exact ⟨.int z, rfl, q z⟩
theorem ok_law_take {f : Addr} {fd : FuncData} (T : Top mg) (F : FnP K "_law_take" s_law_take f fd) : FnOk P w K mg base CX0 1 f fd ["_law_pile", "_law_size"] spTake := by
  have sc := sc_law_take
  refine ok0 F sc (fun vs H Q E h => ?_) (fun cdv A outer s H vs Q E hr h => ?_)
  · obtain ⟨p, x, n, rfl, _⟩ := h
    rfl
  · obtain ⟨p, x, n, rfl, hp, h0, h1, q⟩ := h
    refine ⟨_, (pss_cons (ps_set (i := 2) sc.nd rfl (.inl rfl) (pe_op op_mod (pe_ix ix_list (pv 0) pe_int (fun _ _ => rfl)) (pv 1)))
    (pss_cons (ps_asg (pe_op op_fdivW (pe_ix ix_list (pv 0) pe_int (fun _ _ => rfl)) (pv 1)) (pg_sub (pv 0) pe_int set_list))
    (pss_one (ps_ret (pv 2))))), ?_⟩
    refine ⟨.ref p, rfl, p, [.int x], 0, .int x, rfl, rfl, sq_of hp, rfl, .int n, rfl, x, n, rfl, rfl, h0, ?_⟩
    refine ⟨.ref p, rfl, p, [.int x], 0, .int x, rfl, rfl, sq_of hp, rfl, .int n, rfl, x, n, rfl, rfl, ⟨h0, h1⟩, .ref p, rfl, p, [.int x], 0, 0, rfl, rfl, hp, rfl, ?_⟩
    exact ⟨_, rfl, q⟩
theorem ok_law_odd {f : Addr} {fd : FuncData} (T : Top mg) (F : FnP K "_law_odd" s_law_odd f fd) : FnOk P w K mg base CX0 1 f fd ["_law_m", "_law_e"] spNof := by
  have sc := sc_law_odd
  refine ok0 F sc (fun vs H Q E h => ?_) (fun cdv A outer s H vs Q E hr h => ?_)
  · obtain ⟨m, e, rfl, _⟩ := h
    rfl
  · obtain ⟨m, e, rfl, q⟩ := h
    refine ⟨_, (pss_cons (ps_if (pt_cmpR op_eq (pv 0) pe_int (nomark _))
      (pss_one (ps_ret (pe_tup (pa_cons pe_int (pa_cons pe_int pa_nil))))) pss_nil)
    (pss_cons (ps_while PassesOwn.never (pt_cmpR op_eq (pe_op op_mod (pv 0) pe_int) pe_int (nomark _))
      (pss_cons (ps_set (i := 0) sc.nd rfl (.inl rfl) (pe_op op_fdivW (pv 0) pe_int))
      (pss_one (ps_set (i := 1) sc.nd rfl (.inl rfl) (pe_op op_add (pv 1) pe_int)))))
    (pss_one (ps_ret (pe_tup (pa_cons (pv 0) (pa_cons (pv 1) pa_nil))))))), ?_⟩
    refine ⟨.int m, rfl, rfl, _, rfl, ite2 (fun h0 => ?_) (fun h0 => ?_)⟩
    · have e0 : m = 0 := V.int.inj (of_decide_eq_true h0)
      subst e0
      exact ⟨by show 2 ≤ sizeLine; decide, fun p hp => q _ p (Ex.new hp) hp upd_same⟩
    · have e0 : m ≠ 0 := fun z => h0 (decide_eq_true (congrArg V.int z))
      refine q_while (fun n σ' H' => ∃ (m' e' : Int) (j : Nat), σ' = [some (.int m'), some (.int e')] ∧ Ex H H' ∧ m' ≠ 0 ∧ m = 2 ^ j * m' ∧ e' = e + j ∧ n = m'.natAbs) m.natAbs ⟨m, e, 0, rfl, Ex.refl H, e0, by rw [Int.pow_zero, Int.one_mul], by omega, rfl⟩ ?_
      rintro n σ' H' ⟨m', e', j, rfl, ex, hm, hj, he, hn⟩
      refine ⟨_, et_test (ev_op (ev_op (ev_var rfl) ev_c (rv_I (by decide))) ev_c (rv_eq rfl)), fun hb H1 e1 => ?_, fun hb H1 e1 => ?_⟩
      · have h2 : m' % 2 = 0 := V.int.inj (of_decide_eq_true hb)
        refine ⟨_, fun _ _ h => h, ?_⟩
        refine ⟨.int m', rfl, m', 2, rfl, rfl, ⟨by decide, by decide⟩, .int e', rfl, e', 1, rfl, rfl, ?_⟩
        refine ⟨(m' / 2).natAbs, by omega, m' / 2, e' + 1, j + 1, rfl, ex.trans e1, by omega, ?_, by omega, rfl⟩
        rw [Int.pow_succ, Int.mul_assoc, show 2 * (m' / 2) = m' by omega]
        exact hj
      · have h2 : ¬ m' % 2 = 0 := fun z => by
          rw [decide_eq_true (congrArg V.int z)] at hb
          cases hb
        have hm2 : m' = 2 * (m' / 2) + 1 := by omega
        have en : nrm m e = (m', e') := by
          have h3 : m = 2 ^ j * (2 * (m' / 2) + 1) := by rw [← hm2]; exact hj
          rw [nrm_of e h3, ← hm2, he]
        refine ⟨.int m', rfl, .int e', rfl, by show 2 ≤ sizeLine; decide, fun p hp => q _ p ((ex.trans e1).trans (Ex.new hp)) (fresh_back (ex.trans e1) hp) ?_⟩
        rw [upd_same, en]
theorem nrm2_ge (m e : Int) : min e 0 ≤ (nrm m e).2 := by
  unfold nrm
  by_cases h : m = 0
  · rw [if_pos h]
    show min e 0 ≤ 0
    omega
  · rw [if_neg h]
    show min e 0 ≤ e + (v2 m : Int)
    omega
theorem nrm2_le {m e : Int} {k : Nat} (h : m.natAbs < 2 ^ (k + 1)) : (nrm m e).2 ≤ max (e + k) 0 := by
  unfold nrm
  by_cases h0 : m = 0
  · rw [if_pos h0]
    show (0 : Int) ≤ max (e + k) 0
    omega
  · rw [if_neg h0]
    have := v2_lt h h0
    show e + (v2 m : Int) ≤ max (e + k) 0
    omega
def mostN (w : Int) : Int := if w = 0 then 8 else if w = 1 then 64 else if w = 2 then 2 ^ 20 else if w = 3 then 2 ^ 60 else 2 ^ 200
def farN (w : Int) : Int := if w = 0 then 3 else if w = 1 then 9 else if w = 2 then 30 else if w = 3 then 100 else 800
def cutN (w : Int) : Int := if w = 4 then 1 else 0
theorem five_ways {w : Int} (h0 : 0 ≤ w) (h5 : w < 5) : w = 0 ∨ w = 1 ∨ w = 2 ∨ w = 3 ∨ w = 4 := by omega
theorem draw_bd {m e : Int} (hm : m.natAbs ≤ 2 ^ 200) (h1 : -800 ≤ e) (h2 : e ≤ 799) : (nrm m e).1.natAbs < 2 ^ 300 ∧ (nrm m e).2.natAbs ≤ 1000 ∧ Bd (nrm m e) 2000 := by
  have hm1 : m.natAbs < 2 ^ (200 + 1) := Nat.lt_of_le_of_lt hm (Nat.pow_lt_pow_right (by decide) (by decide))
  have a := nrm2_ge m e
  have b := nrm2_le (e := e) hm1
  have c := nrm_abs m e
  have c1 := Nat.le_trans c hm
  have x : (nrm m e).2.natAbs ≤ 1000 := by omega
  exact ⟨Nat.lt_of_le_of_lt c1 (Nat.pow_lt_pow_right (by decide) (by decide)), x, Nat.lt_of_le_of_lt c1 (Nat.pow_lt_pow_right (by decide) (by decide)), by omega⟩
def spLn (K : PySem.W.Frag) : Sp := fun vs H Q _ => ∃ p : Addr, vs = [.ref p] ∧ Pl p H ∧ ∀ v n H', Keeps p H H' → Pl p H' → Gn K H' v n 2000 → n.1.natAbs < 2 ^ 300 → n.2.natAbs ≤ 1000 → Q v H'
theorem ok_law_number {f f1 f2 : Addr} {fd fd1 fd2 : FuncData} (T : Top mg) (F : FnP K "_law_number" s_law_number f fd) (c_law_take : Cal P w K mg base CX0 1 "_law_take" ["_law_pile", "_law_size"] spTake f1 fd1) (c_law_odd : Cal P w K mg base CX0 1 "_law_odd" ["_law_m", "_law_e"] spNof f2 fd2) : FnOk P w K mg base CX0 2 f fd ["_law_pile"] (spLn K) := by
  have sc := sc_law_number
  refine ok0 F sc (fun vs H Q E h => ?_) (fun cdv A outer s H vs Q E hr h => ?_)
  · obtain ⟨p, rfl, _⟩ := h
    rfl
  · obtain ⟨p, rfl, l0, q⟩ := h
    refine ⟨_, (pss_cons (ps_set (i := 1) sc.nd rfl (.inl rfl) (pe_call c_law_take.ok (hr.mono (by decide)) (by rfl) c_law_take.m c_law_take.kp c_law_take.b .nil pass0 (pa_cons (pv 0) (pa_cons pe_int pa_nil))))
    (pss_cons (ps_set (i := 2) sc.nd rfl (.inl rfl) (pe_ix ix_list (pe_lst (pa_cons pe_int (pa_cons pe_int (pa_cons (pe_op op_pow pe_int pe_int) (pa_cons (pe_op op_pow pe_int pe_int) (pa_cons (pe_op op_shlW pe_int pe_int) pa_nil)))))) (pv 1) (fun _ _ => rfl)))
    (pss_cons (ps_set (i := 3) sc.nd rfl (.inl rfl) (pe_ix ix_list (pe_lst (pa_cons pe_int (pa_cons pe_int (pa_cons pe_int (pa_cons pe_int (pa_cons pe_int pa_nil)))))) (pv 1) (fun _ _ => rfl)))
    (pss_cons (ps_set (i := 4) sc.nd rfl (.inl rfl) (pe_op op_add (pe_op op_sub (pe_call c_law_take.ok (hr.mono (by decide)) (by rfl) c_law_take.m c_law_take.kp c_law_take.b .nil pass0 (pa_cons (pv 0) (pa_cons (pe_op op_mulX pe_int (pv 2)) pa_nil))) (pv 2)) pe_int))
    (pss_one (ps_ret (pe_call c_law_odd.ok (hr.mono (by decide)) (by rfl) c_law_odd.m c_law_odd.kp c_law_odd.b .nil pass0 (pa_cons (pv 4) (pa_cons (pe_op op_sub (pe_call c_law_take.ok (hr.mono (by decide)) (by rfl) c_law_take.m c_law_take.kp c_law_take.b .nil pass0 (pa_cons (pv 0) (pa_cons (pe_op op_sub (pe_op op_mulX pe_int (pv 3)) (pe_op op_mulX pe_int (pe_callTy call_int1 (by rfl) T.ty_int (by decide +kernel) (pa_cons (pe_cmpR op_eq (pv 1) pe_int (nomark _)) pa_nil)))) pa_nil))) (pv 3)) pa_nil))))))))), ?_⟩
    have p200 : (2 : Int) ^ 200 = ((2 ^ 200 : Nat) : Int) := by decide +kernel
    refine k_asg (P := fun _ v => ∃ z, v = .int z ∧ 0 ≤ z ∧ z < 5) (evi_take (N := fun z => z = 5) (T := fun z => 0 ≤ z ∧ z < 5) rfl (evi_c rfl) (fun m hm => by subst hm; exact ⟨by decide, by decide⟩) (fun m z hm a b => by subst hm; exact ⟨a, b⟩)) l0 fun v1 H1 k1 l1 ⟨way, e1, w0, w5⟩ => ?_
    subst e1
    refine k_asg (P := fun _ v => ∃ z, v = .int z ∧ z = mostN way) (evi_ix (U := fun z => z = mostN way) (W := fun z => z = way) (evk_lst
      (evis_cons (S := fun z => z = mostN 0) (evi_c rfl)
      (evis_cons (S := fun z => z = mostN 1) (evi_c rfl)
      (evis_cons (S := fun z => z = mostN 2) (evi_opC (S := fun z => z = 2) (T := fun z => z = 20) (evi_c rfl) (evi_c rfl) (fun a b ha hb => by subst ha hb; exact ⟨by decide, by decide, by decide⟩) (fun a b ha hb => by subst ha hb; decide +kernel))
      (evis_cons (S := fun z => z = mostN 3) (evi_opC (S := fun z => z = 2) (T := fun z => z = 60) (evi_c rfl) (evi_c rfl) (fun a b ha hb => by subst ha hb; exact ⟨by decide, by decide, by decide⟩) (fun a b ha hb => by subst ha hb; decide +kernel))
      (evis_cons (S := fun z => z = mostN 4) (evi_opC (S := fun z => z = 1) (T := fun z => z = 200) (evi_c rfl) (evi_c rfl) (fun a b ha hb => by subst ha hb; exact shl_ok (i := 1) (n := 1) (j := 200) (by decide) (by decide)) (fun a b ha hb => by subst ha hb; decide +kernel)) evis_nil)))))) (evi_var rfl rfl)
      (fun z hz => by subst hz; refine ⟨w0, ?_⟩; rcases five_ways w0 w5 with rfl | rfl | rfl | rfl | rfl <;> exact ⟨_, rfl, fun z h => h⟩)) l1 fun v2 H2 k2 l2 ⟨most, e2, hmo⟩ => ?_
    subst e2
    have mb : 8 ≤ most ∧ most ≤ 2 ^ 200 := by
      rw [hmo]
      rcases five_ways w0 w5 with rfl | rfl | rfl | rfl | rfl <;> decide +kernel
    refine k_asg (P := fun _ v => ∃ z, v = .int z ∧ z = farN way) (evi_ix (U := fun z => z = farN way) (W := fun z => z = way) (evk_lst
      (evis_cons (S := fun z => z = farN 0) (evi_c rfl)
      (evis_cons (S := fun z => z = farN 1) (evi_c rfl)
      (evis_cons (S := fun z => z = farN 2) (evi_c rfl)
      (evis_cons (S := fun z => z = farN 3) (evi_c rfl)
      (evis_cons (S := fun z => z = farN 4) (evi_c rfl) evis_nil)))))) (evi_var rfl rfl)
      (fun z hz => by subst hz; refine ⟨w0, ?_⟩; rcases five_ways w0 w5 with rfl | rfl | rfl | rfl | rfl <;> exact ⟨_, rfl, fun z h => h⟩)) l2 fun v3 H3 k3 l3 ⟨far, e3, hfa⟩ => ?_
    subst e3
    have p202 : 2 * most ≤ 2 ^ 202 := by
      have e : (2 : Int) ^ 202 = 2 ^ 200 * 4 := by decide +kernel
      omega
    have m2 : ∀ a b : Int, a = 2 → b = most → CMulX a b := fun a b ha hb => by
      subst ha hb
      exact ml (a := 2) (b := 200) (by decide) (by omega) (by decide)
    refine k_asg (P := fun _ v => ∃ z : Int, v = .int z ∧ z.natAbs ≤ 2 ^ 200) (evi_op (U := fun z => z.natAbs ≤ 2 ^ 200) (S := fun z => -most ≤ z ∧ z < most) (T := fun z => z = 1) (evi_op (U := fun z => -most ≤ z ∧ z < most) (S := fun z => 0 ≤ z ∧ z < 2 * most) (T := fun z => z = most) (evi_take (N := fun z => z = 2 * most) rfl (evi_opC (S := fun z => z = 2) (T := fun z => z = most) (evi_c rfl) (evi_var rfl rfl) m2 (fun a b ha hb => by subst ha hb; rfl)) (fun n hn => by subst hn; exact ⟨by omega, log_small (k := 202) (by omega) p202 (by decide)⟩) (fun n z hn a b => by subst hn; exact ⟨a, b⟩)) (evi_var rfl rfl) (fun a b ha hb => by subst hb; omega)) (evi_c rfl) (fun a b ha hb => by subst hb; omega)) l3 fun v4 H4 k4 l4 ⟨m, e4, hm⟩ => ?_
    subst e4
    have k04 := ((k1.trans k2).trans k3).trans k4
    have fb : 3 ≤ far ∧ far ≤ 800 ∧ 0 < 2 * far - 200 * cutN way ∧ 2 * far - 200 * cutN way ≤ 1400 ∧ 0 ≤ cutN way := by
      rw [hfa]
      rcases five_ways w0 w5 with rfl | rfl | rfl | rfl | rfl <;> decide
    refine k_ret (P := fun H v => ∃ a b : Int, (a = m ∧ -800 ≤ b ∧ b ≤ 799) ∧ Gn K H v (nrm a b) 2000) (evk_nof (S := fun z => z = m) (T := fun z => -800 ≤ z ∧ z ≤ 799) (R := fun a b => a = m ∧ -800 ≤ b ∧ b ≤ 799) (evi_var rfl rfl) (evi_op (S := fun z => 0 ≤ z ∧ z < 2 * far - 200 * cutN way) (T := fun z => z = far) (evi_take (N := fun z => z = 2 * far - 200 * cutN way) rfl (evi_op (S := fun z => z = 2 * far) (T := fun z => z = 200 * cutN way) (evi_opC (S := fun z => z = 2) (T := fun z => z = far) (evi_c rfl) (evi_var rfl rfl) (fun a b ha hb => by subst ha hb; exact ml (a := 2) (b := 10) (by decide) (by show b.natAbs ≤ 1024; omega) (by decide)) (fun a b ha hb => by subst ha hb; rfl)) (evi_opC (S := fun z => z = 200) (T := fun z => z = cutN way) (evi_c rfl) (fun H1 k l Q q => ⟨.int way, rfl, rfl, .inr ⟨_, rfl, q _ H1 (Keeps.refl p H1) l ⟨_, rfl, by
        unfold cutN
        by_cases y : way = 4
        · rw [if_pos y, decide_eq_true (congrArg V.int y), if_pos rfl]
        · rw [if_neg y, decide_eq_false (fun z => y (V.int.inj z)), if_neg (by decide)]⟩⟩⟩) (fun a b ha hb => by subst ha hb; exact ml (a := 8) (b := 1) (by decide) (by unfold cutN; split <;> decide) (by decide)) (fun a b ha hb => by subst ha hb; rfl)) (fun a b ha hb => by subst ha hb; rfl)) (fun n hn => by subst hn; exact ⟨fb.2.2.1, log_small (k := 12) fb.2.2.1 (by omega) (by decide)⟩) (fun n z hn a b => by subst hn; exact ⟨a, b⟩)) (evi_var rfl rfl) (fun a b ha hb => by subst hb; omega)) (fun a b ha hb => by subst ha; exact ⟨⟨rfl, hb⟩, (draw_bd hm hb.1 hb.2).2.2⟩)) l4 fun v H5 k5 l5 ⟨a, b, ⟨ha, hb1, hb2⟩, g⟩ => ?_
    subst ha
    obtain ⟨d1, d2, _⟩ := draw_bd hm hb1 hb2
    exact q v _ H5 (k04.trans k5) l5 g d1 d2
/-- the class D, by the nine classes and by seven that are built in -/
structure KindsOf (K : PySem.W.Frag) (D : Addr) (Cs : List Addr) (bs : List Bool) (v l a z o k i : Bool) : Prop where
  xc : ExcC K D
  nine : ∀ (j : Nat) (C : Addr) (b : Bool), Cs[j]? = some C → bs[j]? = some b → PySem.W.kitOne K (.ref D) (.ref C) = some b
  len : bs.length = 9
  v : PySem.W.kitOne K (.ref D) (.type "ValueError") = some v
  l : PySem.W.kitOne K (.ref D) (.type "LookupError") = some l
  a : PySem.W.kitOne K (.ref D) (.type "ArithmeticError") = some a
  z : PySem.W.kitOne K (.ref D) (.type "ZeroDivisionError") = some z
  o : PySem.W.kitOne K (.ref D) (.type "OverflowError") = some o
  k : PySem.W.kitOne K (.ref D) (.type "KeyError") = some k
  i : PySem.W.kitOne K (.ref D) (.type "IndexError") = some i
def spKinds (K : PySem.W.Frag) (Cs : List Addr) (a : Addr) (cls : Value) (d : Option Addr) : Sp := fun vs H Q _ => ∃ D bs, ∃ v l ar z o k i : Bool, vs = [.ref a] ∧ cls = .ref D ∧ d = none ∧ KindsOf K D Cs bs v l ar z o k i ∧ ∀ u H', Ex H H' → KindAt H' u (sel kNames bs) [v, l, ar, z || o, k || i] → Q u H'
theorem ev_isE {K : PySem.W.Frag} {D a : Addr} {σ : L2.St} {H : Hp} {i : Nat} {C : Addr} {b : Bool} (hi : σ[i]? = some (some (.ref a))) (h : PySem.W.kitOne K (.ref D) (.ref C) = some b) : Ev (tCB (rIsE K D a) (tCons (tVar i) (tCons (tC (.ref C)) tNil))) σ H (.bl b) := fun H1 e Q q =>
  ⟨.ref a, hi, .ref C, .ref C, b, rfl, fun u r => r, h, q H1 (Ex.refl H1)⟩
theorem ev_isB {K : PySem.W.Frag} {D a : Addr} {σ : L2.St} {H : Hp} {i : Nat} {T : String} {b : Bool} (hi : σ[i]? = some (some (.ref a))) (h : PySem.W.kitOne K (.ref D) (.type T) = some b) : Ev (tCB (rIsE K D a) (tCons (tVar i) (tCons (tC (.ty T)) tNil))) σ H (.bl b) := fun H1 e Q q =>
  ⟨.ref a, hi, .ty T, .type T, b, rfl, fun u r => r, h, q H1 (Ex.refl H1)⟩
theorem el_catV {σ : L2.St} {H : Hp} {i : Nat} {A : Addr} {xs ys : List V} {tb : TE} (hi : σ[i]? = some (some (.ref A))) (hA : H A = some (.lst xs)) (h : EvL tb σ H ys) (hz : xs.length + ys.length ≤ 100000) : EvL (tOp rCat (tVar i) tb) σ H (xs ++ ys) := fun H1 e Q q =>
  ⟨.ref A, hi, h H1 e _ fun p H2 hp e2 h2 => ⟨A, p, xs, ys, rfl, rfl, (e.trans e2) _ _ hA, h2, sz_of hz, fun r hr => q r _ (fresh_back e2 hr) (e2.trans (Ex.new hr)) upd_same⟩⟩
theorem o_lst {t : TA} {σ : L2.St} {H : Hp} {Q : VK} (h : t σ H fun xs H1 => xs.length ≤ sizeLine ∧ ∀ p, H1 p = none → Q (.ref p) (upd H1 p (.lst xs))) : tLst t σ H Q := h
theorem ex_mut {H H' : Hp} {r : Addr} {o : HO} (e : Ex H H') (hr : H r = none) : Ex H (upd H' r o) := fun b u hb => by
  rw [upd_ne (ne_of_none hb hr)]
  exact e b u hb
theorem ok_law_kinds {f C_NoNumber C_NoForm C_NoPlace C_NoStretch C_NoText C_NoLine C_NoWord C_TooGreat C_TooMany : Addr} {fd : FuncData} (T : Top mg) (TX : TopX mg) (S_NoNumber : GlM mg "NoNumber" C_NoNumber) (S_NoForm : GlM mg "NoForm" C_NoForm) (S_NoPlace : GlM mg "NoPlace" C_NoPlace) (S_NoStretch : GlM mg "NoStretch" C_NoStretch) (S_NoText : GlM mg "NoText" C_NoText) (S_NoLine : GlM mg "NoLine" C_NoLine) (S_NoWord : GlM mg "NoWord" C_NoWord) (S_TooGreat : GlM mg "TooGreat" C_TooGreat) (S_TooMany : GlM mg "TooMany" C_TooMany)
    (F : FnP K "_law_kinds" s_law_kinds f fd) (bd : Binds K fd ["_law_error"] []) : FnE P w K mg base CX0 1 f (spKinds K [C_NoNumber, C_NoForm, C_NoPlace, C_NoStretch, C_NoText, C_NoLine, C_NoWord, C_TooGreat, C_TooMany]) := by
  have sc := sc_law_kinds
  refine okE F sc bd (fun a c d vs H Q E h => ?_) (fun cdv A outer s H vs Q E p cls d hot hz hr h => ?_)
  · obtain ⟨D, bs, v, l, ar, z, o, k, i, rfl, _⟩ := h
    rfl
  · obtain ⟨D, bs, v, l, ar, z, o, k, i, rfl, rfl, rfl, KD, q⟩ := h
    have hp : p ∈ [p] := List.mem_cons_self
    have hf : ∃ vs, p.2.data = .fields vs := by
      obtain ⟨_, vs, e, _⟩ := hot
      exact ⟨vs, e⟩
    have XC := KD.xc
    have zc := hz.zc
    refine ⟨_, (pss_cons (ps_set (i := 1) sc.nd rfl (by first | exact .inl rfl | exact .inr rfl) (pe_lst (pa_cons (pe_callB (call_isQ XC zc hf hp) (by rfl) T.isinstance (by decide +kernel) (pa_cons (pv 0) (pa_cons (pe_glob (v := .ref C_NoNumber) (by rfl) S_NoNumber.m rfl) pa_nil))) (pa_cons (pe_callB (call_isQ XC zc hf hp) (by rfl) T.isinstance (by decide +kernel) (pa_cons (pv 0) (pa_cons (pe_glob (v := .ref C_NoForm) (by rfl) S_NoForm.m rfl) pa_nil))) (pa_cons (pe_callB (call_isQ XC zc hf hp) (by rfl) T.isinstance (by decide +kernel) (pa_cons (pv 0) (pa_cons (pe_glob (v := .ref C_NoPlace) (by rfl) S_NoPlace.m rfl) pa_nil))) pa_nil)))))
    (pss_cons (ps_set (i := 1) sc.nd rfl (by first | exact .inl rfl | exact .inr rfl) (pe_op op_cat (pv 1) (pe_lst (pa_cons (pe_callB (call_isQ XC zc hf hp) (by rfl) T.isinstance (by decide +kernel) (pa_cons (pv 0) (pa_cons (pe_glob (v := .ref C_NoStretch) (by rfl) S_NoStretch.m rfl) pa_nil))) (pa_cons (pe_callB (call_isQ XC zc hf hp) (by rfl) T.isinstance (by decide +kernel) (pa_cons (pv 0) (pa_cons (pe_glob (v := .ref C_NoText) (by rfl) S_NoText.m rfl) pa_nil))) (pa_cons (pe_callB (call_isQ XC zc hf hp) (by rfl) T.isinstance (by decide +kernel) (pa_cons (pv 0) (pa_cons (pe_glob (v := .ref C_NoLine) (by rfl) S_NoLine.m rfl) pa_nil))) pa_nil))))))
    (pss_cons (ps_set (i := 1) sc.nd rfl (by first | exact .inl rfl | exact .inr rfl) (pe_op op_cat (pv 1) (pe_lst (pa_cons (pe_callB (call_isQ XC zc hf hp) (by rfl) T.isinstance (by decide +kernel) (pa_cons (pv 0) (pa_cons (pe_glob (v := .ref C_NoWord) (by rfl) S_NoWord.m rfl) pa_nil))) (pa_cons (pe_callB (call_isQ XC zc hf hp) (by rfl) T.isinstance (by decide +kernel) (pa_cons (pv 0) (pa_cons (pe_glob (v := .ref C_TooGreat) (by rfl) S_TooGreat.m rfl) pa_nil))) (pa_cons (pe_callB (call_isQ XC zc hf hp) (by rfl) T.isinstance (by decide +kernel) (pa_cons (pv 0) (pa_cons (pe_glob (v := .ref C_TooMany) (by rfl) S_TooMany.m rfl) pa_nil))) pa_nil))))))
    (pss_cons (ps_set (i := 2) sc.nd rfl (by first | exact .inl rfl | exact .inr rfl) (pe_lst (pa_cons pe_str (pa_cons pe_str (pa_cons pe_str (pa_cons pe_str (pa_cons pe_str (pa_cons pe_str (pa_cons pe_str (pa_cons pe_str (pa_cons pe_str pa_nil)))))))))))
    (pss_cons (ps_set (i := 3) sc.nd rfl (by first | exact .inl rfl | exact .inr rfl) (pe_lst (pa_cons (pe_callB (call_isQ XC zc hf hp) (by rfl) T.isinstance (by decide +kernel) (pa_cons (pv 0) (pa_cons (pe_bltn (v := .ty "ValueError") (by rfl) TX.ValueError (by decide +kernel) rfl) pa_nil))) (pa_cons (pe_callB (call_isQ XC zc hf hp) (by rfl) T.isinstance (by decide +kernel) (pa_cons (pv 0) (pa_cons (pe_bltn (v := .ty "LookupError") (by rfl) TX.LookupError (by decide +kernel) rfl) pa_nil))) pa_nil))))
    (pss_cons (ps_set (i := 3) sc.nd rfl (by first | exact .inl rfl | exact .inr rfl) (pe_op op_cat (pv 3) (pe_lst (pa_cons (pe_callB (call_isQ XC zc hf hp) (by rfl) T.isinstance (by decide +kernel) (pa_cons (pv 0) (pa_cons (pe_bltn (v := .ty "ArithmeticError") (by rfl) TX.ArithmeticError (by decide +kernel) rfl) pa_nil))) pa_nil))))
    (pss_cons (ps_expr (pe_bm PySem.F.plainAttrs_list PySem.F.slot_list_append PySem.F.type_list_append mt_append (pv 3) (pa_cons (pe_or (pe_callB (call_isQ XC zc hf hp) (by rfl) T.isinstance (by decide +kernel) (pa_cons (pv 0) (pa_cons (pe_bltn (v := .ty "ZeroDivisionError") (by rfl) TX.ZeroDivisionError (by decide +kernel) rfl) pa_nil))) (pe_one (pe_callB (call_isQ XC zc hf hp) (by rfl) T.isinstance (by decide +kernel) (pa_cons (pv 0) (pa_cons (pe_bltn (v := .ty "OverflowError") (by rfl) TX.OverflowError (by decide +kernel) rfl) pa_nil))))) pa_nil)))
    (pss_cons (ps_expr (pe_bm PySem.F.plainAttrs_list PySem.F.slot_list_append PySem.F.type_list_append mt_append (pv 3) (pa_cons (pe_or (pe_callB (call_isQ XC zc hf hp) (by rfl) T.isinstance (by decide +kernel) (pa_cons (pv 0) (pa_cons (pe_bltn (v := .ty "KeyError") (by rfl) TX.KeyError (by decide +kernel) rfl) pa_nil))) (pe_one (pe_callB (call_isQ XC zc hf hp) (by rfl) T.isinstance (by decide +kernel) (pa_cons (pv 0) (pa_cons (pe_bltn (v := .ty "IndexError") (by rfl) TX.IndexError (by decide +kernel) rfl) pa_nil))))) pa_nil)))
    (pss_one (ps_ret (pe_lst (pa_cons (pe_lcQ (own := [("_law_word", 4), ("_law_so", 5)]) (g := gTup K 2 (gCons (gName 4) (gCons (gName 5) gNil))) (tt := tB (tVar 5)) (te := tVar 4) (p := p) hot hp sc.nd (piq_zip (by rfl) TX.zip (pa_cons (pv 2) (pa_cons (pv 1) pa_nil))) (blkOk_by (own := [("_law_word", 4), ("_law_so", 5)]) (N := ["_law_error", "_law_got", "_law_names", "_law_beneath", "_law_word", "_law_so"]) (sc := defScope s_law_kinds) (by decide +kernel)) (fun _ _ _ _ _ h => pg_tupQ h (pgs_cons (pg_name (i := 4) sc.nd rfl (Or.inl rfl)) (pgs_cons (pg_name (i := 5) sc.nd rfl (Or.inl rfl)) pgs_nil))) (fun _ _ _ _ _ => pts_one (pt_val (pv 5))) (fun _ _ _ _ _ => pv 4)) (pa_cons (pv 3) pa_nil))))))))))))), ?_⟩
    obtain ⟨b1, b2, b3, b4, b5, b6, b7, b8, b9, rfl⟩ : ∃ b1 b2 b3 b4 b5 b6 b7 b8 b9, bs = [b1, b2, b3, b4, b5, b6, b7, b8, b9] := by
      match bs, KD.len with
      | [b1, b2, b3, b4, b5, b6, b7, b8, b9], _ => exact ⟨b1, b2, b3, b4, b5, b6, b7, b8, b9, rfl⟩
    have kn := KD.nine
    refine q_asgL (i := 1) (el_lst (ea_cons (ev_isE (i := 0) rfl (kn 0 _ _ rfl rfl)) (ea_cons (ev_isE (i := 0) rfl (kn 1 _ _ rfl rfl)) (ea_cons (ev_isE (i := 0) rfl (kn 2 _ _ rfl rfl)) ea_nil))) (by show 3 ≤ 100000; decide)) fun g1 H1 ng1 e1 hg1 => ?_
    refine q_asgL (i := 1) (el_catV (i := 1) rfl hg1 (el_lst (ea_cons (ev_isE (i := 0) rfl (kn 3 _ _ rfl rfl)) (ea_cons (ev_isE (i := 0) rfl (kn 4 _ _ rfl rfl)) (ea_cons (ev_isE (i := 0) rfl (kn 5 _ _ rfl rfl)) ea_nil))) (by show 3 ≤ 100000; decide)) (by show 6 ≤ 100000; decide)) fun g2 H2 ng2 e2 hg2 => ?_
    refine q_asgL (i := 1) (el_catV (i := 1) rfl hg2 (el_lst (ea_cons (ev_isE (i := 0) rfl (kn 6 _ _ rfl rfl)) (ea_cons (ev_isE (i := 0) rfl (kn 7 _ _ rfl rfl)) (ea_cons (ev_isE (i := 0) rfl (kn 8 _ _ rfl rfl)) ea_nil))) (by show 3 ≤ 100000; decide)) (by show 9 ≤ 100000; decide)) fun g3 H3 ng3 e3 hg3 => ?_
    refine q_asgL (i := 2) (el_lst (ea_cons ev_c (ea_cons ev_c (ea_cons ev_c (ea_cons ev_c (ea_cons ev_c (ea_cons ev_c (ea_cons ev_c (ea_cons ev_c (ea_cons ev_c ea_nil))))))))) (by show 9 ≤ 100000; decide)) fun nm H4 nnm e4 hnm => ?_
    refine q_asgL (i := 3) (el_lst (ea_cons (ev_isB (i := 0) rfl KD.v) (ea_cons (ev_isB (i := 0) rfl KD.l) ea_nil)) (by show 2 ≤ 100000; decide)) fun be H5 nbe e5 hbe => ?_
    refine q_asgL (i := 3) (el_catV (i := 3) rfl hbe (el_lst (ea_cons (ev_isB (i := 0) rfl KD.a) ea_nil) (by show 1 ≤ 100000; decide)) (by show 3 ≤ 100000; decide)) fun bf H6 nbf e6 hbf => ?_
    refine q_app hbf (ev_var (i := 3) rfl) (ev_orV (ev_isB (i := 0) rfl KD.z) (fun _ => ev_isB (i := 0) rfl KD.o)) (by show 3 < 100000; decide) fun H7 e7 => ?_
    have m7 := ex_mut (o := .lst ([V.bl v, V.bl l] ++ [V.bl ar] ++ [V.bl (z || o)])) (e6.trans e7) nbf
    have h7 : (upd H7 bf (.lst ([V.bl v, V.bl l] ++ [V.bl ar] ++ [V.bl (z || o)]))) bf = some (.lst ([V.bl v, V.bl l] ++ [V.bl ar] ++ [V.bl (z || o)])) := upd_same
    generalize upd H7 bf (.lst ([V.bl v, V.bl l] ++ [V.bl ar] ++ [V.bl (z || o)])) = G7 at m7 h7 ⊢
    refine q_app h7 (ev_var (i := 3) rfl) (ev_orV (ev_isB (i := 0) rfl KD.k) (fun _ => ev_isB (i := 0) rfl KD.i)) (by show 4 < 100000; decide) fun H8 e8 => ?_
    have m8 := ex_mut (o := .lst ([V.bl v, V.bl l] ++ [V.bl ar] ++ [V.bl (z || o)] ++ [V.bl (k || i)])) (m7.trans e8) nbf
    have h8 : (upd H8 bf (.lst ([V.bl v, V.bl l] ++ [V.bl ar] ++ [V.bl (z || o)] ++ [V.bl (k || i)]))) bf = some (.lst ([V.bl v, V.bl l] ++ [V.bl ar] ++ [V.bl (z || o)] ++ [V.bl (k || i)])) := upd_same
    generalize upd H8 bf (.lst ([V.bl v, V.bl l] ++ [V.bl ar] ++ [V.bl (z || o)] ++ [V.bl (k || i)])) = G8 at m8 h8 ⊢
    have e03 := (e1.trans e2).trans e3
    have e08 : Ex H G8 := ((e03.trans e4).trans e5).trans m8
    refine o_ret ?_
    refine o_lst (o_cons (lc_sel (K := K) (ws := kNames) (bs := [b1, b2, b3, b4, b5, b6, b7, b8, b9]) (σ := [some (.ref p.1), some (.ref g3), some (.ref nm), some (.ref bf), none, none]) (i := 2) (j := 1) (k := 4) (l := 5) rfl rfl (m8 _ _ (e5 _ _ hnm)) (m8 _ _ (e5 _ _ (e4 _ _ hg3))) rfl (by decide) (fun x y => ⟨rfl, rfl, rfl⟩) fun D H9 e9 nD hD => ?_))
    refine ⟨.ref bf, rfl, by show 2 ≤ sizeLine; decide, fun L hL => ?_⟩
    exact q (.ref L) _ ((e08.trans e9).trans (Ex.new hL)) ⟨L, D, bf, rfl, upd_same, (Ex.new hL) _ _ hD, (Ex.new hL) _ _ (e9 _ _ h8)⟩
def spLf : Sp := fun vs H Q _ => ∃ l : List Nat, vs = [.str (SX.S l)] ∧ l.length ≤ 2000 ∧ ∀ H', Ex H H' → Q (.bl (sizB l)) H'
def ten : List Nat := [48, 49, 50, 51, 52, 53, 54, 55, 56, 57]
theorem ten_is : (("0123456789" : Str)) = SX.S ten := by decide +kernel
theorem ten_in (c : Nat) : decide (c ∈ ten) = isF c := by
  unfold ten isF
  by_cases h : 48 ≤ c ∧ c ≤ 57
  · rw [decide_eq_true h.1, decide_eq_true h.2]
    refine decide_eq_true ?_
    simp only [List.mem_cons, List.not_mem_nil, or_false]
    omega
  · have e : (decide (48 ≤ c) && decide (c ≤ 57)) = false := by
      rw [← Bool.decide_and]
      exact decide_eq_false h
    rw [e]
    refine decide_eq_false fun z => h ?_
    simp only [List.mem_cons, List.not_mem_nil, or_false] at z
    omega
theorem ev_allL {K : PySem.W.Frag} {σ : L2.St} {H : Hp} {te : TE} {bs : List Bool} (h : EvL te σ H (bs.map V.bl)) : Ev (tCB (rAll K) (tCons te tNil)) σ H (.bl (bs.all id)) := fun H1 e Q q =>
  h H1 e _ fun D H2 hD e2 h2 => ⟨D, bs, rfl, sq_of h2, q H2 e2⟩
/-- all([sign in '0123456789' for sign in w]) -/
theorem ev_allT {K : PySem.W.Frag} {σ : L2.St} {H : Hp} {tl : TE} {l : List Nat} {j : Nat} {vs : List Nat} (h : Ev tl σ H (.str (SX.S l))) (hz : l.length ≤ 40000) (hw : ∀ x, wipe ((wipe σ vs).set j (some x)) vs = wipe σ vs) (hj : ∀ x, ((wipe σ vs).set j (some x))[j]? = some (some x)) :
    Ev (tCB (rAll K) (tCons (tLc (iStr tl) (gName j) tYes (tOp (fun x y H Q => ∃ (c : Nat) (z : Str), x = .str ⟨#[c]⟩ ∧ y = .str z ∧ Q (.bl (decide (c ∈ z.cps.toList))) H) (tVar j) (tC (.str "0123456789"))) vs) tNil)) σ H (.bl (l.all isF)) := by
  have e1 : (l.map isF).all id = l.all isF := by
    rw [List.all_map]
    rfl
  have e2 : (l.map isF).map V.bl = l.map (fun c => V.bl (isF c)) := by
    rw [List.map_map]
    rfl
  rw [← e1]
  refine ev_allL ?_
  rw [e2]
  refine el_lcS (fun c => .bl (isF c)) h hz hw (fun c H2 _ hc => ev_op (ev_var (hj _)) ev_c (fun H3 e3 Q3 q3 => ⟨c, SX.S ten, rfl, congrArg V.str ten_is, ?_⟩))
  rw [show decide (c ∈ (SX.S ten).cps.toList) = isF c from ten_in c]
  exact q3 H3 (Ex.refl H3)
theorem ok_law_figures {f : Addr} {fd : FuncData} (T : Top mg) (F : FnP K "_law_figures" s_law_figures f fd) : FnOk P w K mg base CX0 1 f fd ["_law_wording"] spLf := by
  have sc := sc_law_figures
  refine ok0 F sc (fun vs H Q E h => ?_) (fun cdv A outer s H vs Q E hr h => ?_)
  · obtain ⟨l, rfl, _⟩ := h
    rfl
  · obtain ⟨l, rfl, hl, q⟩ := h
    refine ⟨_, (pss_cons (ps_if (PW.pt (pw_or (pt_cmpR op_eq (pv 0) pe_str (nomark _)) (pw_or1 (pt_not (pt_val (pe_callB (cr_all rfl) (by rfl) T.all (by decide +kernel) (pa_cons (pe_lc (own := [("_law_sign", 1)]) (g := gName 1) (tt := tYes) (by rfl) sc.nd (pi_str (pv 0)) (blkOk_by (own := [("_law_sign", 1)]) (N := ["_law_wording", "_law_sign"]) (sc := defScope s_law_figures) (by decide +kernel)) (fun _ _ _ _ _ => pg_name (i := 1) sc.nd rfl (Or.inl rfl)) (fun _ _ _ _ _ => pts_nil) (fun _ _ _ _ _ => (pe_cmpR op_in_sign (pv 1) pe_str (by with_unfolding_all rfl)))) pa_nil)))))))
      (pss_one (ps_ret pe_bl)) pss_nil)
    (pss_one (ps_ret (pe_or (pe_cmpR op_eq (pv 0) pe_str (nomark _)) (pe_one (pe_cmpR op_ne (pe_ix ix_str (pv 0) pe_int (fun _ _ => rfl)) pe_str (nomark _))))))), ?_⟩
    have e0 : decide (V.str (SX.S l) = V.str "") = decide (l = []) := S_eq l []
    have ew : decide (V.str (SX.S l) = V.str "0") = decide (l = [48]) := S_eq l [48]
    refine q_when (et_or (et_test (ev_op (ev_var (i := 0) rfl) ev_c (rv_eq rfl))) (fun _ => et_not (et_B (ev_allT (l := l) (ev_var (i := 0) rfl) (by omega) (fun x => rfl) (fun x => rfl))))) (fun z H1 e1 => ?_) (fun z H1 e1 => ?_)
    · rw [e0] at z
      have n : sizB l = false := by
        cases hs : sizB l with
        | false => rfl
        | true =>
          obtain ⟨h1, h2⟩ := sizB_fig hs
          rw [decide_eq_false h1, all_fig.mpr h2] at z
          cases z
      rw [n] at q
      exact q H1 e1
    · rw [e0] at z
      obtain ⟨z1, z2⟩ := Bool.or_eq_false_iff.mp z
      have hne : l ≠ [] := of_decide_eq_false z1
      have hal : l.all isF = true := by
        cases ha : l.all isF with
        | true => rfl
        | false =>
          rw [ha] at z2
          cases z2
      have hf : figB l = true := figB_iff.mpr ⟨hne, all_fig.mp hal⟩
      unfold sizB at q
      rw [hf, Bool.true_and] at q
      refine ⟨.str (SX.S l), rfl, rfl, _, rfl, ?_⟩
      rw [ew]
      cases hz : decide (l = [48]) with
      | true =>
        rw [hz] at q
        exact iteT (q H1 e1)
      | false =>
        rw [hz, Bool.false_or] at q
        cases l with
        | nil => exact absurd rfl hne
        | cons c r =>
          refine iteF ⟨.str (SX.S (c :: r)), rfl, SX.S (c :: r), 0, c, rfl, rfl, by rw [SX.S_len, sizeLine_eq]; omega, (show atI (c :: r) ((0 : Nat) : Int) = some c from atI_nat rfl), rfl, ?_⟩
          rw [show decide (V.str (⟨#[c]⟩ : Str) = V.str "0") = decide ([c] = [48]) from S_eq [c] [48], show decide ([c] = [48]) = decide ((c :: r).head? = some 48) by simp]
          exact q H1 e1
def spDue (K : PySem.W.Frag) (g : List Nat → Option (Int × Int)) : Sp := fun vs H Q _ => ∃ l : List Nat, vs = [.str (SX.S l)] ∧ l.length ≤ 600 ∧ ∀ v H', Ex H H' → OptAt K H' v (g l) → Q v H'
/-- part[int(part[:1] == '-'):] -/
theorem head_slice (l : List Nat) : decide (V.str (Txt.slice (SX.S l) none (some 1)) = V.str "-") = decide (l.head? = some 45) := by
  rw [SX.slice_to (i := 1) (by decide)]
  show decide (V.str (SX.S (l.take 1)) = V.str (SX.S [45])) = _
  rw [S_eq]
  cases l with
  | nil => rfl
  | cons c r =>
    show decide ([c] = [45]) = decide (some c = some 45)
    by_cases h : c = 45
    · rw [h]
      rfl
    · rw [decide_eq_false (fun z => h (List.cons.inj z).1), decide_eq_false (fun z => h (Option.some.inj z))]
theorem strip_slice (l : List Nat) : Txt.slice (SX.S l) (some (if decide (l.head? = some 45) = true then (1 : Int) else 0)) none = SX.S (strM l) := by
  unfold strM
  by_cases h : l.head? = some 45
  · rw [decide_eq_true h, if_pos rfl, if_pos h, SX.slice_from (i := 1) (by decide)]
    show SX.S (l.drop 1) = _
    rw [List.drop_one]
  · rw [decide_eq_false h, if_neg (by decide), if_neg h, SX.slice_from (i := 0) (by decide)]
    rfl
/-- int(p) of a part that is whole -/
theorem int_whole {p : List Nat} {i : Int} (h : wholeO p = some i) (hl : p.length ≤ 640) : PySem.intText? (SX.S p) = some i := by
  unfold wholeO at h
  split at h
  · rename_i h2
    obtain ⟨hs, _⟩ := h2
    obtain ⟨hne, hf⟩ := sizB_fig hs
    have e := Option.some.inj h
    rw [← e]
    unfold strM at hne hf ⊢
    unfold sgnB sgI
    by_cases z : p.head? = some 45
    · rw [if_pos z] at hne hf
      rw [if_pos z, decide_eq_true z, if_pos rfl]
      cases p with
      | nil => cases z
      | cons c r =>
        have hc : c = 45 := Option.some.inj z
        subst hc
        exact PySem.intText_neg (x := SX.S (45 :: r)) rfl hf hne (by rw [SX.S_len]; omega)
    · rw [if_neg z] at hne hf
      rw [if_neg z, decide_eq_false z, if_neg (by decide)]
      exact PySem.intText_digits (x := SX.S p) hf hne (by rw [SX.S_len]; omega)
  · cases h
theorem ok_law_due_number {f f1 : Addr} {fd fd1 : FuncData} (T : Top mg) (F : FnP K "_law_due_number" s_law_due_number f fd) (c_law_figures : Cal P w K mg base CX0 1 "_law_figures" ["_law_wording"] spLf f1 fd1) : FnOk P w K mg base CX0 2 f fd ["_law_wording"] (spDue K rnO) := by
  have sc := sc_law_due_number
  refine ok0 F sc (fun vs H Q E h => ?_) (fun cdv A outer s H vs Q E hr h => ?_)
  · obtain ⟨l, rfl, _⟩ := h
    rfl
  · obtain ⟨l, rfl, hl, q⟩ := h
    refine ⟨_, (pss_cons (ps_set (i := 1) sc.nd rfl (.inl rfl) (pe_split (pv 0) pe_str))
    (pss_cons (ps_if (PW.pt (pw_or (pt_cmpR op_ne (pe_callB call_len (by rfl) T.len (by decide +kernel) (pa_cons (pv 1) pa_nil)) pe_int (nomark _)) (pw_or1 (pt_cmpR op_in_seq pe_str (pv 1) (by with_unfolding_all rfl)))))
      (pss_one (ps_ret pe_non)) pss_nil)
    (pss_cons (ps_for PassesOwn.never rfl (pi_list (pv 1)) (pg_name (i := 2) sc.nd rfl (.inl rfl))
      (pss_one (ps_if (pt_not (pt_val (pe_call c_law_figures.ok (hr.mono (by decide)) (by rfl) c_law_figures.m c_law_figures.kp c_law_figures.b .nil pass0 (pa_cons (pe_slice C8.sl_txt (pv 2) (po_some (pe_callTy call_int1 (by rfl) T.ty_int (by decide +kernel) (pa_cons (pe_cmpR op_eq (pe_slice C8.sl_txt (pv 2) po_none (po_some pe_int)) pe_str (nomark _)) pa_nil))) po_none) pa_nil))))
        (pss_one (ps_ret pe_non)) pss_nil)))
    (pss_cons (ps_set (i := 3) sc.nd rfl (.inl rfl) (pe_tup (pa_cons (pe_callTy call_int_str (by rfl) T.ty_int (by decide +kernel) (pa_cons (pe_ix ix_list (pv 1) pe_int (fun _ _ => rfl)) pa_nil)) (pa_cons (pe_callTy call_int_str (by rfl) T.ty_int (by decide +kernel) (pa_cons (pe_ix ix_list (pv 1) pe_int (fun _ _ => rfl)) pa_nil)) pa_nil))))
    (pss_cons (ps_if (PW.pt (pw_and (pt_cmpR (op_neD hr.units) (pv 3) (pe_tup (pa_cons pe_int (pa_cons pe_int pa_nil))) (nomark _)) (pw_and1 (pt_cmpR op_eq (pe_op op_mod (pe_ix ix_tup (pv 3) pe_int (fun _ _ => rfl)) pe_int) pe_int (nomark _)))))
      (pss_one (ps_ret pe_non)) pss_nil)
    (pss_one (ps_ret (pv 3)))))))), ?_⟩
    refine ⟨.str (SX.S l), rfl, ⟨_, rfl⟩, SX.S l, SX.S [112], rfl, rfl, rfl, by rw [SX.S_len, sizeLine_eq]; omega, fun p hp => ?_⟩
    rw [SX.split_S (List.cons_ne_nil _ _) (by decide)]
    have e1 := Ex.new (o := .lst (((TL.spl [112] 0 [] l).map SX.S).map V.str)) hp
    have h1 : (upd H p (.lst (((TL.spl [112] 0 [] l).map SX.S).map V.str))) p = some (.lst (((TL.spl [112] 0 [] l).map SX.S).map V.str)) := upd_same
    generalize upd H p (.lst (((TL.spl [112] 0 [] l).map SX.S).map V.str)) = H1 at e1 h1 ⊢
    refine g_name ?_
    dsimp only
    have sq1 : SqL K H1 p (((TL.spl [112] 0 [] l).map SX.S).map V.str) := sq_of h1
    have lenP : ∀ {H' : Hp}, Ex H1 H' → LenV K (.ref p) H' (TL.spl [112] 0 [] l).length := fun x => .inl ⟨_, ex_l x sq1, by rw [List.length_map, List.length_map]⟩
    have none_of : rnO l = none → ∀ H', Ex H1 H' → Q .non H' := fun z H' x => q .non H' (e1.trans x) (by rw [z]; rfl)
    -- the two parts, or none
    have cases2 : ((TL.spl [112] 0 [] l).length ≠ 2 ∧ rnO l = none) ∨ ∃ b c, TL.spl [112] 0 [] l = [b, c] ∧ cutS 112 l = (b, true, c) ∧ b.length + c.length ≤ l.length := by
      rcases cut_cases 112 l with h | ⟨b, c, rfl, h⟩
      · refine .inl ⟨by rw [spl_no h]; simp, ?_⟩
        unfold rnO
        rw [cut_no h]
        dsimp only
        rw [whole_nil]
        cases wholeO l <;> rfl
      · by_cases hc : 112 ∈ c
        · refine .inl ⟨by rw [spl_yes h, List.length_cons]; have := spl_two hc; omega, ?_⟩
          unfold rnO
          rw [cut_yes h]
          dsimp only
          rw [whole_no (by decide) hc]
          cases wholeO b <;> rfl
        · refine .inr ⟨b, c, ?_, cut_yes h, ?_⟩
          · rw [spl_yes h, spl_no hc]
          · rw [List.length_append, List.length_cons]
            omega
    rcases cases2 with ⟨n2, zn⟩ | ⟨b, c, es, ec, lbc⟩
    · refine ⟨.ref p, rfl, _, (TL.spl [112] 0 [] l).length, rfl, lenP (Ex.refl H1), rfl, _, rfl, ?_⟩
      rw [decide_eq_false (fun y => n2 (by have := V.int.inj y; omega))]
      exact iteT (iteT (none_of zn H1 (Ex.refl H1)))
    rw [es] at h1 sq1 lenP
    have rO : rnO l = match wholeO b, wholeO c with
      | some m, some e => if isNumB m e = true then some (m, e) else none
      | _, _ => none := by
      unfold rnO
      rw [ec]
      all_goals rfl
    refine ⟨.ref p, rfl, _, 2, rfl, lenP (Ex.refl H1), rfl, _, rfl, iteF ?_⟩
    have ei : inV (V.str "-0") [V.str (SX.S b), V.str (SX.S c)] = (decide (b = [45, 48]) || decide (c = [45, 48])) := by
      show ((SX.S b == SX.S [45, 48]) || ((SX.S c == SX.S [45, 48]) || false)) = _
      rw [SX.S_beq_eq, SX.S_beq_eq, Bool.or_false]
    have lb : ∀ {x : List Nat}, x.length ≤ 600 → (SX.S x).length ≤ sizeLine := fun h => by rw [SX.S_len, sizeLine_eq]; omega
    refine ⟨.ref p, rfl, p, [.str (SX.S b), .str (SX.S c)], rfl, .inl sq1, rfl, rfl, inV (V.str "-0") [V.str (SX.S b), V.str (SX.S c)], rfl, ?_⟩
    rw [ei]
    by_cases hz : b = [45, 48] ∨ c = [45, 48]
    · have zn : rnO l = none := by
        rw [rO]
        rcases hz with hz | hz
        · rw [hz]
          rfl
        · rw [hz]
          cases wholeO b <;> rfl
      have et : (decide (b = [45, 48]) || decide (c = [45, 48])) = true := by
        rcases hz with hz | hz
        · rw [decide_eq_true hz]
          rfl
        · rw [decide_eq_true hz, Bool.or_true]
      rw [et]
      exact iteT (none_of zn H1 (Ex.refl H1))
    have hzb : b ≠ [45, 48] := fun z => hz (.inl z)
    have hzc : c ≠ [45, 48] := fun z => hz (.inr z)
    rw [decide_eq_false hzb, decide_eq_false hzc]
    refine iteF ?_
    refine ⟨.ref p, rfl, p, rfl, ⟨_, sq1⟩, for_list (xs := [.str (SX.S b), .str (SX.S c)]) (fun i σ' H' => Ex H1 H' ∧ (1 ≤ i → sizB (strM b) = true) ∧ (2 ≤ i → sizB (strM c) = true) ∧ ∃ t, σ' = [some (.str (SX.S l)), some (.ref p), t, none]) ⟨Ex.refl H1, (fun z => absurd z (by decide)), (fun z => absurd z (by decide)), none, rfl⟩ (fun i σ' H' _ hk => ex_l hk.1 sq1) (fun i x σ' H2 hx hk => ?_) (fun σ' H2 hk => ?_)⟩
    · obtain ⟨x2, k1, k2, t, rfl⟩ := hk
      have hy : ∃ y : List Nat, x = .str (SX.S y) ∧ y.length ≤ 600 ∧ ((i = 0 ∧ y = b) ∨ (i = 1 ∧ y = c)) := by
        match i, hx with
        | 0, hx => exact ⟨b, (Option.some.inj hx).symm, by omega, .inl ⟨rfl, rfl⟩⟩
        | 1, hx => exact ⟨c, (Option.some.inj hx).symm, by omega, .inr ⟨rfl, rfl⟩⟩
        | i + 2, hx => simp at hx
      obtain ⟨y, rfl, ly, hy⟩ := hy
      refine g_name ?_
      refine ⟨.str (SX.S y), rfl, .str (SX.S y), rfl, 1, rfl, SX.S y, rfl, lb ly, rfl, .inr ⟨_, rfl, _, rfl, SX.S y, rfl, lb ly, ?_⟩⟩
      rw [head_slice, strip_slice]
      have sl := strM_len y
      refine ⟨strM y, rfl, by omega, fun H3 x3 => ⟨sizB (strM y), rfl, ?_⟩⟩
      cases hs : sizB (strM y) with
      | false =>
        refine iteT (none_of ?_ H3 (x2.trans x3))
        have wn : wholeO y = none := by
          unfold wholeO
          rw [if_neg (fun z => by rw [hs] at z; cases z.1)]
        rw [rO]
        rcases hy with ⟨_, rfl⟩ | ⟨_, rfl⟩
        · rw [wn]
        · rw [wn]
          cases wholeO b <;> rfl
      | true =>
        refine iteF ⟨x2.trans x3, fun _ => ?_, fun _ => ?_, _, rfl⟩
        · rcases hy with ⟨_, rfl⟩ | ⟨h, _⟩
          · exact hs
          · exact k1 (by omega)
        · rcases hy with ⟨h, _⟩ | ⟨_, rfl⟩
          · omega
          · exact hs
    · obtain ⟨x2, k1, k2, t, rfl⟩ := hk
      have wb : wholeO b = some (sgI (sgnB b) (val (strM b))) := by
        unfold wholeO
        rw [if_pos ⟨k1 (by show 1 ≤ 2; decide), hzb⟩]
      have wc : wholeO c = some (sgI (sgnB c) (val (strM c))) := by
        unfold wholeO
        rw [if_pos ⟨k2 (by show 2 ≤ 2; decide), hzc⟩]
      generalize sgI (sgnB b) (val (strM b)) = m at wb
      generalize sgI (sgnB c) (val (strM c)) = e at wc
      have sq2 := ex_l x2 sq1
      refine ⟨.ref p, rfl, p, [.str (SX.S b), .str (SX.S c)], 0, .str (SX.S b), rfl, rfl, sq2, rfl, SX.S b, m, rfl, int_whole wb (by omega), by rw [SX.S_len]; omega, ?_⟩
      refine ⟨.ref p, rfl, p, [.str (SX.S b), .str (SX.S c)], 1, .str (SX.S c), rfl, rfl, sq2, rfl, SX.S c, e, rfl, int_whole wc (by omega), by rw [SX.S_len]; omega, by show 2 ≤ sizeLine; decide, fun r hr1 => ?_⟩
      have x3 := Ex.new (o := .tup [.int m, .int e]) hr1
      have h3 : (upd H2 r (.tup [.int m, .int e])) r = some (.tup [.int m, .int e]) := upd_same
      generalize upd H2 r (.tup [.int m, .int e]) = H3 at x3 h3 ⊢
      refine g_name ?_
      dsimp only
      rw [wb, wc] at rO
      dsimp only at rO
      have g : NumAt K H3 (.ref r) (m, e) := numAt_of h3
      refine ⟨.ref r, rfl, by show 2 ≤ sizeLine; decide, fun r0 hr0 => ?_⟩
      have x4 := Ex.new (o := .tup [.int 0, .int 0]) hr0
      have g4 := numAt_ex x4 g
      have x14 := (x2.trans x3).trans x4
      have g0 : NumAt K (upd H3 r0 (.tup [.int 0, .int 0])) (.ref r0) (0, 0) := numAt_of upd_same
      generalize upd H3 r0 (.tup [.int 0, .int 0]) = H4 at x4 g4 x14 g0 ⊢
      refine ⟨_, _, numAt_dp g4, numAt_dp g0, pair_shaped _ _, pair_shaped _ _, _, rfl, ?_⟩
      rw [eqv_pairs]
      have done : rnO l = some (m, e) → Q (.ref r) H4 := fun z => q (.ref r) H4 (e1.trans x14) (by rw [z]; exact g4)
      by_cases h0 : m = 0 ∧ e = 0
      · obtain ⟨rfl, rfl⟩ := h0
        refine iteF (iteF ?_)
        rw [if_pos (by decide)] at rO
        exact ⟨.ref r, rfl, done rO⟩
      · have ef : (!(decide (m = 0) && decide (e = 0))) = true := by
          rw [← Bool.decide_and, decide_eq_false h0]
          rfl
        rw [ef]
        refine iteT ?_
        obtain ⟨r2, er, tr⟩ := g4
        cases er
        refine ⟨.ref r, rfl, r, [.int m, .int e], 0, .int m, rfl, rfl, tr, rfl, m, 2, rfl, rfl, by show (0 : Int) < 2; decide, rfl, _, rfl, ite2 (fun z => ?_) (fun z => ?_)⟩
        · have z : m % 2 = 0 := V.int.inj (of_decide_eq_true z)
          refine none_of ?_ H4 x14
          rw [rO, if_neg]
          intro y
          unfold isNumB at y
          rcases Bool.or_eq_true_iff.mp y with y | y
          · have := of_decide_eq_true y
            omega
          · obtain ⟨y1, y2⟩ := Bool.and_eq_true_iff.mp y
            exact h0 ⟨of_decide_eq_true y1, of_decide_eq_true y2⟩
        · have z : ¬ m % 2 = 0 := fun y => z (decide_eq_true (congrArg V.int y))
          rw [if_pos (by unfold isNumB; rw [decide_eq_true (show m % 2 = 1 by omega)]; rfl)] at rO
          exact ⟨.ref r, rfl, done rO⟩
theorem strM_ne (l : List Nat) : decide (strM l = l) = !sgnB l := by
  unfold strM sgnB
  by_cases h : l.head? = some 45
  · rw [if_pos h, decide_eq_true h]
    refine decide_eq_false fun z => ?_
    have := congrArg List.length z
    cases l with
    | nil => cases h
    | cons c r =>
      rw [List.tail_cons, List.length_cons] at this
      omega
  · rw [if_neg h, decide_eq_true rfl, decide_eq_false h]
    rfl
theorem ok_law_due_decimal {f f1 f2 f3 : Addr} {fd fd1 fd2 fd3 : FuncData} (T : Top mg) (F : FnP K "_law_due_decimal" s_law_due_decimal f fd) (c_law_figures : Cal P w K mg base CX0 1 "_law_figures" ["_law_wording"] spLf f1 fd1) (c_law_fives : Cal P w K mg base CX0 1 "_law_fives" ["_law_k"] spFv f2 fd2) (c_law_odd : Cal P w K mg base CX0 1 "_law_odd" ["_law_m", "_law_e"] spNof f3 fd3) : FnOk P w K mg base CX0 2 f fd ["_law_wording"] (spDue K rdO) := by
  have sc := sc_law_due_decimal
  refine ok0 F sc (fun vs H Q E h => ?_) (fun cdv A outer s H vs Q E hr h => ?_)
  · obtain ⟨l, rfl, _⟩ := h
    rfl
  · obtain ⟨l, rfl, hl, q⟩ := h
    refine ⟨_, (pss_cons (ps_set (i := 1) sc.nd rfl (by first | exact .inl rfl | exact .inr rfl) (pe_slice C8.sl_txt (pv 0) (po_some (pe_callTy call_int1 (by rfl) T.ty_int (by decide +kernel) (pa_cons (pe_cmpR op_eq (pe_slice C8.sl_txt (pv 0) po_none (po_some pe_int)) pe_str (nomark _)) pa_nil))) po_none))
    (pss_cons (ps_set (i := 2) sc.nd rfl (by first | exact .inl rfl | exact .inr rfl) (pe_split (pv 1) pe_str))
    (pss_cons (ps_if (PW.pt (pw_or (pt_cmpR op_gt (pe_callB call_len (by rfl) T.len (by decide +kernel) (pa_cons (pv 0) pa_nil)) pe_int (nomark _)) (pw_or (pt_cmpR op_gt (pe_callB call_len (by rfl) T.len (by decide +kernel) (pa_cons (pv 2) pa_nil)) pe_int (nomark _)) (pw_or1 (pt_not (pt_val (pe_call c_law_figures.ok (hr.mono (by decide)) (by rfl) c_law_figures.m c_law_figures.kp c_law_figures.b .nil pass0 (pa_cons (pe_ix ix_list (pv 2) pe_int (fun _ _ => rfl)) pa_nil))))))))
      (pss_one (ps_ret pe_non)) pss_nil)
    (pss_cons (ps_set (i := 3) sc.nd rfl (by first | exact .inl rfl | exact .inr rfl) (pe_ix ix_list (pe_op op_cat (pv 2) (pe_lst (pa_cons pe_str pa_nil))) pe_int (fun _ _ => rfl)))
    (pss_cut (ps_if (PW.pt (pw_or (PW.pt (pw_and (pt_cmpR op_eq (pe_callB call_len (by rfl) T.len (by decide +kernel) (pa_cons (pv 2) pa_nil)) pe_int (nomark _)) (pw_and1 (pt_cmpR op_eq (pv 3) pe_str (nomark _))))) (pw_or1 (pt_not (pt_val (pe_callB (cr_all rfl) (by rfl) T.all (by decide +kernel) (pa_cons (pe_lc (own := [("_law_sign", 4)]) (g := gName 4) (tt := tYes) (by rfl) sc.nd (pi_str (pv 3)) (blkOk_by (own := [("_law_sign", 4)]) (N := ["_law_wording", "_law_bare", "_law_parts", "_law_behind", "_law_sign", "_law_whole", "_law_fives_here"]) (sc := defScope s_law_due_decimal) (by decide +kernel)) (fun _ _ _ _ _ => pg_name (i := 4) sc.nd rfl (Or.inl rfl)) (fun _ _ _ _ _ => pts_nil) (fun _ _ _ _ _ => (pe_cmpR op_in_sign (pv 4) pe_str (by with_unfolding_all rfl)))) pa_nil)))))))
      (pss_one (ps_ret pe_non)) pss_nil)
    (pss_cons (ps_set (i := 5) sc.nd rfl (by first | exact .inl rfl | exact .inr rfl) (pe_callTy call_int_str (by rfl) T.ty_int (by decide +kernel) (pa_cons (pe_op op_add_str (pe_ix ix_list (pv 2) pe_int (fun _ _ => rfl)) (pv 3)) pa_nil)))
    (pss_cons (ps_set (i := 6) sc.nd rfl (by first | exact .inl rfl | exact .inr rfl) (pe_call c_law_fives.ok (hr.mono (by decide)) (by rfl) c_law_fives.m c_law_fives.kp c_law_fives.b .nil pass0 (pa_cons (pe_callB call_len (by rfl) T.len (by decide +kernel) (pa_cons (pv 3) pa_nil)) pa_nil)))
    (pss_cons (ps_if (PW.pt (pw_or (pt_cmpR op_ne (pe_op op_mod (pv 5) (pv 6)) pe_int (nomark _)) (pw_or1 (PW.pt (pw_and (pt_cmpR op_eq (pv 5) pe_int (nomark _)) (pw_and1 (pt_cmpR op_ne (pv 1) (pv 0) (nomark _))))))))
      (pss_one (ps_ret pe_non)) pss_nil)
    (pss_one (ps_ret (pe_call c_law_odd.ok (hr.mono (by decide)) (by rfl) c_law_odd.m c_law_odd.kp c_law_odd.b .nil pass0 (pa_cons (pe_op op_mulX (pe_op op_fdivW (pv 5) (pv 6)) (pe_op op_sub pe_int (pe_op op_mulX pe_int (pe_callTy call_int1 (by rfl) T.ty_int (by decide +kernel) (pa_cons (pe_cmpR op_ne (pv 1) (pv 0) (nomark _)) pa_nil))))) (pa_cons (pe_op op_sub pe_int (pe_callB call_len (by rfl) T.len (by decide +kernel) (pa_cons (pv 3) pa_nil))) pa_nil))))))))))))), ?_⟩
    have lb : ∀ {x : List Nat}, x.length ≤ 600 → (SX.S x).length ≤ sizeLine := fun h => by rw [SX.S_len, sizeLine_eq]; omega
    have sl := strM_len l
    refine ⟨.str (SX.S l), rfl, .str (SX.S l), rfl, 1, rfl, SX.S l, rfl, lb hl, rfl, .inr ⟨_, rfl, _, rfl, SX.S l, rfl, lb hl, ?_⟩⟩
    rw [head_slice, strip_slice]
    refine g_name ?_
    dsimp only
    refine ⟨.str (SX.S (strM l)), rfl, ⟨_, rfl⟩, SX.S (strM l), SX.S [46], rfl, rfl, rfl, by rw [SX.S_len, sizeLine_eq]; omega, fun p hp => ?_⟩
    rw [SX.split_S (List.cons_ne_nil _ _) (by decide)]
    have e1 := Ex.new (o := .lst (((TL.spl [46] 0 [] (strM l)).map SX.S).map V.str)) hp
    have h1 : (upd H p (.lst (((TL.spl [46] 0 [] (strM l)).map SX.S).map V.str))) p = some (.lst (((TL.spl [46] 0 [] (strM l)).map SX.S).map V.str)) := upd_same
    generalize upd H p (.lst (((TL.spl [46] 0 [] (strM l)).map SX.S).map V.str)) = H1 at e1 h1 ⊢
    refine g_name ?_
    dsimp only
    have none_of : rdO l = none → ∀ H', Ex H1 H' → Q .non H' := fun z H' x => q .non H' (e1.trans x) (by rw [z]; rfl)
    have lenL : ∀ {H' : Hp}, LenV K (.str (SX.S l)) H' l.length := fun {H'} => ⟨lb hl, (SX.S_len l).symm⟩
    refine ⟨.str (SX.S l), rfl, _, l.length, rfl, lenL, _, 300, rfl, rfl, _, rfl, ?_⟩
    by_cases h300 : 300 < l.length
    · rw [decide_eq_true (show (l.length : Int) > 300 by omega)]
      refine iteT (iteT (none_of ?_ H1 (Ex.refl H1)))
      unfold rdO
      rw [if_pos (.inl h300)]
    rw [decide_eq_false (show ¬ (l.length : Int) > 300 by omega)]
    refine iteF ?_
    have sq0 : SqL K H1 p (((TL.spl [46] 0 [] (strM l)).map SX.S).map V.str) := sq_of h1
    have cases2 : (2 < (TL.spl [46] 0 [] (strM l)).length ∧ rdO l = none) ∨ ∃ b dot c, TL.spl [46] 0 [] (strM l) = b :: (if dot = true then [c] else []) ∧ cutS 46 (strM l) = (b, dot, c) ∧ b.length + c.length ≤ l.length ∧ (dot = false → c = []) := by
      rcases cut_cases 46 (strM l) with h | ⟨b, c, ebc, h⟩
      · exact .inr ⟨strM l, false, [], spl_no h, cut_no h, sl, fun _ => rfl⟩
      · by_cases hc : 46 ∈ c
        · refine .inl ⟨by rw [ebc, spl_yes h, List.length_cons]; have := spl_two hc; omega, ?_⟩
          unfold rdO
          rw [ebc, cut_yes h]
          exact if_pos (.inr (.inr ⟨rfl, fig_no (by decide) hc⟩))
        · refine .inr ⟨b, true, c, by rw [ebc, spl_yes h, spl_no hc]; rfl, by rw [ebc]; exact cut_yes h, ?_, fun z => by cases z⟩
          rw [ebc, List.length_append, List.length_cons] at sl
          omega
    rcases cases2 with ⟨n2, zn⟩ | ⟨b, dot, c, es, ec, lbc, hcd⟩
    · refine ⟨.ref p, rfl, _, (TL.spl [46] 0 [] (strM l)).length, rfl, .inl ⟨_, sq0, by rw [List.length_map, List.length_map]⟩, _, 2, rfl, rfl, _, rfl, ?_⟩
      rw [decide_eq_true (show ((TL.spl [46] 0 [] (strM l)).length : Int) > 2 by omega)]
      exact iteT (iteT (none_of zn H1 (Ex.refl H1)))
    have rO : ∀ h : sizB b = true ∧ (dot = true → figB c = true), rdO l = finO (sgnB l) (val (b ++ c)) c.length := fun h => by
      unfold rdO
      rw [ec]
      exact if_neg fun z => by
        rcases z with z | z | z
        · exact h300 z
        · have z : sizB b = false := z
          rw [h.1] at z
          cases z
        · have z : dot = true ∧ figB c = false := z
          rw [h.2 z.1] at z
          cases z.2
    have rN : (sizB b = false ∨ (dot = true ∧ figB c = false)) → rdO l = none := fun h => by
      unfold rdO
      rw [ec]
      exact if_pos (.inr h)
    have ev : (((TL.spl [46] 0 [] (strM l)).map SX.S).map V.str) = V.str (SX.S b) :: (if dot = true then [V.str (SX.S c)] else []) := by
      rw [es]
      cases dot <;> rfl
    rw [ev] at h1 sq0
    have nl : (V.str (SX.S b) :: (if dot = true then [V.str (SX.S c)] else [])).length = (if dot = true then 2 else 1) := by cases dot <;> rfl
    refine ⟨.ref p, rfl, _, (if dot = true then 2 else 1), rfl, .inl ⟨_, sq0, nl.symm⟩, _, 2, rfl, rfl, _, rfl, ?_⟩
    rw [show decide ((((if dot = true then 2 else 1 : Nat)) : Int) > 2) = false by cases dot <;> decide]
    refine iteF ⟨.ref p, rfl, p, _, 0, .str (SX.S b), rfl, rfl, sq0, (show atI _ ((0 : Nat) : Int) = _ from atI_nat rfl), b, rfl, by omega, fun H2 x2 => ⟨sizB b, rfl, ?_⟩⟩
    cases hB : sizB b with
    | false => exact iteT (none_of (rN (.inl hB)) H2 x2)
    | true =>
      refine iteF ?_
      have h2 := x2 _ _ h1
      refine ⟨.ref p, rfl, by show 1 ≤ sizeLine; decide, fun p3 hp3 => ?_⟩
      have x3 := Ex.new (o := .lst [.str (SX.S [])]) hp3
      have h3 : (upd H2 p3 (.lst [.str (SX.S [])])) p3 = some (.lst [.str (SX.S [])]) := upd_same
      have h23 := x3 _ _ h2
      refine ⟨p, p3, _, _, rfl, rfl, h23, h3, sz_of (by rw [nl]; cases dot <;> decide), fun p4 hp4 => ?_⟩
      have x4 := Ex.new (o := .lst ((V.str (SX.S b) :: (if dot = true then [V.str (SX.S c)] else [])) ++ [.str (SX.S [])])) hp4
      have h4 : (upd (upd H2 p3 (.lst [.str (SX.S [])])) p4 (.lst ((V.str (SX.S b) :: (if dot = true then [V.str (SX.S c)] else [])) ++ [.str (SX.S [])]))) p4 = some (.lst ((V.str (SX.S b) :: (if dot = true then [V.str (SX.S c)] else [])) ++ [.str (SX.S [])])) := upd_same
      refine ⟨p4, _, 1, .str (SX.S c), rfl, rfl, sq_of h4, (show atI _ ((1 : Nat) : Int) = _ from atI_nat (by
        cases dot with
        | true => rfl
        | false =>
          rw [hcd rfl]
          rfl)), ?_⟩
      have x24 := (x2.trans x3).trans x4
      generalize upd (upd H2 p3 (.lst [.str (SX.S [])])) p4 (.lst ((V.str (SX.S b) :: (if dot = true then [V.str (SX.S c)] else [])) ++ [.str (SX.S [])])) = H4 at x24 ⊢
      refine g_name ?_
      have sq4 := ex_l x24 sq0
      refine q_cut (M := fun σ' H' => Ex H1 H' ∧ (dot = true → figB c = true) ∧ σ' = [some (.str (SX.S l)), some (.str (SX.S (strM l))), some (.ref p), some (.str (SX.S c)), none, none, none]) ?_ ?_
      · have ec0 : decide (V.str (SX.S c) = V.str "") = decide (c = []) := S_eq c []
        refine s_when (et_or (b := !(c.all isF)) (a := decide (dot = true ∧ c = [])) (et_is (et_and (a := decide (dot = true)) (b := decide (c = [])) (fun H' e' B' q' => ⟨.ref p, rfl, _, (if dot = true then 2 else 1), rfl, .inl ⟨_, ex_l e' sq4, nl.symm⟩, rfl, _, rfl, ?_⟩) (fun _ => et_is (et_test (ev_op (ev_var (i := 3) rfl) ev_c (rv_eq rfl))) ec0)) (by rw [Bool.decide_and])) (fun _ => et_not (et_B (ev_allT (l := c) (ev_var (i := 3) rfl) (by omega) (fun x => rfl) (fun x => rfl))))) (fun z H5 x5 => ?_) (fun z H5 x5 => ?_)
        · rw [show decide (V.int (((if dot = true then 2 else 1 : Nat)) : Int) = V.int 2) = decide (dot = true) by cases dot <;> rfl]
          exact q' H' (Ex.refl H')
        · refine none_of (rN (.inr ?_)) H5 (x24.trans x5)
          rcases Bool.or_eq_true_iff.mp z with z | z
          · obtain ⟨z1, z2⟩ := of_decide_eq_true z
            rw [z2]
            exact ⟨z1, rfl⟩
          · have ha : c.all isF = false := by
              cases ha : c.all isF with
              | false => rfl
              | true =>
                rw [ha] at z
                cases z
            have hf : figB c = false := by
              unfold figB
              rw [ha, Bool.and_false]
            refine ⟨?_, hf⟩
            cases dot with
            | true => rfl
            | false =>
              rw [hcd rfl] at ha
              cases ha
        · obtain ⟨z1, z2⟩ := Bool.or_eq_false_iff.mp z
          refine ⟨x24.trans x5, fun hd => ?_, rfl⟩
          have z1 := of_decide_eq_false z1
          refine figB_iff.mpr ⟨fun y => z1 ⟨hd, y⟩, all_fig.mp ?_⟩
          cases ha : c.all isF with
          | true => rfl
          | false =>
            rw [ha] at z2
            cases z2
      rintro σ' H5 ⟨x5, hC, rfl⟩
      have rO := rO ⟨hB, hC⟩
      have fC : Fig c := by
        cases dot with
        | true => exact (figB_iff.mp (hC rfl)).2
        | false =>
          rw [hcd rfl]
          exact fun c hc => by cases hc
      have fBC : Fig (b ++ c) := fun x hx => by
        rcases List.mem_append.mp hx with h | h
        · exact (sizB_fig hB).2 x h
        · exact fC x h
      have nBC : b ++ c ≠ [] := fun z => (sizB_fig hB).1 (List.append_eq_nil_iff.mp z).1
      have lBC : (b ++ c).length ≤ 300 := by rw [List.length_append]; omega
      have i1 : PySem.intText? (SX.S b ++ SX.S c) = some ((val (b ++ c) : Nat) : Int) := by
        rw [SX.S_cat]
        exact PySem.intText_digits (x := SX.S (b ++ c)) fBC nBC (by rw [SX.S_len]; omega)
      refine ⟨.ref p, rfl, p, _, 0, .str (SX.S b), rfl, rfl, ex_l x5 sq0, (show atI _ ((0 : Nat) : Int) = _ from atI_nat rfl), .str (SX.S c), rfl, _, _, rfl, rfl, cat_ok (by omega), _, _, rfl, i1, by rw [SX.S_cat, SX.S_len]; omega, ?_⟩
      refine g_name ?_
      dsimp only
      have lenC : ∀ {H' : Hp}, LenV K (.str (SX.S c)) H' c.length := fun {H'} => ⟨by rw [SX.S_len, sizeLine_eq]; omega, (SX.S_len c).symm⟩
      refine ⟨.str (SX.S c), rfl, _, c.length, rfl, lenC, c.length, rfl, by omega, ?_⟩
      refine g_name ?_
      dsimp only
      have vb := val_bd fBC
      generalize val (b ++ c) = M at *
      have p5 : (0 : Int) < 5 ^ c.length := Int.pow_pos (by decide)
      have c5 : (5 : Int) ^ c.length = ((5 ^ c.length : Nat) : Int) := (Int.natCast_pow 5 c.length).symm
      have cd : ∀ i : Int, CDivW i (5 ^ c.length) := fun i => ⟨p5, PySem.Flt.log2_lt_of (by decide) (Nat.lt_of_le_of_lt (pw_le (x := 5) (a := 3) (by decide) c.length) (Nat.pow_lt_pow_right (by decide) (by omega)))⟩
      have md : (M : Int) % 5 ^ c.length = ((M % 5 ^ c.length : Nat) : Int) := by
        rw [c5]
        exact (Int.natCast_emod M (5 ^ c.length)).symm
      have dd : (M : Int) / 5 ^ c.length = ((M / 5 ^ c.length : Nat) : Int) := by
        rw [c5]
        exact (Int.natCast_ediv M (5 ^ c.length)).symm
      have e0 : decide (V.int ((M : Int) % 5 ^ c.length) = V.int 0) = decide (M % 5 ^ c.length = 0) := by
        rw [md]
        by_cases h : M % 5 ^ c.length = 0
        · rw [h]
          rfl
        · rw [decide_eq_false h]
          exact decide_eq_false fun y => h (by have := V.int.inj y; omega)
      have em : decide (V.int (M : Int) = V.int 0) = decide (M = 0) := by
        by_cases h : M = 0
        · rw [h]
          rfl
        · rw [decide_eq_false h]
          exact decide_eq_false fun y => h (by have := V.int.inj y; omega)
      have es2 : decide (V.str (SX.S (strM l)) = V.str (SX.S l)) = !sgnB l := by rw [S_eq, strM_ne]
      unfold finO at rO
      refine q_when (et_or (et_is (et_test (ev_op (ev_op (ev_var (i := 5) rfl) (ev_var (i := 6) rfl) (rv_I p5)) ev_c (rv_ne rfl))) (congrArg (fun y => !y) e0)) (fun _ => et_and (et_is (et_test (ev_op (ev_var (i := 5) rfl) ev_c (rv_eq rfl))) em) (fun _ => et_is (b := sgnB l) (et_test (ev_op (ev_var (i := 1) rfl) (ev_var (i := 0) rfl) (rv_ne rfl))) (by rw [es2, Bool.not_not])))) (fun z H6 x6 => ?_) (fun z H6 x6 => ?_)
      · refine none_of ?_ H6 (x5.trans x6)
        rw [rO, if_pos]
        rcases Bool.or_eq_true_iff.mp z with z | z
        · exact .inl fun y => by
            rw [decide_eq_true y] at z
            cases z
        · obtain ⟨z1, z2⟩ := Bool.and_eq_true_iff.mp z
          exact .inr ⟨z2, of_decide_eq_true z1⟩
      · obtain ⟨z1, z2⟩ := Bool.or_eq_false_iff.mp z
        have hm : M % 5 ^ c.length = 0 := by
          cases y : decide (M % 5 ^ c.length = 0) with
          | true => exact of_decide_eq_true y
          | false =>
            rw [y] at z1
            cases z1
        rw [if_neg (fun y => by
          rcases y with y | ⟨y1, y2⟩
          · exact y hm
          · rw [decide_eq_true y2, y1] at z2
            cases z2)] at rO
        have jb : ((M / 5 ^ c.length : Nat) : Int).natAbs ≤ 2 ^ 2000 := by
          rw [Int.natAbs_natCast]
          refine Nat.le_trans (Nat.div_le_self _ _) (Nat.le_of_lt (Nat.lt_of_lt_of_le vb (Nat.le_trans (Nat.pow_le_pow_right (by decide) lBC) ?_)))
          exact Nat.le_trans (Nat.pow_le_pow_left (by decide : 10 ≤ 2 ^ 4) 300) (by rw [← Nat.pow_mul]; exact Nat.pow_le_pow_right (by decide) (by decide))
        rw [← dd] at jb
        refine ⟨_, rfl, _, rfl, _, _, rfl, rfl, cd _, .str (SX.S (strM l)), rfl, .str (SX.S l), rfl, rfl, .inr ⟨_, rfl, ?_⟩⟩
        rw [es2, Bool.not_not]
        have em2 : (M : Int) / 5 ^ c.length * (1 - 2 * (if sgnB l = true then (1 : Int) else 0)) = sgI (sgnB l) (M / 5 ^ c.length) := by
          rw [dd]
          unfold sgI
          cases sgnB l with
          | true =>
            rw [if_pos rfl, if_pos rfl]
            omega
          | false =>
            rw [if_neg (by decide), if_neg (by decide)]
            omega
        refine ⟨_, _, rfl, rfl, ml (a := 2) (b := 1) (by decide) (by split <;> decide) (by decide), _, _, rfl, rfl, _, _, rfl, rfl, ml (b := 1) jb (by split <;> decide) (by decide), ?_⟩
        refine ⟨.str (SX.S c), rfl, _, c.length, rfl, lenC, _, _, rfl, rfl, _, _, rfl, fun H7 r e7 _ h7 => ?_⟩
        rw [em2, show (0 : Int) - (c.length : Int) = -(c.length : Int) by omega] at h7
        exact q (.ref r) H7 (e1.trans ((x5.trans x6).trans e7)) (by rw [rO]; exact numAt_of h7)
theorem kind_mono {ws : List Str} {bs : List Bool} {H H' : Hp} {v : V} (e : Ex H H') (h : KindAt H v ws bs) : KindAt H' v ws bs := by
  obtain ⟨L, L1, L2, rfl, h1, h2, h3⟩ := h
  exact ⟨L, L1, L2, rfl, e _ _ h1, e _ _ h2, e _ _ h3⟩
def AskAt (K : PySem.W.Frag) (H : Hp) (y : V) (o : Option (Int × Int)) : Prop := ∃ L x g, y = .ref L ∧ H L = some (.lst [x, g]) ∧ OptAt K H x o ∧ (o.isSome = true → ∃ G, g = .ref G ∧ H G = some (.lst [])) ∧ (o = none → KindAt H g ["text"] [true, false, false, false, false])
def spAsk (K : PySem.W.Frag) : Sp := fun vs H Q _ => ∃ (k : Int) (v : V) (o : Option (Int × Int)), vs = [.int k, v] ∧ ((o = none ∧ NoTx K H v) ∨ ∃ l : List Nat, v = .str (SX.S l) ∧ l.length ≤ 1000 ∧ o = (if k = 0 then rnO l else rdO l)) ∧ ∀ y H', Ex H H' → AskAt K H' y o → Q y H'
theorem ok_law_asked {f f0 f1 fk N : Addr} {fd fd0 fd1 : FuncData} {Cs : List Addr} (T : Top mg) (mN : mg "NoText" = some (.ref N)) (XN : PySem.W.exmAny K (.ref N) [.ref N] = some true) (KN : KindsOf K N Cs [false, false, false, false, true, false, false, false, false] true false false false false false false) (F : FnP K "_law_asked" s_law_asked f fd)
    (x_read_number : Cal P w K mg base (L2N.CX P w) 4 "read_number" ["text"] (spRdG K N rnO) f0 fd0) (x_read_decimal : Cal P w K mg base (L2N.CX P w) 4 "read_decimal" ["text"] (spRdG K N rdO) f1 fd1)
    (c_kinds : FnE P w K mg base CX0 1 fk (spKinds K Cs)) (m_kinds : mg "_law_kinds" = some (.ref fk)) (kp_kinds : PySem.W.keepIn K (.ref fk) = true) : FnOk P w K mg base CX0 5 f fd ["_law_which", "_law_wording"] (spAsk K) := by
  have sc := sc_law_asked
  refine ok0 F sc (fun vs H Q E h => ?_) (fun cdv A outer s H vs Q E hr h => ?_)
  · obtain ⟨k, v, o, rfl, _⟩ := h
    rfl
  · obtain ⟨k, v, o, rfl, hd, q⟩ := h
    refine ⟨_, (pss_cons (ps_set (i := 2) sc.nd rfl (.inl rfl) pe_non) (pss_cons (ps_set (i := 3) sc.nd rfl (.inl rfl) (pe_lst pa_nil)) (pss_cons (ps_try_gen rfl rfl takes0N
      (fun W pn xe tk _ => (pss_one (ps_if (pt_cmpR op_eq (pv 0) pe_int (nomark _)) (pss_one (ps_set (i := 2) sc.nd rfl (.inl rfl) (pe_callS x_read_number.ok (hr.mono (by decide)) (by rfl) x_read_number.m x_read_number.kp x_read_number.b (L2N.passAt tk) (pa_cons (pv 1) pa_nil)))) (pss_one (ps_set (i := 2) sc.nd rfl (.inl rfl) (pe_callS x_read_decimal.ok (hr.mono (by decide)) (by rfl) x_read_decimal.m x_read_decimal.kp x_read_decimal.b (L2N.passAt tk) (pa_cons (pv 1) pa_nil)))))))
      (.as (i := 4) sc.nd rfl rfl (tst_one ⟨by rfl, by decide, .inl mN⟩) (fun a oe cls d pn hz hf => pss_one (ps_set (i := 3) sc.nd rfl (.inl rfl) (pe_callES (E := E0) c_kinds ⟨(hr.mono (j := 1) (by decide)).dp, (hr.mono (j := 1) (by decide)).un⟩ (hot_suite hz hf) List.mem_cons_self hz (by rfl) m_kinds kp_kinds pass0 (pa_cons (pv 4) pa_nil)))) .nil)) (pss_one (ps_ret (pe_lst (pa_cons (pv 2) (pa_cons (pv 3) pa_nil)))))))), ?_⟩
    refine ⟨by show 0 ≤ sizeLine; decide, fun r hr1 => ?_⟩
    have e1 := Ex.new (o := .lst []) hr1
    have hr0 : (upd H r (.lst [])) r = some (.lst []) := upd_same
    have hd : (o = none ∧ NoTx K (upd H r (.lst [])) v) ∨ ∃ l : List Nat, v = .str (SX.S l) ∧ l.length ≤ 1000 ∧ o = (if k = 0 then rnO l else rdO l) := hd.elim (fun h => .inl ⟨h.1, noTx_ex e1 h.2⟩) .inr
    generalize upd H r (.lst []) = H1 at e1 hr0 hd ⊢
    have fin0 : ∀ {H' : Hp} {y : V}, Ex H1 H' → KindAt H' y ["text"] [true, false, false, false, false] → o = none → ∀ L, H' L = none → Q (.ref L) (upd H' L (.lst [.non, y])) := fun x hy ho L hL =>
      q (.ref L) _ ((e1.trans x).trans (Ex.new hL)) ⟨L, .non, _, rfl, upd_same, by rw [ho]; rfl, (fun z => by rw [ho] at z; cases z), fun _ => kind_mono (Ex.new hL) hy⟩
    have fin1 : ∀ {H' : Hp} {m e : Int} {p : Addr}, Ex H1 H' → H' p = some (.tup [.int m, .int e]) → o = some (m, e) → ∀ L, H' L = none → Q (.ref L) (upd H' L (.lst [.ref p, .ref r])) := fun x hp ho L hL =>
      q (.ref L) _ ((e1.trans x).trans (Ex.new hL)) ⟨L, .ref _, _, rfl, upd_same, by rw [ho]; exact numAt_of ((Ex.new hL) _ _ hp), fun _ => ⟨r, rfl, (Ex.new hL) _ _ (x _ _ hr0)⟩, (fun z => by rw [ho] at z; cases z)⟩
    refine ⟨.int k, rfl, rfl, _, rfl, ite2 (fun hk => ?_) (fun hk => ?_)⟩
    · have hk : k = 0 := V.int.inj (of_decide_eq_true hk)
      rcases hd with ⟨ho, hn⟩ | ⟨l, rfl, hl, ho⟩
      · refine ⟨v, rfl, v, rfl, .inl ⟨hn, fun H' e' => ?_⟩⟩
        exact ⟨true, XN, fun _ a ha => ⟨.ref a, rfl, N, _, _, _, _, _, _, _, _, rfl, rfl, rfl, KN, fun y H5 e5 hy => ⟨.non, rfl, y, rfl, by show 2 ≤ sizeLine; decide, fin0 (e'.trans e5) hy ho⟩⟩, fun y => by cases y⟩
      · rw [if_pos hk] at ho
        refine ⟨_, rfl, _, rfl, .inr ⟨l, rfl, hl, ?_⟩⟩
        rw [← ho]
        cases o with
        | some n => exact fun H' p e' hp => ⟨.ref p, rfl, .ref r, rfl, by show 2 ≤ sizeLine; decide, fin1 e' hp rfl⟩
        | none =>
          refine fun H' e' => ?_
          exact ⟨true, XN, fun _ a ha => ⟨.ref a, rfl, N, _, _, _, _, _, _, _, _, rfl, rfl, rfl, KN, fun y H5 e5 hy => ⟨.non, rfl, y, rfl, by show 2 ≤ sizeLine; decide, fin0 (e'.trans e5) hy rfl⟩⟩, fun y => by cases y⟩
    · have hk : k ≠ 0 := fun y => hk (decide_eq_true (congrArg V.int y))
      rcases hd with ⟨ho, hn⟩ | ⟨l, rfl, hl, ho⟩
      · refine ⟨v, rfl, v, rfl, .inl ⟨hn, fun H' e' => ?_⟩⟩
        exact ⟨true, XN, fun _ a ha => ⟨.ref a, rfl, N, _, _, _, _, _, _, _, _, rfl, rfl, rfl, KN, fun y H5 e5 hy => ⟨.non, rfl, y, rfl, by show 2 ≤ sizeLine; decide, fin0 (e'.trans e5) hy ho⟩⟩, fun y => by cases y⟩
      · rw [if_neg hk] at ho
        refine ⟨_, rfl, _, rfl, .inr ⟨l, rfl, hl, ?_⟩⟩
        rw [← ho]
        cases o with
        | some n => exact fun H' p e' hp => ⟨.ref p, rfl, .ref r, rfl, by show 2 ≤ sizeLine; decide, fin1 e' hp rfl⟩
        | none =>
          refine fun H' e' => ?_
          exact ⟨true, XN, fun _ a ha => ⟨.ref a, rfl, N, _, _, _, _, _, _, _, _, rfl, rfl, rfl, KN, fun y H5 e5 hy => ⟨.non, rfl, y, rfl, by show 2 ≤ sizeLine; decide, fin0 (e'.trans e5) hy rfl⟩⟩, fun y => by cases y⟩
theorem optAt_is {K : PySem.W.Frag} {H : Hp} {v : V} {o : Option (Int × Int)} (h : OptAt K H v o) : decide (v = V.non) = !o.isSome := by
  cases o with
  | none =>
    rw [show v = .non from h]
    rfl
  | some n =>
    obtain ⟨a, rfl, _⟩ := h
    rfl
/-! ### data made of displays -/
section
variable {K : PySem.W.Frag} {σ : L2.St} {H : Hp} {ta tr : TA} {te : TE}
def EvX (K : PySem.W.Frag) (d : PyData) (te : TE) (σ : L2.St) (H : Hp) : Prop := EvP (fun H v => Dp K H v d) te σ H
def EvXs (K : PySem.W.Frag) (ds : List PyData) (ta : TA) (σ : L2.St) (H : Hp) : Prop := ∀ H1, Ex H H1 → ∀ Q : List V → Hp → Prop, (∀ vs H2, Ex H1 H2 → DpAll K H2 vs ds → Q vs H2) → ta σ H1 Q
theorem dpAll_len : ∀ {vs : List V} {ds : List PyData}, DpAll K H vs ds → vs.length = ds.length
  | [], [], _ => rfl
  | _ :: _, _ :: _, .cons _ h => congrArg Nat.succ (dpAll_len h)
theorem exs_nil : EvXs K [] tNil σ H := fun H1 _ _ q => q [] H1 (Ex.refl H1) .nil
theorem exs_cons {d : PyData} {ds : List PyData} (h : EvX K d te σ H) (hr : EvXs K ds tr σ H) : EvXs K (d :: ds) (tCons te tr) σ H := fun H1 e Q q =>
  h H1 e _ fun v H2 e2 hv => hr H2 (e.trans e2) _ fun vs H3 e3 hvs => q (v :: vs) H3 (e2.trans e3) (.cons (dp_ex e3 d v hv) hvs)
theorem ex_lst {ds : List PyData} (h : EvXs K ds ta σ H) (hl : ds.length ≤ 1000 := by decide) : EvX K (.list ds) (tLst ta) σ H := fun H1 e Q q =>
  h H1 e _ fun vs H2 e2 hvs => ⟨sz_of (by rw [dpAll_len hvs]; omega), fun p hp => q (.ref p) _ (e2.trans (Ex.new hp)) (.lst (sq_of upd_same) (dpAll_ex (Ex.new hp) ds vs hvs))⟩
theorem ex_tup {ds : List PyData} (h : EvXs K ds ta σ H) (hl : ds.length ≤ 1000 := by decide) : EvX K (.tuple ds) (tTup ta) σ H := fun H1 e Q q =>
  h H1 e _ fun vs H2 e2 hvs => ⟨sz_of (by rw [dpAll_len hvs]; omega), fun p hp => q (.ref p) _ (e2.trans (Ex.new hp)) (.tup (st_of upd_same) (dpAll_ex (Ex.new hp) ds vs hvs))⟩
theorem ex_of {v : V} {d : PyData} (h : Ev te σ H v) (hv : ∀ H', Ex H H' → Dp K H' v d) : EvX K d te σ H := fun H1 e Q q => h H1 e Q fun H2 e2 => q v H2 e2 (hv H2 (e.trans e2))
theorem ex_non : EvX K .none (tC .non) σ H := ex_of ev_c fun _ _ => .non
theorem ex_bl {b : Bool} : EvX K (.bool b) (tC (.bl b)) σ H := ex_of ev_c fun _ _ => .bl b
theorem ex_int {i : Int} : EvX K (.int i) (tC (.int i)) σ H := ex_of ev_c fun _ _ => .int i
theorem ex_str {x : Str} : EvX K (.str x) (tC (.str x)) σ H := ex_of ev_c fun _ _ => .str x
end
def askD : Option (Int × Int) → PyData
  | some n => .list [pairD n, .list []]
  | none => .list [.none, .list [.list [.str "text"], .list [.bool true, .bool false, .bool false, .bool false, .bool false]]]
theorem kind_dp {K : PySem.W.Frag} {H : Hp} {v : V} {x : Str} {b1 b2 b3 b4 b5 : Bool} (h : KindAt H v [x] [b1, b2, b3, b4, b5]) : Dp K H v (.list [.list [.str x], .list [.bool b1, .bool b2, .bool b3, .bool b4, .bool b5]]) := by
  obtain ⟨L, L1, L2, rfl, h1, h2, h3⟩ := h
  exact .lst (sq_of h1) (.cons (.lst (sq_of h2) (.cons (.str x) .nil)) (.cons (.lst (sq_of h3) (.cons (.bl _) (.cons (.bl _) (.cons (.bl _) (.cons (.bl _) (.cons (.bl _) .nil)))))) .nil))
theorem ask_dp {K : PySem.W.Frag} {H : Hp} {y : V} {o : Option (Int × Int)} (h : AskAt K H y o) : Dp K H y (askD o) := by
  obtain ⟨L, x, g, rfl, hL, hx, h1, h2⟩ := h
  cases o with
  | none =>
    rw [show x = .non from hx] at hL
    exact .lst (sq_of hL) (.cons .non (.cons (kind_dp (h2 rfl)) .nil))
  | some n =>
    obtain ⟨G, rfl, hG⟩ := h1 rfl
    exact .lst (sq_of hL) (.cons (numAt_dp hx) (.cons (.lst (sq_of hG) .nil) .nil))
theorem ask_shaped (o : Option (Int × Int)) : SeqAt.shaped (askD o) = true := by
  cases o with
  | none => decide +kernel
  | some n => rfl
theorem ask_same (o : Option (Int × Int)) : PyData.eqv (askD o) (askD o) = true := by
  cases o with
  | none => decide +kernel
  | some n => simp [askD, pairD, PyData.eqv, PyData.eqvAll]
def spGood81 : Sp := fun vs H Q _ => ∃ l : List Nat, vs = [.str (SX.S l)] ∧ l.length ≤ 600 ∧ ∀ H', Ex H H' → Q (.bl true) H'
theorem ok_law_good {f f1 f2 f3 : Addr} {fd fd1 fd2 fd3 : FuncData} (T : Top mg) (F : FnP K "_law_good" s_law_good f fd) (c_law_due_number : Cal P w K mg base CX0 2 "_law_due_number" ["_law_wording"] (spDue K rnO) f1 fd1) (c_law_due_decimal : Cal P w K mg base CX0 2 "_law_due_decimal" ["_law_wording"] (spDue K rdO) f2 fd2) (c_law_asked : Cal P w K mg base CX0 5 "_law_asked" ["_law_which", "_law_wording"] (spAsk K) f3 fd3) : FnOk P w K mg base CX0 6 f fd ["_law_wording"] spGood81 := by
  have sc := sc_law_good
  refine ok0 F sc (fun vs H Q E h => ?_) (fun cdv A outer s H vs Q E hr h => ?_)
  · obtain ⟨l, rfl, _⟩ := h
    rfl
  · obtain ⟨l, rfl, hl, q⟩ := h
    refine ⟨_, (pss_cons (ps_set (i := 1) sc.nd rfl (.inl rfl) (pe_lst (pa_cons pe_non (pa_cons (pe_lst (pa_cons (pe_lst (pa_cons pe_str pa_nil)) (pa_cons (pe_lst (pa_cons pe_bl (pa_cons pe_bl (pa_cons pe_bl (pa_cons pe_bl (pa_cons pe_bl pa_nil)))))) pa_nil))) pa_nil))))
    (pss_cons (ps_for PassesOwn.never rfl (pi_range1 (by rfl) T.range (pa_cons pe_int pa_nil)) (pg_name (i := 2) sc.nd rfl (.inl rfl))
      (pss_cons (ps_set (i := 3) sc.nd rfl (.inl rfl) pe_non)
      (pss_cut (ps_if (pt_cmpR op_eq (pv 2) pe_int (nomark _))
        (pss_one (ps_set (i := 3) sc.nd rfl (.inl rfl) (pe_call c_law_due_number.ok (hr.mono (by decide)) (by rfl) c_law_due_number.m c_law_due_number.kp c_law_due_number.b .nil pass0 (pa_cons (pv 0) pa_nil)))) (pss_one (ps_set (i := 3) sc.nd rfl (.inl rfl) (pe_call c_law_due_decimal.ok (hr.mono (by decide)) (by rfl) c_law_due_decimal.m c_law_due_decimal.kp c_law_due_decimal.b .nil pass0 (pa_cons (pv 0) pa_nil)))))
      (pss_one (ps_if (pt_cmpR op_isN (pv 3) pe_non (nomark _))
        (pss_one (ps_if (pt_cmpR (op_neD hr.units) (pe_call c_law_asked.ok (hr.mono (by decide)) (by rfl) c_law_asked.m c_law_asked.kp c_law_asked.b .nil pass0 (pa_cons (pv 2) (pa_cons (pv 0) pa_nil))) (pv 1) (nomark _))
          (pss_one (ps_ret pe_bl)) pss_nil)) (pss_one (ps_if (pt_cmpR (op_neD hr.units) (pe_call c_law_asked.ok (hr.mono (by decide)) (by rfl) c_law_asked.m c_law_asked.kp c_law_asked.b .nil pass0 (pa_cons (pv 2) (pa_cons (pv 0) pa_nil))) (pe_lst (pa_cons (pv 3) (pa_cons (pe_lst pa_nil) pa_nil))) (nomark _))
          (pss_one (ps_ret pe_bl)) pss_nil)))))))
    (pss_one (ps_ret pe_bl)))), ?_⟩
    refine q_asgP (P := fun H v => Dp K H v (askD none)) (ex_lst (exs_cons ex_non (exs_cons (ex_lst (exs_cons (ex_lst (exs_cons ex_str exs_nil)) (exs_cons (ex_lst (exs_cons ex_bl (exs_cons ex_bl (exs_cons ex_bl (exs_cons ex_bl (exs_cons ex_bl exs_nil)))))) exs_nil))) exs_nil))) fun rf H1 e1 hrf => ?_
    refine ⟨2, rfl, by decide, by decide, for_range (lo := 0) (n := 2) (fun _ σ' H' => Ex H1 H' ∧ ∃ t t', σ' = [some (.str (SX.S l)), some rf, t, t']) ⟨Ex.refl H1, none, none, rfl⟩ (fun i σ' H2 hi hp => ?_) (fun σ' H2 hp => ?_)⟩
    · obtain ⟨e2, t, t', rfl⟩ := hp
      refine g_name ?_
      refine g_name ?_
      dsimp only
      refine q_cut (M := fun σ' H' => ∃ v, Ex H2 H' ∧ OptAt K H' v (if (0 + (i : Int)) = 0 then rnO l else rdO l) ∧ σ' = [some (.str (SX.S l)), some rf, some (.int (0 + (i : Int))), some v]) ?_ ?_
      · refine ⟨.int (0 + (i : Int)), rfl, rfl, _, rfl, ite2 (fun hk => ?_) (fun hk => ?_)⟩
        · have hk : (0 + (i : Int)) = 0 := V.int.inj (of_decide_eq_true hk)
          exact ⟨.str (SX.S l), rfl, l, rfl, hl, fun v H3 e3 hv => ⟨v, e3, by rw [if_pos hk]; exact hv, rfl⟩⟩
        · have hk : ¬ (0 + (i : Int)) = 0 := fun y => hk (decide_eq_true (congrArg V.int y))
          exact ⟨.str (SX.S l), rfl, l, rfl, hl, fun v H3 e3 hv => ⟨v, e3, by rw [if_neg hk]; exact hv, rfl⟩⟩
      rintro σ' H3 ⟨v, e3, hv, rfl⟩
      have e23 := e2.trans e3
      refine ⟨v, rfl, rfl, _, rfl, ?_⟩
      rw [optAt_is hv]
      generalize ho : (if (0 + (i : Int)) = 0 then rnO l else rdO l) = o at hv
      refine ite2 (fun z => ?_) (fun z => ?_)
      · have z : o = none := by
          cases o with
          | none => rfl
          | some n => cases z
        refine ⟨.int (0 + (i : Int)), rfl, .str (SX.S l), rfl, _, _, o, rfl, .inr ⟨l, rfl, by omega, ho.symm⟩, fun y H4 e4 hy => ?_⟩
        rw [z] at hy
        refine ⟨rf, rfl, _, _, ask_dp hy, dp_ex (e23.trans e4) _ _ hrf, ask_shaped _, ask_shaped _, false, by rw [ask_same]; rfl, iteF ⟨e23.trans e4, _, _, rfl⟩⟩
      · obtain ⟨n, z⟩ : ∃ n, o = some n := by
          cases o with
          | none => exact absurd rfl z
          | some n => exact ⟨n, rfl⟩
        refine ⟨.int (0 + (i : Int)), rfl, .str (SX.S l), rfl, _, _, o, rfl, .inr ⟨l, rfl, by omega, ho.symm⟩, fun y H4 e4 hy => ?_⟩
        rw [z] at hy hv
        refine (ex_lst (K := K) (σ := [some (.str (SX.S l)), some rf, some (.int (0 + (i : Int))), some v]) (H := H4) (ds := [pairD n, .list []]) (exs_cons (ex_of (ev_var (i := 3) rfl) (fun H' x => numAt_dp (numAt_ex (e4.trans x) hv))) (exs_cons (ex_lst exs_nil) exs_nil)) (by show 2 ≤ 1000; decide)) H4 (Ex.refl H4) _ fun u H5 e5 hu => ?_
        refine ⟨_, _, dp_ex e5 _ _ (ask_dp hy), hu, ask_shaped _, ask_shaped (some n), false, by rw [show PyData.list [pairD n, .list []] = askD (some n) from rfl, ask_same]; rfl, iteF ⟨(e23.trans e4).trans e5, _, _, rfl⟩⟩
    · obtain ⟨e2, t, t', rfl⟩ := hp
      exact q H2 (e1.trans e2)
theorem slice_one {l : List Nat} {j : Nat} (h : j ≤ l.length) : Txt.slice (SX.S l) (some (j : Int)) (some ((j : Int) + 1)) = SX.S ((l.drop j).take 1) := by
  rcases Nat.lt_or_ge j l.length with lt | ge
  · have := slice_mid (l := l) (a := j) (b := j + 1) (by omega) (by omega)
    rw [show j + 1 - j = 1 by omega] at this
    exact this
  · have e : j = l.length := by omega
    subst e
    have := slice_mid (l := l) (a := l.length) (b := l.length) (Nat.le_refl _) (Nat.le_refl _)
    have e2 : Txt.slice (SX.S l) (some (l.length : Int)) (some ((l.length : Int) + 1)) = Txt.slice (SX.S l) (some (l.length : Int)) (some (l.length : Int)) := by
      unfold Txt.slice
      rw [SX.S_len, SX.idx_hi (n := l.length) (i := (l.length : Int) + 1) (by omega)]
    rw [e2, this, List.drop_length]
    simp
def spBent : Sp := fun vs H Q _ => ∃ (p : Addr) (l : List Nat), vs = [.ref p, .str (SX.S l)] ∧ Pl p H ∧ l.length ≤ 5000 ∧ ∀ (m : List Nat) H', Keeps p H H' → Pl p H' → m.length ≤ l.length + 1 → l.length ≤ m.length + 1 → Q (.str (SX.S m)) H'
def signs17 : Str := "0123456789-.p+ ex"
theorem sign_at {z : Int} (h0 : 0 ≤ z) (h1 : z < 17) : ∃ c, atI signs17.cps.toList z = some c := by
  obtain ⟨j, rfl⟩ : ∃ j : Nat, z = (j : Int) := ⟨z.toNat, by omega⟩
  have hl : signs17.cps.toList.length = 17 := by decide +kernel
  exact ⟨_, atI_nat (List.getElem?_eq_getElem (show j < signs17.cps.toList.length by omega))⟩
theorem ok_law_bent {f f1 : Addr} {fd fd1 : FuncData} (T : Top mg) (F : FnP K "_law_bent" s_law_bent f fd) (c_law_take : Cal P w K mg base CX0 1 "_law_take" ["_law_pile", "_law_size"] spTake f1 fd1) : FnOk P w K mg base CX0 2 f fd ["_law_pile", "_law_wording"] spBent := by
  have sc := sc_law_bent
  refine ok0 F sc (fun vs H Q E h => ?_) (fun cdv A outer s H vs Q E hr h => ?_)
  · obtain ⟨p, l, rfl, _⟩ := h
    rfl
  · obtain ⟨p, l, rfl, l0, hl, q⟩ := h
    refine ⟨_, (pss_cons (ps_set (i := 2) sc.nd rfl (.inl rfl) (pe_op op_mod (pe_call c_law_take.ok (hr.mono (by decide)) (by rfl) c_law_take.m c_law_take.kp c_law_take.b .nil pass0 (pa_cons (pv 0) (pa_cons pe_int pa_nil))) (pe_op op_add (pe_callB call_len (by rfl) T.len (by decide +kernel) (pa_cons (pv 1) pa_nil)) pe_int)))
    (pss_cons (ps_set (i := 3) sc.nd rfl (.inl rfl) (pe_ix ix_str pe_str (pe_call c_law_take.ok (hr.mono (by decide)) (by rfl) c_law_take.m c_law_take.kp c_law_take.b .nil pass0 (pa_cons (pv 0) (pa_cons pe_int pa_nil))) (fun _ _ => rfl)))
    (pss_cons (ps_set (i := 4) sc.nd rfl (.inl rfl) (pe_call c_law_take.ok (hr.mono (by decide)) (by rfl) c_law_take.m c_law_take.kp c_law_take.b .nil pass0 (pa_cons (pv 0) (pa_cons pe_int pa_nil))))
    (pss_cons (ps_if (pt_cmpR op_eq (pv 4) pe_int (nomark _))
      (pss_one (ps_ret (pe_op op_add_str (pe_op op_add_str (pe_slice C8.sl_txt (pv 1) po_none (po_some (pv 2))) (pv 3)) (pe_slice C8.sl_txt (pv 1) (po_some (pv 2)) po_none)))) pss_nil)
    (pss_cons (ps_if (pt_cmpR op_eq (pv 4) pe_int (nomark _))
      (pss_one (ps_ret (pe_op op_add_str (pe_slice C8.sl_txt (pv 1) po_none (po_some (pv 2))) (pe_slice C8.sl_txt (pv 1) (po_some (pe_op op_add (pv 2) pe_int)) po_none)))) pss_nil)
    (pss_cons (ps_if (pt_cmpR op_eq (pv 4) pe_int (nomark _))
      (pss_one (ps_ret (pe_op op_add_str (pe_op op_add_str (pe_slice C8.sl_txt (pv 1) po_none (po_some (pv 2))) (pv 3)) (pe_slice C8.sl_txt (pv 1) (po_some (pe_op op_add (pv 2) pe_int)) po_none)))) pss_nil)
    (pss_cons (ps_if (pt_cmpR op_eq (pv 4) pe_int (nomark _))
      (pss_one (ps_ret (pe_op op_add_str (pe_op op_add_str (pe_slice C8.sl_txt (pv 1) po_none (po_some (pv 2))) (pe_slice C8.sl_txt (pv 1) (po_some (pv 2)) (po_some (pe_op op_add (pv 2) pe_int)))) (pe_slice C8.sl_txt (pv 1) (po_some (pv 2)) po_none)))) pss_nil)
    (pss_cons (ps_if (pt_cmpR op_eq (pv 4) pe_int (nomark _))
      (pss_one (ps_ret (pe_op op_add_str (pv 1) (pv 3)))) pss_nil)
    (pss_one (ps_ret (pe_op op_add_str (pv 3) (pv 1)))))))))))), ?_⟩
    have sl : (SX.S l).length ≤ sizeLine := by rw [SX.S_len, sizeLine_eq]; omega
    have lenL : ∀ {H' : Hp}, LenV K (.str (SX.S l)) H' l.length := fun {H'} => ⟨sl, (SX.S_len l).symm⟩
    have tk : ∀ {n : Int} {σ : L2.St} {H : Hp}, σ[0]? = some (some (.ref p)) → 0 < n → n.natAbs.log2 < 9000 → EvI p (fun z => 0 ≤ z ∧ z < n) (tCall spTake [] E0 (tCons (tVar 0) (tCons (tC (.int n)) tNil))) σ H := fun {n σ H} hi h1 h2 => evi_take (N := fun z => z = n) hi (evi_c rfl) (fun m hm => by subst hm; exact ⟨h1, h2⟩) (fun m z hm a b => by subst hm; exact ⟨a, b⟩)
    refine k_asg (P := fun _ v => ∃ z, v = .int z ∧ 0 ≤ z ∧ z ≤ (l.length : Int)) (evi_opC (S := fun z => 0 ≤ z ∧ z < 400) (T := fun z => z = (l.length : Int) + 1) (tk rfl (by decide) (by decide)) (evi_op (S := fun z => z = (l.length : Int)) (T := fun z => z = 1) (fun H1 k l1 Q q => ⟨.str (SX.S l), rfl, _, l.length, rfl, lenL, q _ H1 (Keeps.refl p H1) l1 ⟨_, rfl, rfl⟩⟩) (evi_c rfl) (fun a b ha hb => by subst ha hb; rfl)) (fun a b ha hb => by subst hb; show (0 : Int) < _; omega) (fun a b ha hb => by
      subst hb
      have h1 := Int.emod_nonneg a (show (l.length : Int) + 1 ≠ 0 by omega)
      have h2 := Int.emod_lt_of_pos a (show 0 < (l.length : Int) + 1 by omega)
      exact ⟨h1, by omega⟩)) l0 fun v1 H1 k1 l1 ⟨z, e1, z0, z1⟩ => ?_
    subst e1
    obtain ⟨j, rfl⟩ : ∃ j : Nat, z = (j : Int) := ⟨z.toNat, by omega⟩
    have hj : j ≤ l.length := by omega
    refine k_asg (P := fun _ v => ∃ c : Nat, v = .str (SX.S [c])) (fun H2 k2 l2 Q q => tk (σ := [some (.ref p), some (.str (SX.S l)), some (.int (j : Int)), none, none]) (H := H1) rfl (by decide) (by decide) H2 k2 l2 _ fun v H3 k3 l3 ⟨z, e, a, b⟩ => by
      subst e
      obtain ⟨c, hc⟩ := sign_at a b
      exact ⟨signs17, z, c, rfl, rfl, by decide +kernel, hc, q _ H3 k3 l3 ⟨c, rfl⟩⟩) l1 fun v2 H2 k2 l2 ⟨c, e2⟩ => ?_
    subst e2
    refine k_asg (P := fun _ v => ∃ z, v = .int z ∧ 0 ≤ z ∧ z < 6) (tk rfl (by decide) (by decide)) l2 fun v3 H3 k3 l3 ⟨way, e3, w0, w1⟩ => ?_
    subst e3
    have k13 := (k1.trans k2).trans k3
    have s1 : Txt.slice (SX.S l) none (some (j : Int)) = SX.S (l.take j) := by rw [SX.slice_to (Int.natCast_nonneg _), Int.toNat_natCast]
    have s2 : Txt.slice (SX.S l) (some (j : Int)) none = SX.S (l.drop j) := by rw [SX.slice_from (Int.natCast_nonneg _), Int.toNat_natCast]
    have s3 : Txt.slice (SX.S l) (some ((j : Int) + 1)) none = SX.S (l.drop (j + 1)) := by rw [SX.slice_from (by omega), show ((j : Int) + 1).toNat = j + 1 by omega]
    have s4 := slice_one hj
    have t1 : (l.take j).length = j := by rw [List.length_take]; omega
    have t2 : (l.drop j).length = l.length - j := List.length_drop
    have t3 : (l.drop (j + 1)).length = l.length - (j + 1) := List.length_drop
    have t4 : ((l.drop j).take 1).length ≤ 1 := by rw [List.length_take]; omega
    have fin : ∀ m : List Nat, m.length ≤ l.length + 1 → l.length ≤ m.length + 1 → Q (.str (SX.S m)) H3 := fun m a b => q m H3 k13 l3 a b
    have cz : ∀ {a b : List Nat}, a.length ≤ 6000 → b.length ≤ 6000 → (SX.S a).length + (SX.S b).length ≤ sizeLine := fun ha hb => cat_ok (by omega)
    have c1 : [c].length = 1 := rfl
    refine ⟨.int way, rfl, rfl, _, rfl, ite2 (fun _ => ?_) (fun _ => ?_)⟩
    · refine ⟨.str (SX.S l), rfl, .int (j : Int), rfl, (j : Int), rfl, SX.S l, rfl, sl, ?_⟩
      rw [s1]
      refine ⟨.str (SX.S [c]), rfl, _, _, rfl, rfl, cz (by omega) (by omega), .str (SX.S l), rfl, .int (j : Int), rfl, (j : Int), rfl, SX.S l, rfl, sl, ?_⟩
      rw [s2, SX.S_cat]
      refine ⟨_, _, rfl, rfl, cz (by rw [List.length_append]; omega) (by omega), ?_⟩
      rw [SX.S_cat]
      exact fin _ (by rw [List.length_append, List.length_append]; omega) (by rw [List.length_append, List.length_append]; omega)
    refine ⟨.int way, rfl, rfl, _, rfl, ite2 (fun _ => ?_) (fun _ => ?_)⟩
    · refine ⟨.str (SX.S l), rfl, .int (j : Int), rfl, (j : Int), rfl, SX.S l, rfl, sl, ?_⟩
      rw [s1]
      refine ⟨.str (SX.S l), rfl, .int (j : Int), rfl, _, _, rfl, rfl, _, rfl, SX.S l, rfl, sl, ?_⟩
      rw [s3]
      refine ⟨_, _, rfl, rfl, cz (by omega) (by omega), ?_⟩
      rw [SX.S_cat]
      exact fin _ (by rw [List.length_append]; omega) (by rw [List.length_append]; omega)
    refine ⟨.int way, rfl, rfl, _, rfl, ite2 (fun _ => ?_) (fun _ => ?_)⟩
    · refine ⟨.str (SX.S l), rfl, .int (j : Int), rfl, (j : Int), rfl, SX.S l, rfl, sl, ?_⟩
      rw [s1]
      refine ⟨.str (SX.S [c]), rfl, _, _, rfl, rfl, cz (by omega) (by omega), .str (SX.S l), rfl, .int (j : Int), rfl, _, _, rfl, rfl, _, rfl, SX.S l, rfl, sl, ?_⟩
      rw [s3, SX.S_cat]
      refine ⟨_, _, rfl, rfl, cz (by rw [List.length_append]; omega) (by omega), ?_⟩
      rw [SX.S_cat]
      exact fin _ (by rw [List.length_append, List.length_append]; omega) (by rw [List.length_append, List.length_append]; omega)
    refine ⟨.int way, rfl, rfl, _, rfl, ite2 (fun _ => ?_) (fun _ => ?_)⟩
    · refine ⟨.str (SX.S l), rfl, .int (j : Int), rfl, (j : Int), rfl, SX.S l, rfl, sl, ?_⟩
      rw [s1]
      refine ⟨.str (SX.S l), rfl, .int (j : Int), rfl, (j : Int), rfl, .int (j : Int), rfl, _, _, rfl, rfl, _, rfl, SX.S l, rfl, sl, ?_⟩
      rw [s4]
      refine ⟨_, _, rfl, rfl, cz (by omega) (by omega), .str (SX.S l), rfl, .int (j : Int), rfl, (j : Int), rfl, SX.S l, rfl, sl, ?_⟩
      rw [s2, SX.S_cat]
      refine ⟨_, _, rfl, rfl, cz (by rw [List.length_append]; omega) (by omega), ?_⟩
      rw [SX.S_cat]
      exact fin _ (by rw [List.length_append, List.length_append]; omega) (by rw [List.length_append, List.length_append]; omega)
    refine ⟨.int way, rfl, rfl, _, rfl, ite2 (fun _ => ?_) (fun _ => ?_)⟩
    · refine ⟨.str (SX.S l), rfl, .str (SX.S [c]), rfl, _, _, rfl, rfl, cz (by omega) (by omega), ?_⟩
      rw [SX.S_cat]
      exact fin _ (by rw [List.length_append]; omega) (by rw [List.length_append]; omega)
    · refine ⟨.str (SX.S [c]), rfl, .str (SX.S l), rfl, _, _, rfl, rfl, cz (by omega) (by omega), ?_⟩
      rw [SX.S_cat]
      exact fin _ (by rw [List.length_append]; omega) (by rw [List.length_append]; omega)
def spWr (K : PySem.W.Frag) : Sp := fun vs H Q _ => ∃ (k : Int) (v : V), vs = [.int k, v] ∧ NumIs K H v false ∧ ∀ y H', Ex H H' → KindAt H' y ["number"] [true, false, false, false, false] → Q y H'
theorem ok_law_written {f f0 f1 fk N : Addr} {fd fd0 fd1 : FuncData} {Cs : List Addr} (T : Top mg) (mN : mg "NoNumber" = some (.ref N)) (XN : PySem.W.exmAny K (.ref N) [.ref N] = some true) (KN : KindsOf K N Cs [true, false, false, false, false, false, false, false, false] true false false false false false false) (F : FnP K "_law_written" s_law_written f fd)
    (x_number_text : Cal P w K mg base (L2N.CX P w) 3 "number_text" ["number"] (spTextX K N) f0 fd0) (x_decimal_text : Cal P w K mg base (L2N.CX P w) 3 "decimal_text" ["number"] (spTextX K N) f1 fd1)
    (c_kinds : FnE P w K mg base CX0 1 fk (spKinds K Cs)) (m_kinds : mg "_law_kinds" = some (.ref fk)) (kp_kinds : PySem.W.keepIn K (.ref fk) = true) : FnOk P w K mg base CX0 4 f fd ["_law_which", "_law_odd_here"] (spWr K) := by
  have sc := sc_law_written
  refine ok0 F sc (fun vs H Q E h => ?_) (fun cdv A outer s H vs Q E hr h => ?_)
  · obtain ⟨k, v, rfl, _⟩ := h
    rfl
  · obtain ⟨k, v, rfl, hn, q⟩ := h
    refine ⟨_, (pss_cons (ps_set (i := 2) sc.nd rfl (.inl rfl) (pe_lst pa_nil)) (pss_cons (ps_try_gen rfl rfl takes0N
      (fun W pn xe tk _ => (pss_one (ps_if (pt_cmpR op_eq (pv 0) pe_int (nomark _)) (pss_one (ps_expr (pe_callS x_number_text.ok (hr.mono (by decide)) (by rfl) x_number_text.m x_number_text.kp x_number_text.b (L2N.passAt tk) (pa_cons (pv 1) pa_nil)))) (pss_one (ps_expr (pe_callS x_decimal_text.ok (hr.mono (by decide)) (by rfl) x_decimal_text.m x_decimal_text.kp x_decimal_text.b (L2N.passAt tk) (pa_cons (pv 1) pa_nil)))))))
      (.as (i := 3) sc.nd rfl rfl (tst_one ⟨by rfl, by decide, .inl mN⟩) (fun a oe cls d pn hz hf => pss_one (ps_set (i := 2) sc.nd rfl (.inl rfl) (pe_callES (E := E0) c_kinds ⟨(hr.mono (j := 1) (by decide)).dp, (hr.mono (j := 1) (by decide)).un⟩ (hot_suite hz hf) List.mem_cons_self hz (by rfl) m_kinds kp_kinds pass0 (pa_cons (pv 3) pa_nil)))) .nil)) (pss_one (ps_ret (pv 2))))), ?_⟩
    refine ⟨by show 0 ≤ sizeLine; decide, fun r hr1 => ?_⟩
    have e1 := Ex.new (o := .lst []) hr1
    have hn := num_ex e1 hn
    generalize upd H r (.lst []) = H1 at e1 hn ⊢
    refine ⟨.int k, rfl, rfl, _, rfl, ite2 (fun hk => ?_) (fun hk => ?_)⟩
    · refine ⟨v, rfl, v, rfl, hn, fun H' e' => ?_⟩
      exact ⟨true, XN, fun _ a ha => ⟨.ref a, rfl, N, _, _, _, _, _, _, _, _, rfl, rfl, rfl, KN, fun y H5 e5 hy => ⟨y, rfl, q y H5 ((e1.trans e').trans e5) hy⟩⟩, fun y => by cases y⟩
    · refine ⟨v, rfl, v, rfl, hn, fun H' e' => ?_⟩
      exact ⟨true, XN, fun _ a ha => ⟨.ref a, rfl, N, _, _, _, _, _, _, _, _, rfl, rfl, rfl, KN, fun y H5 e5 hy => ⟨y, rfl, q y H5 ((e1.trans e').trans e5) hy⟩⟩, fun y => by cases y⟩
def spLaw (K : PySem.W.Frag) : Sp := fun vs H Q _ => ∃ (a : Addr) (ns : List Int), vs = [.ref a] ∧ SqL K H a (ns.map V.int) ∧ ∀ H', Q (.bl true) H'
def TxP (_ : Hp) (v : V) : Prop := ∃ l : List Nat, v = .str (SX.S l) ∧ l.length ≤ 600
theorem tx_mono : Mono TxP := fun _ _ _ _ h => h
theorem q_seqP {tu tz : TS} {D : Ends} {σ : L2.St} {H : Hp} (h : tu { D with nx := tz D } σ H) : tSeq tu tz D σ H := h
section
variable {K : PySem.W.Frag} {σ : L2.St} {H : Hp} {ta tb te : TE}
theorem tx_of {s : Str} (h : Ev te σ H (.str s)) (hl : s.length ≤ 600) : EvP TxP te σ H := evp_of h tx_mono ⟨s.cps.toList, by rw [SX.S_tl], by
  have := SX.S_len s.cps.toList
  rw [SX.S_tl] at this
  omega⟩
theorem tx_c {s : Str} (hl : s.length ≤ 600) : EvP TxP (tC (.str s)) σ H := tx_of ev_c hl
theorem rv_sign {c : Nat} {i : Int} (hi : i.natAbs ≤ 100000) : RV rSign (.str (SX.S [c])) (.int i) H (.str (SX.S (List.replicate i.toNat c))) := fun H1 _ _ q => ⟨c, i, rfl, rfl, hi, q H1 (Ex.refl H1)⟩
theorem rv_cat {a b : Str} (h : a.length + b.length ≤ sizeLine) : RV (fun x y H Q => ∃ i j, x = V.str i ∧ y = V.str j ∧ i.length + j.length ≤ sizeLine ∧ Q (.str (i ++ j)) H) (.str a) (.str b) H (.str (a ++ b)) := fun H1 _ _ q => ⟨a, b, rfl, rfl, h, q H1 (Ex.refl H1)⟩
theorem ne_same {ta tb : TE} {d : PyData} (ha : EvX K d ta σ H) (hb : EvX K d tb σ H) (hs : SeqAt.shaped d = true) (he : PyData.eqv d d = true) : EvT (tTest (tOp (rNeD K) ta tb)) σ H false := fun H1 e Q q =>
  ha H1 e _ fun u H2 e2 hu => hb H2 (e.trans e2) _ fun v H3 e3 hv => ⟨_, _, dp_ex e3 _ _ hu, hv, hs, hs, false, by rw [he]; rfl, q H3 (e2.trans e3)⟩
end
/-- a number for texts -/
def VN (K : PySem.W.Frag) (H : Hp) (v : V) : Prop := ∃ n, Gn K H v n 2000 ∧ n.1.natAbs < 2 ^ 300 ∧ n.2.natAbs ≤ 1000
theorem gn_keepP {K : PySem.W.Frag} {v : V} {n : Int × Int} {B : Nat} {p : Addr} {H H' : Hp} (g : Gn K H v n B) (l : Pl p H) (k : Keeps p H H') : Gn K H' v n B := by
  obtain ⟨x, hx⟩ := l
  exact gn_keep g hx k
theorem vn_keep {K : PySem.W.Frag} {v : V} {p : Addr} {H H' : Hp} (g : VN K H v) (l : Pl p H) (k : Keeps p H H') : VN K H' v := by
  obtain ⟨n, g, h⟩ := g
  exact ⟨n, gn_keepP g l k, h⟩
theorem dtx_len {n : Int × Int} (h1 : n.1.natAbs < 2 ^ 300) (h2 : n.2.natAbs ≤ 1000) : (dtx n).length ≤ 3000 := by
  have l1 := sgnT_len n.1
  unfold dtx
  by_cases z : 0 ≤ n.2
  · rw [if_pos z, List.length_append]
    have := dig_len_bd (dE_bd h1 h2)
    omega
  · rw [if_neg z]
    obtain ⟨a, b⟩ := bb_len (N := dN n) (k := (-n.2).toNat) (dN_bd h1 h2) (by omega)
    rw [List.length_append, List.length_append, List.length_append]
    show _ + _ + 1 + _ ≤ 3000
    omega
theorem ntx_len {n : Int × Int} (h1 : n.1.natAbs < 2 ^ 300) (h2 : n.2.natAbs ≤ 1000) : (ntx n).length ≤ 3000 := by
  have l1 := cod_len (i := n.1) (Nat.lt_of_lt_of_le h1 (Nat.pow_le_pow_right (by decide) (by decide)))
  have l2 := cod_len (i := n.2) (Nat.lt_of_le_of_lt h2 (Nat.lt_of_lt_of_le (by decide : 1000 < 2 ^ 11) (Nat.pow_le_pow_right (by decide) (by decide))))
  unfold ntx
  rw [List.length_append, List.length_append]
  show _ + 1 + _ ≤ 3000
  omega
theorem vn_odd {m e : Int} (hm : m.natAbs ≤ 2 ^ 11) (h1 : -20 ≤ e) (h2 : e ≤ 20) : m.natAbs ≤ 2 ^ 200 ∧ -800 ≤ e ∧ e ≤ 799 := ⟨Nat.le_trans hm (Nat.pow_le_pow_right (by decide) (by decide)), by omega, by omega⟩
/-- no text, of a display -/
def NT (K : PySem.W.Frag) (H : Hp) (v : V) : Prop := NoTx K H v
theorem nt_mono : Mono (NT K) := fun _ _ _ e h => noTx_ex e h
theorem nt_dp {K : PySem.W.Frag} {H : Hp} {v : V} {d : PyData} (h : Dp K H v d) (hs : ∀ x, d ≠ .str x) : NT K H v := by
  cases h with
  | non => exact ⟨_, .base .non, kit_ty (by decide +kernel : kitB "NoneType" "str" = some false)⟩
  | bl b => exact ⟨_, .base (.bl b), kit_ty (by decide +kernel : kitB "bool" "str" = some false)⟩
  | int i => exact ⟨_, .base (.int i), kit_ty (by decide +kernel : kitB "int" "str" = some false)⟩
  | str x => exact absurd rfl (hs x)
  | lst q _ => exact ⟨_, sqL_ty q, kit_ty (by decide +kernel : kitB "list" "str" = some false)⟩
  | tup q _ => exact ⟨_, sqT_ty q, kit_ty (by decide +kernel : kitB "tuple" "str" = some false)⟩
theorem nt_of {K : PySem.W.Frag} {σ : L2.St} {H : Hp} {te : TE} {d : PyData} (h : EvX K d te σ H) (hs : ∀ x, d ≠ .str x) : EvP (NT K) te σ H := fun H1 e Q q => h H1 e Q fun v H2 e2 hv => q v H2 e2 (nt_dp hv hs)
/-- no number, of a display -/
def NN (K : PySem.W.Frag) (H : Hp) (v : V) : Prop := NumIs K H v false
theorem nn_mono : Mono (NN K) := fun _ _ _ e h => num_ex e h
def noNum : PyData → Bool
  | .tuple [.int m, .int e] => !isNumB m e
  | _ => true
theorem nn_dp {K : PySem.W.Frag} {H : Hp} {v : V} {d : PyData} (h : Dp K H v d) (hs : noNum d = true) : NN K H v := by
  cases h with
  | non => exact .no (.base .non) (kit_ty (by decide +kernel : kitB "NoneType" "tuple" = some false))
  | bl b => exact .no (.base (.bl b)) (kit_ty (by decide +kernel : kitB "bool" "tuple" = some false))
  | int i => exact .no (.base (.int i)) (kit_ty (by decide +kernel : kitB "int" "tuple" = some false))
  | str x => exact .no (.base (.str x)) (kit_ty (by decide +kernel : kitB "str" "tuple" = some false))
  | lst q _ => exact .no (sqL_ty q) (kit_ty (by decide +kernel : kitB "list" "tuple" = some false))
  | @tup a xs ds q r =>
    cases r with
    | nil => exact .len q (by decide)
    | @cons x xs' d1 ds' r1 r2 =>
      cases r2 with
      | nil => exact .len q (by simp)
      | @cons y ys d2 ds'' r3 r4 =>
        cases r4 with
        | cons r5 r6 => exact .len q (by simp)
        | nil =>
          have w1 := whole_dp r1
          have w2 := whole_dp r3
          cases r1 with
          | int m =>
            cases r3 with
            | int e =>
              have n := NumIs.num (K := K) q
              have z : isNumB m e = false := by
                have hs : (!isNumB m e) = true := hs
                cases hb : isNumB m e with
                | false => rfl
                | true =>
                  rw [hb] at hs
                  cases hs
              rw [z] at n
              exact n
            | _ => exact .snd q w1 w2
          | _ => exact .fst q w1 w2
theorem nn_of {K : PySem.W.Frag} {σ : L2.St} {H : Hp} {te : TE} {d : PyData} (h : EvX K d te σ H) (hs : noNum d = true) : EvP (NN K) te σ H := fun H1 e Q q => h H1 e Q fun v H2 e2 hv => q v H2 e2 (nn_dp hv hs)
def numD : PyData := .list [.list [.str "number"], .list [.bool true, .bool false, .bool false, .bool false, .bool false]]
theorem ok_law {f fc f1 f2 f3 f4 f5 f6 f7 f8 f9 : Addr} {fd fdc fd1 fd2 fd3 fd4 fd5 fd6 fd7 fd8 fd9 : FuncData} (T : Top mg) (F : FnP K "law" s_law f fd)
    (c_law_cell : Cal P w K mg base CX0 2 "_law_cell" ["_law_script", "_law_k"] (spCel K) fc fdc) (c_number_text : Cal P w K mg base CX0 3 "number_text" ["number"] (spNt K) f1 fd1) (c_decimal_text : Cal P w K mg base CX0 3 "decimal_text" ["number"] (spDt K) f2 fd2) (c_law_take : Cal P w K mg base CX0 1 "_law_take" ["_law_pile", "_law_size"] spTake f4 fd4) (c_law_odd : Cal P w K mg base CX0 1 "_law_odd" ["_law_m", "_law_e"] spNof f5 fd5) (c_law_number : Cal P w K mg base CX0 2 "_law_number" ["_law_pile"] (spLn K) f6 fd6) (c_law_good : Cal P w K mg base CX0 6 "_law_good" ["_law_wording"] spGood81 f7 fd7)
    (c_law_asked : Cal P w K mg base CX0 5 "_law_asked" ["_law_which", "_law_wording"] (spAsk K) f3 fd3) (c_law_written : Cal P w K mg base CX0 4 "_law_written" ["_law_which", "_law_odd_here"] (spWr K) f8 fd8) (c_law_bent : Cal P w K mg base CX0 2 "_law_bent" ["_law_pile", "_law_wording"] spBent f9 fd9) : FnOk P w K mg base CX0 7 f fd ["_law_script"] (spLaw K) := by
  have sc := sc_law
  refine ok0 F sc (fun vs H Q E h => ?_) (fun cdv A outer s H vs Q E hr h => ?_)
  · obtain ⟨a, ns, rfl, _⟩ := h
    rfl
  · obtain ⟨a, ns, rfl, hS, q⟩ := h
    refine ⟨_, (pss_cons (ps_set (i := 1) sc.nd rfl (by first | exact .inl rfl | exact .inr rfl) (pe_lst (pa_cons pe_str (pa_cons pe_str (pa_cons pe_str (pa_cons pe_str (pa_cons pe_str (pa_cons pe_str (pa_cons pe_str (pa_cons pe_str (pa_cons pe_str (pa_cons pe_str (pa_cons pe_str (pa_cons pe_str (pa_cons pe_str (pa_cons pe_str (pa_cons pe_str pa_nil)))))))))))))))))
    (pss_cons (ps_set (i := 1) sc.nd rfl (by first | exact .inl rfl | exact .inr rfl) (pe_op op_cat (pv 1) (pe_lst (pa_cons pe_str (pa_cons pe_str (pa_cons pe_str (pa_cons pe_str pa_nil)))))))
    (pss_cons (ps_set (i := 1) sc.nd rfl (by first | exact .inl rfl | exact .inr rfl) (pe_op op_cat (pv 1) (pe_lst (pa_cons pe_str (pa_cons pe_str (pa_cons pe_str (pa_cons pe_str (pa_cons pe_str (pa_cons pe_str (pa_cons pe_str (pa_cons pe_str (pa_cons pe_str (pa_cons pe_str (pa_cons pe_str (pa_cons pe_str pa_nil)))))))))))))))
    (pss_cons (ps_set (i := 1) sc.nd rfl (by first | exact .inl rfl | exact .inr rfl) (pe_op op_cat (pv 1) (pe_lst (pa_cons pe_str (pa_cons pe_str (pa_cons pe_str (pa_cons pe_str pa_nil)))))))
    (pss_cons (ps_set (i := 1) sc.nd rfl (by first | exact .inl rfl | exact .inr rfl) (pe_op op_cat (pv 1) (pe_lst (pa_cons (pe_op op_add_str pe_str (pe_op op_mulSign pe_str pe_int)) (pa_cons (pe_op op_add_str pe_str (pe_op op_mulSign pe_str pe_int)) (pa_cons (pe_op op_add_str pe_str (pe_op op_mulSign pe_str pe_int)) (pa_cons (pe_op op_add_str pe_str (pe_op op_mulSign pe_str pe_int)) (pa_cons (pe_op op_add_str (pe_op op_mulSign pe_str pe_int) pe_str) (pa_cons pe_str pa_nil)))))))))
    (pss_cons (ps_set (i := 1) sc.nd rfl (by first | exact .inl rfl | exact .inr rfl) (pe_op op_cat (pv 1) (pe_lst (pa_cons pe_str (pa_cons pe_str (pa_cons pe_str pa_nil))))))
    (pss_cons (ps_for PassesOwn.never rfl (pi_list (pv 1)) (pg_name (i := 2) sc.nd rfl (by first | exact .inl rfl | exact .inr rfl))
      (pss_one (ps_if (pt_not (pt_val (pe_call c_law_good.ok (hr.mono (by decide)) (by rfl) c_law_good.m c_law_good.kp c_law_good.b .nil pass0 (pa_cons (pv 2) pa_nil))))
        (pss_one (ps_ret pe_bl)) pss_nil)))
    (pss_cons (ps_for PassesOwn.never rfl (pi_list (pe_lst (pa_cons pe_non (pa_cons pe_bl (pa_cons pe_int (pa_cons pe_int (pa_cons (pe_tup (pa_cons pe_int (pa_cons (pe_un un_neg pe_int) pa_nil))) (pa_cons (pe_lst (pa_cons pe_str pa_nil)) (pa_cons (pe_tup (pa_cons pe_str pa_nil)) (pa_cons (pe_tup pa_nil) pa_nil)))))))))) (pg_name (i := 3) sc.nd rfl (by first | exact .inl rfl | exact .inr rfl))
      (pss_one (ps_for PassesOwn.never rfl (pi_range1 (by rfl) T.range (pa_cons pe_int pa_nil)) (pg_name (i := 4) sc.nd rfl (by first | exact .inl rfl | exact .inr rfl))
        (pss_one (ps_if (pt_cmpR (op_neD hr.units) (pe_call c_law_asked.ok (hr.mono (by decide)) (by rfl) c_law_asked.m c_law_asked.kp c_law_asked.b .nil pass0 (pa_cons (pv 4) (pa_cons (pv 3) pa_nil))) (pe_lst (pa_cons pe_non (pa_cons (pe_lst (pa_cons (pe_lst (pa_cons pe_str pa_nil)) (pa_cons (pe_lst (pa_cons pe_bl (pa_cons pe_bl (pa_cons pe_bl (pa_cons pe_bl (pa_cons pe_bl pa_nil)))))) pa_nil))) pa_nil))) (nomark _))
          (pss_one (ps_ret pe_bl)) pss_nil)))))
    (pss_cons (ps_for PassesOwn.never rfl (pi_list (pe_lst (pa_cons pe_non (pa_cons pe_bl (pa_cons pe_int (pa_cons pe_str (pa_cons (pe_tup (pa_cons pe_int (pa_cons pe_int pa_nil))) (pa_cons (pe_tup (pa_cons pe_int (pa_cons pe_int pa_nil))) (pa_cons (pe_tup (pa_cons pe_int (pa_cons pe_bl pa_nil))) (pa_cons (pe_tup (pa_cons pe_bl (pa_cons pe_int pa_nil))) (pa_cons (pe_lst (pa_cons pe_int (pa_cons pe_int pa_nil))) (pa_cons (pe_tup (pa_cons pe_int (pa_cons pe_int (pa_cons pe_int pa_nil)))) (pa_cons (pe_tup (pa_cons pe_int pa_nil)) (pa_cons (pe_tup pa_nil) (pa_cons (pe_tup (pa_cons (pe_tup (pa_cons pe_int (pa_cons pe_int pa_nil))) pa_nil)) pa_nil))))))))))))))) (pg_name (i := 3) sc.nd rfl (by first | exact .inl rfl | exact .inr rfl))
      (pss_one (ps_for PassesOwn.never rfl (pi_range1 (by rfl) T.range (pa_cons pe_int pa_nil)) (pg_name (i := 4) sc.nd rfl (by first | exact .inl rfl | exact .inr rfl))
        (pss_one (ps_if (pt_cmpR (op_neD hr.units) (pe_call c_law_written.ok (hr.mono (by decide)) (by rfl) c_law_written.m c_law_written.kp c_law_written.b .nil pass0 (pa_cons (pv 4) (pa_cons (pv 3) pa_nil))) (pe_lst (pa_cons (pe_lst (pa_cons pe_str pa_nil)) (pa_cons (pe_lst (pa_cons pe_bl (pa_cons pe_bl (pa_cons pe_bl (pa_cons pe_bl (pa_cons pe_bl pa_nil)))))) pa_nil))) (nomark _))
          (pss_one (ps_ret pe_bl)) pss_nil)))))
    (pss_cons (ps_for PassesOwn.never rfl (pi_range1 (by rfl) T.range (pa_cons pe_int pa_nil)) (pg_name (i := 5) sc.nd rfl (by first | exact .inl rfl | exact .inr rfl))
      (pss_cons (ps_set (i := 6) sc.nd rfl (by first | exact .inl rfl | exact .inr rfl) (pe_lst (pa_cons (pe_call c_law_cell.ok (hr.mono (by decide)) (by rfl) c_law_cell.m c_law_cell.kp c_law_cell.b .nil pass0 (pa_cons (pv 0) (pa_cons (pv 5) pa_nil))) pa_nil)))
      (pss_cons (ps_set (i := 7) sc.nd rfl (by first | exact .inl rfl | exact .inr rfl) (pe_call c_law_odd.ok (hr.mono (by decide)) (by rfl) c_law_odd.m c_law_odd.kp c_law_odd.b .nil pass0 (pa_cons (pe_op op_sub (pe_call c_law_take.ok (hr.mono (by decide)) (by rfl) c_law_take.m c_law_take.kp c_law_take.b .nil pass0 (pa_cons (pv 6) (pa_cons (pe_op op_pow pe_int pe_int) pa_nil))) (pe_op op_pow pe_int pe_int)) (pa_cons (pe_op op_sub (pe_call c_law_take.ok (hr.mono (by decide)) (by rfl) c_law_take.m c_law_take.kp c_law_take.b .nil pass0 (pa_cons (pv 6) (pa_cons pe_int pa_nil))) pe_int) pa_nil))))
      (pss_one (ps_for PassesOwn.never rfl (pi_list (pe_lst (pa_cons (pv 7) (pa_cons (pe_call c_law_number.ok (hr.mono (by decide)) (by rfl) c_law_number.m c_law_number.kp c_law_number.b .nil pass0 (pa_cons (pv 6) pa_nil)) (pa_cons (pe_call c_law_odd.ok (hr.mono (by decide)) (by rfl) c_law_odd.m c_law_odd.kp c_law_odd.b .nil pass0 (pa_cons (pe_call c_law_take.ok (hr.mono (by decide)) (by rfl) c_law_take.m c_law_take.kp c_law_take.b .nil pass0 (pa_cons (pv 6) (pa_cons pe_int pa_nil))) (pa_cons (pe_un un_neg pe_int) pa_nil))) pa_nil))))) (pg_name (i := 8) sc.nd rfl (by first | exact .inl rfl | exact .inr rfl))
        (pss_one (ps_for PassesOwn.never rfl (pi_list (pe_lst (pa_cons (pe_call c_number_text.ok (hr.mono (by decide)) (by rfl) c_number_text.m c_number_text.kp c_number_text.b .nil pass0 (pa_cons (pv 8) pa_nil)) (pa_cons (pe_call c_decimal_text.ok (hr.mono (by decide)) (by rfl) c_decimal_text.m c_decimal_text.kp c_decimal_text.b .nil pass0 (pa_cons (pv 8) pa_nil)) pa_nil)))) (pg_name (i := 2) sc.nd rfl (by first | exact .inl rfl | exact .inr rfl))
          (pss_one (ps_for PassesOwn.never rfl (pi_range1 (by rfl) T.range (pa_cons pe_int pa_nil)) (pg_name (i := 9) sc.nd rfl (by first | exact .inl rfl | exact .inr rfl))
            (pss_cons (ps_set (i := 10) sc.nd rfl (by first | exact .inl rfl | exact .inr rfl) (pe_call c_law_bent.ok (hr.mono (by decide)) (by rfl) c_law_bent.m c_law_bent.kp c_law_bent.b .nil pass0 (pa_cons (pv 6) (pa_cons (pv 2) pa_nil))))
            (pss_cons (ps_set (i := 11) sc.nd rfl (by first | exact .inl rfl | exact .inr rfl) (pe_call c_law_bent.ok (hr.mono (by decide)) (by rfl) c_law_bent.m c_law_bent.kp c_law_bent.b .nil pass0 (pa_cons (pv 6) (pa_cons (pv 10) pa_nil))))
            (pss_one (ps_if (PW.pt (pw_and (pt_cmpR op_lt (pe_callB call_len (by rfl) T.len (by decide +kernel) (pa_cons (pv 10) pa_nil)) pe_int (nomark _)) (pw_and1 (pt_not (pt_val (pe_callB (cr_all rfl) (by rfl) T.all (by decide +kernel) (pa_cons (pe_lc (own := [("_law_one", 12)]) (g := gName 12) (tt := tYes) (by rfl) sc.nd (pi_list (pe_lst (pa_cons (pv 2) (pa_cons (pv 10) (pa_cons (pv 11) pa_nil))))) (blkOk_by (own := [("_law_one", 12)]) (N := ["_law_script", "_law_some", "_law_wording", "_law_odd_here", "_law_which", "_law_k", "_law_pile", "_law_near", "_law_value", "_law_turn", "_law_once", "_law_twice", "_law_one"]) (sc := defScope s_law) (by decide +kernel)) (fun _ _ _ _ _ => pg_name (i := 12) sc.nd rfl (Or.inl rfl)) (fun _ _ _ _ _ => pts_nil) (fun _ _ _ _ _ => (pe_call c_law_good.ok (hr.mono (by decide)) (by rfl) c_law_good.m c_law_good.kp c_law_good.b .nil pass0 (pa_cons (pv 12) pa_nil)))) pa_nil)))))))
              (pss_one (ps_ret pe_bl)) pss_nil)))))))))))))
    (pss_one (ps_ret pe_bl)))))))))))), ?_⟩
    have L0 : ("" : Str).length ≤ 600 := by decide
    have ev0 : ∀ {σ' : L2.St} {H' : Hp} {n : Int}, n.natAbs ≤ 100000 → Ev (tOp rSign (tC (.str "0")) (tC (.int n))) σ' H' (.str (SX.S (List.replicate n.toNat 48))) := fun h => ev_op ev_c ev_c (rv_sign (c := 48) h)
    have ev5 : ∀ {σ' : L2.St} {H' : Hp} {n : Int}, n.natAbs ≤ 100000 → Ev (tOp rSign (tC (.str "5")) (tC (.int n))) σ' H' (.str (SX.S (List.replicate n.toNat 53))) := fun h => ev_op ev_c ev_c (rv_sign (c := 53) h)
    refine q_asgLP (n := 15) (elp_lst tx_mono (eva_cons tx_mono (tx_c (by decide +kernel)) (eva_cons tx_mono (tx_c (by decide +kernel)) (eva_cons tx_mono (tx_c (by decide +kernel)) (eva_cons tx_mono (tx_c (by decide +kernel)) (eva_cons tx_mono (tx_c (by decide +kernel)) (eva_cons tx_mono (tx_c (by decide +kernel)) (eva_cons tx_mono (tx_c (by decide +kernel)) (eva_cons tx_mono (tx_c (by decide +kernel)) (eva_cons tx_mono (tx_c (by decide +kernel)) (eva_cons tx_mono (tx_c (by decide +kernel)) (eva_cons tx_mono (tx_c (by decide +kernel)) (eva_cons tx_mono (tx_c (by decide +kernel)) (eva_cons tx_mono (tx_c (by decide +kernel)) (eva_cons tx_mono (tx_c (by decide +kernel)) (eva_cons tx_mono (tx_c (by decide +kernel)) eva_nil)))))))))))))))) fun v1 H1 x1 hv1 => ?_
    refine q_asgLP (n := 15 + 4) (elp_cat (i := 1) tx_mono rfl hv1 (elp_lst tx_mono (eva_cons tx_mono (tx_c (by decide +kernel)) (eva_cons tx_mono (tx_c (by decide +kernel)) (eva_cons tx_mono (tx_c (by decide +kernel)) (eva_cons tx_mono (tx_c (by decide +kernel)) eva_nil)))))) fun v2 H2 x2 hv2 => ?_
    refine q_asgLP (n := 15 + 4 + 12) (elp_cat (i := 1) tx_mono rfl hv2 (elp_lst tx_mono (eva_cons tx_mono (tx_c (by decide +kernel)) (eva_cons tx_mono (tx_c (by decide +kernel)) (eva_cons tx_mono (tx_c (by decide +kernel)) (eva_cons tx_mono (tx_c (by decide +kernel)) (eva_cons tx_mono (tx_c (by decide +kernel)) (eva_cons tx_mono (tx_c (by decide +kernel)) (eva_cons tx_mono (tx_c (by decide +kernel)) (eva_cons tx_mono (tx_c (by decide +kernel)) (eva_cons tx_mono (tx_c (by decide +kernel)) (eva_cons tx_mono (tx_c (by decide +kernel)) (eva_cons tx_mono (tx_c (by decide +kernel)) (eva_cons tx_mono (tx_c (by decide +kernel)) eva_nil)))))))))))))) fun v3 H3 x3 hv3 => ?_
    refine q_asgLP (n := 15 + 4 + 12 + 4) (elp_cat (i := 1) tx_mono rfl hv3 (elp_lst tx_mono (eva_cons tx_mono (tx_c (by decide +kernel)) (eva_cons tx_mono (tx_c (by decide +kernel)) (eva_cons tx_mono (tx_c (by decide +kernel)) (eva_cons tx_mono (tx_c (by decide +kernel)) eva_nil)))))) fun v4 H4 x4 hv4 => ?_
    refine q_asgLP (n := 15 + 4 + 12 + 4 + 6) (elp_cat (i := 1) tx_mono rfl hv4 (elp_lst tx_mono (eva_cons tx_mono (tx_of (ev_op ev_c (ev0 (by decide)) (rv_cat (by decide +kernel))) (by decide +kernel)) (eva_cons tx_mono (tx_of (ev_op ev_c (ev0 (by decide)) (rv_cat (by decide +kernel))) (by decide +kernel)) (eva_cons tx_mono (tx_of (ev_op ev_c (ev0 (by decide)) (rv_cat (by decide +kernel))) (by decide +kernel)) (eva_cons tx_mono (tx_of (ev_op ev_c (ev0 (by decide)) (rv_cat (by decide +kernel))) (by decide +kernel)) (eva_cons tx_mono (tx_of (ev_op (ev5 (by decide)) ev_c (rv_cat (by decide +kernel))) (by decide +kernel)) (eva_cons tx_mono (tx_c (by decide +kernel)) eva_nil)))))))) fun v5 H5 x5 hv5 => ?_
    refine q_asgLP (n := 15 + 4 + 12 + 4 + 6 + 3) (elp_cat (i := 1) tx_mono rfl hv5 (elp_lst tx_mono (eva_cons tx_mono (tx_c (by decide +kernel)) (eva_cons tx_mono (tx_c (by decide +kernel)) (eva_cons tx_mono (tx_c (by decide +kernel)) eva_nil))))) fun v6 H6 x6 hv6 => ?_
    have x06 := ((((x1.trans x2).trans x3).trans x4).trans x5).trans x6
    refine q_seqP (s_forLA (i := 1) tx_mono rfl hv6 (fun σ' => ∃ t2, σ' = [some (.ref a), some v6, t2, none, none, none, none, none, none, none, none, none, none]) ⟨_, rfl⟩ (fun u σ' H7 x7 hs hu => ?_) (fun σ' H7 x7 hs => ?_))
    · obtain ⟨t2, rfl⟩ := hs
      obtain ⟨l, rfl, hl⟩ := hu
      refine g_name ?_
      exact ⟨_, rfl, l, rfl, hl, fun H8 x8 => ⟨true, rfl, iteF ⟨⟨_, rfl⟩, x7.trans x8⟩⟩⟩
    obtain ⟨t2, rfl⟩ := hs
    dsimp only
    have rD : ∀ {σ' : L2.St} {H' : Hp}, EvX K (askD none) (tLst (tCons (tC .non) (tCons (tLst (tCons (tLst (tCons (tC (.str "text")) tNil)) (tCons (tLst (tCons (tC (.bl true)) (tCons (tC (.bl false)) (tCons (tC (.bl false)) (tCons (tC (.bl false)) (tCons (tC (.bl false)) tNil)))))) tNil))) tNil))) σ' H' := ex_lst (exs_cons ex_non (exs_cons (ex_lst (exs_cons (ex_lst (exs_cons ex_str exs_nil)) (exs_cons (ex_lst (exs_cons ex_bl (exs_cons ex_bl (exs_cons ex_bl (exs_cons ex_bl (exs_cons ex_bl exs_nil)))))) exs_nil))) exs_nil))
    have rN : ∀ {σ' : L2.St} {H' : Hp}, EvX K numD (tLst (tCons (tLst (tCons (tC (.str "number")) tNil)) (tCons (tLst (tCons (tC (.bl true)) (tCons (tC (.bl false)) (tCons (tC (.bl false)) (tCons (tC (.bl false)) (tCons (tC (.bl false)) tNil)))))) tNil))) σ' H' := ex_lst (exs_cons (ex_lst (exs_cons ex_str exs_nil)) (exs_cons (ex_lst (exs_cons ex_bl (exs_cons ex_bl (exs_cons ex_bl (exs_cons ex_bl (exs_cons ex_bl exs_nil)))))) exs_nil))
    have ngX : ∀ {σ' : L2.St} {H' : Hp} {i : Int}, EvX K (.int (-i)) (tUn (rU fun i => .int (-i)) (tC (.int i))) σ' H' := fun {σ' H' i} => ex_of (ev_un ev_c ru_neg) fun _ _ => .int _
    refine q_seqP (s_forLP (P := NT K) (n := 8) nt_mono (elp_lst nt_mono (eva_cons nt_mono (nt_of ex_non (fun _ z => by cases z)) (eva_cons nt_mono (nt_of ex_bl (fun _ z => by cases z)) (eva_cons nt_mono (nt_of ex_int (fun _ z => by cases z)) (eva_cons nt_mono (nt_of ex_int (fun _ z => by cases z)) (eva_cons nt_mono (nt_of (ex_tup (exs_cons ex_int (exs_cons ngX exs_nil))) (fun _ z => by cases z)) (eva_cons nt_mono (nt_of (ex_lst (exs_cons ex_str exs_nil)) (fun _ z => by cases z)) (eva_cons nt_mono (nt_of (ex_tup (exs_cons ex_str exs_nil)) (fun _ z => by cases z)) (eva_cons nt_mono (nt_of (ex_tup exs_nil) (fun _ z => by cases z)) eva_nil)))))))))
      (fun σ' => ∃ t3 t4, σ' = [some (.ref a), some v6, t2, t3, t4, none, none, none, none, none, none, none, none]) ⟨_, _, rfl⟩ (fun H8 v σ' H9 x8 x9 hs hv => ?_) (fun σ' H8 x8 hs => ?_))
    · obtain ⟨t3, t4, rfl⟩ := hs
      refine g_name ?_
      refine ⟨2, rfl, by decide, by decide, for_range (lo := 0) (n := 2) (fun _ σ' H' => Ex H9 H' ∧ ∃ t4, σ' = [some (.ref a), some v6, t2, some v, t4, none, none, none, none, none, none, none, none]) ⟨Ex.refl H9, _, rfl⟩ (fun i σ' H10 hi hp => ?_) (fun σ' H10 hp => ?_)⟩
      · obtain ⟨x10, t4, rfl⟩ := hp
        refine g_name ?_
        refine s_when (ne_same (d := askD none) (fun H11 x11 Q q => ⟨.int (0 + (i : Int)), rfl, v, rfl, _, v, none, rfl, .inl ⟨rfl, noTx_ex (x10.trans x11) hv⟩, fun y H12 x12 hy => q y H12 x12 (ask_dp hy)⟩) rD (ask_shaped _) (ask_same _)) (fun z => by cases z) (fun _ H11 x11 => ⟨x10.trans x11, _, rfl⟩)
      · obtain ⟨x10, t4, rfl⟩ := hp
        exact ⟨⟨_, _, rfl⟩, x9.trans x10⟩
    obtain ⟨t3, t4, rfl⟩ := hs
    dsimp only
    refine q_seqP (s_forLP (P := NN K) (n := 13) nn_mono (elp_lst nn_mono (eva_cons nn_mono (nn_of ex_non rfl) (eva_cons nn_mono (nn_of ex_bl rfl) (eva_cons nn_mono (nn_of ex_int rfl) (eva_cons nn_mono (nn_of ex_str rfl)
      (eva_cons nn_mono (nn_of (ex_tup (exs_cons ex_int (exs_cons ex_int exs_nil))) rfl) (eva_cons nn_mono (nn_of (ex_tup (exs_cons ex_int (exs_cons ex_int exs_nil))) rfl) (eva_cons nn_mono (nn_of (ex_tup (exs_cons ex_int (exs_cons ex_bl exs_nil))) rfl) (eva_cons nn_mono (nn_of (ex_tup (exs_cons ex_bl (exs_cons ex_int exs_nil))) rfl)
      (eva_cons nn_mono (nn_of (ex_lst (exs_cons ex_int (exs_cons ex_int exs_nil))) rfl) (eva_cons nn_mono (nn_of (ex_tup (exs_cons ex_int (exs_cons ex_int (exs_cons ex_int exs_nil)))) rfl) (eva_cons nn_mono (nn_of (ex_tup (exs_cons ex_int exs_nil)) rfl) (eva_cons nn_mono (nn_of (ex_tup exs_nil) rfl) (eva_cons nn_mono (nn_of (ex_tup (exs_cons (ex_tup (exs_cons ex_int (exs_cons ex_int exs_nil))) exs_nil)) rfl) eva_nil))))))))))))))
      (fun σ' => ∃ t3 t4, σ' = [some (.ref a), some v6, t2, t3, t4, none, none, none, none, none, none, none, none]) ⟨_, _, rfl⟩ (fun H9 v σ' H10 x9 x10 hs hv => ?_) (fun σ' H9 x9 hs => ?_))
    · obtain ⟨t3, t4, rfl⟩ := hs
      refine g_name ?_
      refine ⟨2, rfl, by decide, by decide, for_range (lo := 0) (n := 2) (fun _ σ' H' => Ex H10 H' ∧ ∃ t4, σ' = [some (.ref a), some v6, t2, some v, t4, none, none, none, none, none, none, none, none]) ⟨Ex.refl H10, _, rfl⟩ (fun i σ' H11 hi hp => ?_) (fun σ' H11 hp => ?_)⟩
      · obtain ⟨x11, t4, rfl⟩ := hp
        refine g_name ?_
        refine s_when (ne_same (d := numD) (fun H12 x12 Q q => ⟨.int (0 + (i : Int)), rfl, v, rfl, _, v, rfl, num_ex (x11.trans x12) hv, fun y H13 x13 hy => q y H13 x13 (kind_dp hy)⟩) rN (by decide +kernel) (by decide +kernel)) (fun z => by cases z) (fun _ H12 x12 => ⟨x11.trans x12, _, rfl⟩)
      · obtain ⟨x11, t4, rfl⟩ := hp
        exact ⟨⟨_, _, rfl⟩, x10.trans x11⟩
    obtain ⟨t3, t4, rfl⟩ := hs
    dsimp only
    have hS9 : SqL K H9 a (ns.map V.int) := ex_l (((x06.trans x7).trans x8).trans x9) hS
    refine ⟨4, rfl, by decide, by decide, for_range (lo := 0) (n := 4) (fun _ σ' H' => SqL K H' a (ns.map V.int) ∧ ∃ t2 t5 t6 t7 t8 t9 t10 t11, σ' = [some (.ref a), some v6, t2, t3, t4, t5, t6, t7, t8, t9, t10, t11, none]) ⟨hS9, _, _, _, _, _, _, _, _, rfl⟩ (fun i σ' H10 hi hp => ?_) (fun σ' H10 hp => ?_)⟩
    · obtain ⟨hS1, t2, t5, t6, t7, t8, t9, t10, t11, rfl⟩ := hp
      refine g_name ?_
      refine ⟨.ref a, rfl, .int (0 + (i : Int)), rfl, a, ns, _, rfl, hS1, by omega, by omega, fun z => ⟨by show 1 ≤ sizeLine; decide, fun p hp => ?_⟩⟩
      have x2 := Ex.new (o := .lst [.int z]) hp
      have l2 : Pl p (upd H10 p (.lst [.int z])) := pl_upd
      have fp : H10 p = none := hp
      generalize upd H10 p (.lst [.int z]) = H11 at *
      refine g_name ?_
      dsimp only
      have hR : ∀ a b : Int, (-2 ^ 11 ≤ a ∧ a < 2 ^ 11) → (-20 ≤ b ∧ b ≤ 20) → (a.natAbs ≤ 2 ^ 200 ∧ -800 ≤ b ∧ b ≤ 799) ∧ Bd (nrm a b) 2000 := fun a b ha hb => by
        have h := vn_odd (m := a) (e := b) (by omega) hb.1 hb.2
        exact ⟨h, (draw_bd h.1 h.2.1 h.2.2).2.2⟩
      have vnof : ∀ {H' : Hp} {v : V}, (∃ a b : Int, (a.natAbs ≤ 2 ^ 200 ∧ -800 ≤ b ∧ b ≤ 799) ∧ Gn K H' v (nrm a b) 2000) → VN K H' v := fun ⟨a, b, h, g⟩ => ⟨_, g, (draw_bd h.1 h.2.1 h.2.2).1, (draw_bd h.1 h.2.1 h.2.2).2.1⟩
      refine k_asg (P := fun H v => ∃ a b : Int, (a.natAbs ≤ 2 ^ 200 ∧ -800 ≤ b ∧ b ≤ 799) ∧ Gn K H v (nrm a b) 2000) (evk_nof (S := fun z => -2 ^ 11 ≤ z ∧ z < 2 ^ 11) (T := fun z => -20 ≤ z ∧ z ≤ 20) (R := fun a b => a.natAbs ≤ 2 ^ 200 ∧ -800 ≤ b ∧ b ≤ 799)
        (evi_op (S := fun z => 0 ≤ z ∧ z < 2 ^ 12) (T := fun z => z = 2 ^ 11) (evi_take (N := fun z => z = 2 ^ 12) rfl (evi_opC (S := fun z => z = 2) (T := fun z => z = 12) (evi_c rfl) (evi_c rfl) (fun a b ha hb => by subst ha hb; exact ⟨by decide, by decide, by decide⟩) (fun a b ha hb => by subst ha hb; decide +kernel)) (fun n hn => by subst hn; exact ⟨by decide, log_small (k := 12) (by decide) (Int.le_refl _) (by decide)⟩) (fun n z hn a b => by subst hn; exact ⟨a, b⟩))
          (evi_opC (S := fun z => z = 2) (T := fun z => z = 11) (evi_c rfl) (evi_c rfl) (fun a b ha hb => by subst ha hb; exact ⟨by decide, by decide, by decide⟩) (fun a b ha hb => by subst ha hb; decide +kernel)) (fun a b ha hb => by subst hb; omega))
        (evi_op (S := fun z => 0 ≤ z ∧ z < 16) (T := fun z => z = 12) (evi_take (N := fun z => z = 16) rfl (evi_c rfl) (fun n hn => by subst hn; exact ⟨by decide, by decide⟩) (fun n z hn a b => by subst hn; exact ⟨a, b⟩)) (evi_c rfl) (fun a b ha hb => by subst hb; omega))
        (fun a b ha hb => hR a b ha hb)) l2 fun v7 H12 k12 l12 hv7 => ?_
      have vn7 := vnof hv7
      refine ⟨v7, rfl, .ref p, rfl, p, rfl, l12, fun u1 n1 H13 k13 l13 g13 b13 c13 => ?_⟩
      refine (evk_nof (K := K) (p := p) (σ := [some (.ref a), some v6, t2, t3, t4, some (.int (0 + (i : Int))), some (.ref p), some v7, t8, t9, t10, t11, none]) (H := H13) (S := fun z => 0 ≤ z ∧ z < 100) (T := fun z => z = -3) (R := fun a b => a.natAbs ≤ 2 ^ 200 ∧ -800 ≤ b ∧ b ≤ 799) (B := 2000) (evi_take (N := fun z => z = 100) rfl (evi_c rfl) (fun n hn => by subst hn; exact ⟨by decide, by decide⟩) (fun n z hn a b => by subst hn; exact ⟨a, b⟩)) (fun H' k' l' Q' q' => ⟨3, rfl, q' _ H' (Keeps.refl p H') l' ⟨_, rfl, rfl⟩⟩) (fun a b ha hb => hR a b (by omega) (by subst hb; decide))) H13 (Keeps.refl p H13) l13 _ fun u2 H14 k14 l14 hv14 => ?_
      have vn2 := vnof hv14
      have vn1 : VN K H14 u1 := vn_keep ⟨n1, g13, b13, c13⟩ l13 k14
      have vn0 : VN K H14 v7 := vn_keep (vn_keep vn7 l12 k13) l13 k14
      refine ⟨by show 3 ≤ sizeLine; decide, fun L hL => ?_⟩
      have y1 := Ex.new (o := .lst [v7, u1, u2]) hL
      have hLL : (upd H14 L (.lst [v7, u1, u2])) L = some (.lst [v7, u1, u2]) := upd_same
      have Lp : L ≠ p := fun e => by
        obtain ⟨x, hx⟩ := l14
        rw [e, hx] at hL
        cases hL
      have l15 := pl_ex l14 y1
      have all3 : ∀ v ∈ [v7, u1, u2], VN K (upd H14 L (.lst [v7, u1, u2])) v := fun v hv => by
        have ex : ∀ {v : V}, VN K H14 v → VN K (upd H14 L (.lst [v7, u1, u2])) v := fun ⟨n, g, h⟩ => ⟨n, g.ex y1, h⟩
        rcases List.mem_cons.mp hv with rfl | hv
        · exact ex vn0
        rcases List.mem_cons.mp hv with rfl | hv
        · exact ex vn1
        rcases List.mem_cons.mp hv with rfl | hv
        · exact ex vn2
        · cases hv
      have k15 : Keeps p H11 (upd H14 L (.lst [v7, u1, u2])) := ((k12.trans k13).trans k14).trans (keeps_ex y1)
      generalize upd H14 L (.lst [v7, u1, u2]) = H15 at *
      refine ⟨L, rfl, ⟨_, sq_of hLL⟩, for_list (xs := [v7, u1, u2]) (fun _ σ' H' => Keeps p H15 H' ∧ Pl p H' ∧ ∃ t2 t8 t9 t10 t11, σ' = [some (.ref a), some v6, t2, t3, t4, some (.int (0 + (i : Int))), some (.ref p), some v7, t8, t9, t10, t11, none]) ⟨Keeps.refl p H15, l15, _, _, _, _, _, rfl⟩ (fun j σ' H' _ hk => sq_of (hk.1 _ _ hLL Lp)) (fun j x σ' H16 hx hk => ?_) (fun σ' H16 hk => ?_)⟩
      · obtain ⟨k16, l16, t2, t8, t9, t10, t11, rfl⟩ := hk
        obtain ⟨n, gn, n1, n2⟩ := vn_keep (all3 x (List.mem_of_getElem? hx)) l15 k16
        refine g_name ?_
        refine ⟨x, rfl, x, n, rfl, gn, fun H17 x17 => ⟨x, rfl, x, n, rfl, gn.ex x17, n1, n2, fun H18 x18 => ⟨by show 2 ≤ sizeLine; decide, fun M hM => ?_⟩⟩⟩
        have y2 := Ex.new (o := .lst [.str (SX.S (ntx n)), .str (SX.S (dtx n))]) hM
        have hMM : (upd H18 M (.lst [.str (SX.S (ntx n)), .str (SX.S (dtx n))])) M = some (.lst [.str (SX.S (ntx n)), .str (SX.S (dtx n))]) := upd_same
        have l18 := pl_ex l16 (x17.trans x18)
        have Mp : M ≠ p := fun e => by
          obtain ⟨x, hx⟩ := l18
          rw [e, hx] at hM
          cases hM
        have l19 := pl_ex l18 y2
        have k19 : Keeps p H15 (upd H18 M (.lst [.str (SX.S (ntx n)), .str (SX.S (dtx n))])) := k16.trans (keeps_ex ((x17.trans x18).trans y2))
        generalize upd H18 M (.lst [.str (SX.S (ntx n)), .str (SX.S (dtx n))]) = H19 at *
        refine ⟨M, rfl, ⟨_, sq_of hMM⟩, for_list (xs := [.str (SX.S (ntx n)), .str (SX.S (dtx n))]) (fun _ σ' H' => Keeps p H19 H' ∧ Pl p H' ∧ ∃ t2 t9 t10 t11, σ' = [some (.ref a), some v6, t2, t3, t4, some (.int (0 + (i : Int))), some (.ref p), some v7, some x, t9, t10, t11, none]) ⟨Keeps.refl p H19, l19, _, _, _, _, rfl⟩ (fun j σ' H' _ hk => sq_of (hk.1 _ _ hMM Mp)) (fun j y σ' H20 hy hk => ?_) (fun σ' H20 hk => ?_)⟩
        · obtain ⟨k20, l20, t2, t9, t10, t11, rfl⟩ := hk
          obtain ⟨W, rfl, hW⟩ : ∃ W : List Nat, y = .str (SX.S W) ∧ W.length ≤ 3000 := by
            match j, hy with
            | 0, hy => exact ⟨_, (Option.some.inj hy).symm, ntx_len n1 n2⟩
            | 1, hy => exact ⟨_, (Option.some.inj hy).symm, dtx_len n1 n2⟩
            | j + 2, hy => simp at hy
          refine g_name ?_
          refine ⟨4, rfl, by decide, by decide, for_range (lo := 0) (n := 4) (fun _ σ' H' => Keeps p H20 H' ∧ Pl p H' ∧ ∃ t9 t10 t11, σ' = [some (.ref a), some v6, some (.str (SX.S W)), t3, t4, some (.int (0 + (i : Int))), some (.ref p), some v7, some x, t9, t10, t11, none]) ⟨Keeps.refl p H20, l20, _, _, _, rfl⟩ (fun jj σ' H21 hjj hk => ?_) (fun σ' H21 hk => ?_)⟩
          · obtain ⟨k21, l21, t9, t10, t11, rfl⟩ := hk
            refine g_name ?_
            refine ⟨.ref p, rfl, .str (SX.S W), rfl, p, W, rfl, l21, by omega, fun O H22 k22 l22 o1 o2 => ?_⟩
            refine g_name ?_
            dsimp only
            refine ⟨.ref p, rfl, .str (SX.S O), rfl, p, O, rfl, l22, by omega, fun U H23 k23 l23 u1 u2 => ?_⟩
            refine g_name ?_
            dsimp only
            have k2123 := (k21.trans k22).trans k23
            have lenO : ∀ {H' : Hp}, LenV K (.str (SX.S O)) H' O.length := fun {H'} => ⟨by rw [SX.S_len, sizeLine_eq]; omega, (SX.S_len O).symm⟩
            refine ⟨.str (SX.S O), rfl, _, O.length, rfl, lenO, _, 390, rfl, rfl, _, rfl, ite2 (fun z => ?_) (fun _ => iteF ⟨k2123, l23, _, _, _, rfl⟩)⟩
            have z : (O.length : Int) < 390 := of_decide_eq_true z
            refine (et_not (et_B (ev_allL (K := K) (bs := [true, true, true]) (σ := [some (.ref a), some v6, some (.str (SX.S W)), t3, t4, some (.int (0 + (i : Int))), some (.ref p), some v7, some x, some (.int (0 + (jj : Int))), some (.str (SX.S O)), some (.str (SX.S U)), none]) (H := H23) (el_lcNL (xs := [.str (SX.S W), .str (SX.S O), .str (SX.S U)]) (fun _ => true) (fun _ => .bl true) (el_lst (ea_cons (ev_var (i := 2) rfl) (ea_cons (ev_var (i := 10) rfl) (ea_cons (ev_var (i := 11) rfl) ea_nil))) (by show 3 ≤ 100000; decide)) (by show 3 ≤ 40000; decide) (fun x => rfl) (fun _ _ _ _ _ => fun H1 e Q q => q H1 (Ex.refl H1)) (fun jx y H' x' hy _ => ?_))))) H23 (Ex.refl H23) _ fun H24 x24 => iteF ⟨k2123.trans (keeps_ex x24), pl_ex l23 x24, _, _, _, rfl⟩
            obtain ⟨G, rfl, hG⟩ : ∃ G : List Nat, y = .str (SX.S G) ∧ G.length ≤ 600 := by
              match jx, hy with
              | 0, hy => exact ⟨W, (Option.some.inj hy).symm, by omega⟩
              | 1, hy => exact ⟨O, (Option.some.inj hy).symm, by omega⟩
              | 2, hy => exact ⟨U, (Option.some.inj hy).symm, by omega⟩
              | jx + 3, hy => simp at hy
            exact fun H1 e Q q => ⟨.str (SX.S G), rfl, G, rfl, hG, fun H2 e2 => q H2 e2⟩
          · obtain ⟨k21, l21, t9, t10, t11, rfl⟩ := hk
            exact ⟨k20.trans k21, l21, _, _, _, _, rfl⟩
        · obtain ⟨k20, l20, t2, t9, t10, t11, rfl⟩ := hk
          exact ⟨k19.trans k20, l20, _, _, _, _, _, rfl⟩
      · obtain ⟨k16, l16, t2, t8, t9, t10, t11, rfl⟩ := hk
        have k1116 := k15.trans k16
        have x7 : Ex H10 H16 := fun b o hb => k1116 b o (x2 b o hb) (ne_of_none hb fp)
        exact ⟨ex_l x7 hS1, _, _, _, _, _, _, _, _, rfl⟩
    · exact q H10
end
/-! ### the head -/
abbrev dP (x : Str) (s : Stmt) (ds : List He.Dv) : He.DefD := ⟨(x, none), x, x, defArgs s, defBody s, defScope s, ds, []⟩
abbrev dK (x : Str) (s : Stmt) (ds : List He.Dv) (kw : List (Str × He.Dv)) : He.DefD := ⟨(x, none), x, x, defArgs s, defBody s, defScope s, ds, kw⟩
abbrev dM (c m x : Str) (s : Stmt) : He.DefD := ⟨(c, some m), m, x, defArgs s, defBody s, defScope s, [], []⟩
def fn : List He.DefD := [dP "is_number" s_is_number [], dP "need_number" s_need_number [], dP "lowered" s_lowered [], dP "power_of" s_power_of [], dP "figures_of" s_figures_of [], dP "whole_text" s_whole_text [], dP "number_text" s_number_text [], dP "is_figures" s_is_figures [], dP "is_size" s_is_size [], dP "size_from" s_size_from [], dP "whole_of" s_whole_of [], dP "read_number" s_read_number [], dP "decimal_text" s_decimal_text [], dP "read_decimal" s_read_decimal [], dP "_law_fives" s_law_fives [], dP "_law_mixed" s_law_mixed [], dP "_law_cell" s_law_cell [], dP "_law_take" s_law_take [], dP "_law_odd" s_law_odd [], dP "_law_number" s_law_number [], dP "_law_kinds" s_law_kinds [], dP "_law_figures" s_law_figures [], dP "_law_due_number" s_law_due_number [], dP "_law_due_decimal" s_law_due_decimal [], dP "_law_asked" s_law_asked [], dP "_law_good" s_law_good [], dP "_law_bent" s_law_bent [], dP "_law_written" s_law_written [], dP "law" s_law []]
def fa : List He.Fa := [.glo "is_number", .glo "need_number", .glo "lowered", .glo "power_of", .glo "figures_of", .glo "whole_text", .glo "number_text", .glo "is_figures", .glo "is_size", .glo "size_from", .glo "whole_of", .glo "read_number", .glo "decimal_text", .glo "read_decimal", .glo "_law_fives", .glo "_law_mixed", .glo "_law_cell", .glo "_law_take", .glo "_law_odd", .glo "_law_number", .glo "_law_kinds", .glo "_law_figures", .glo "_law_due_number", .glo "_law_due_decimal", .glo "_law_asked", .glo "_law_good", .glo "_law_bent", .glo "_law_written", .glo "law", .free "isinstance", .free "len", .free "range", .free "int", .free "bool", .free "tuple", .free "str", .free "min", .free "max", .free "abs", .free "all", .free "ValueError", .free "LookupError", .free "ArithmeticError", .free "ZeroDivisionError", .free "OverflowError", .free "KeyError", .free "IndexError", .free "zip", .glo "NoNumber", .glo "NoForm", .glo "NoPlace", .glo "NoStretch", .glo "NoText", .glo "NoLine", .glo "NoWord", .glo "TooGreat", .glo "TooMany", .str "NUMBER_NEEDED" "a number (m, e) with an odd m, or (0, 0), is needed", .free "divmod", .int "PART" 60, .int "TEN_TO_PART" (10 ^ 60), .int "MOST_SIGNS" 300]
def ex (K : PySem.W.Frag) : Bool := (He.eqO (PySem.W.specialIn K (.builtin "object.__class__") "__get__") (some (some (.builtin "getset_descriptor.__get__"))) && (decide (PySem.W.takesIn K (.builtin "object.__class__") = some true) && (decide (PySem.W.exmAny K (.ref (He.ga K "NoText")) [.ref (He.ga K "NoText")] = some true) && (decide (PySem.W.exmAny K (.ref (He.ga K "NoNumber")) [.ref (He.ga K "NoNumber")] = some true) && (decide (PySem.W.subIn K (.ref (He.ga K "NoText")) (.type "BaseException") = some true) && (He.eqO (PySem.W.findIn K (.ref (He.ga K "NoText")) "__getattribute__") (some (some (.builtin "BaseException.__getattribute__"))) && (He.eqO (PySem.W.findIn K (.ref (He.ga K "NoText")) "__getattr__") (some none) && (PySem.W.hasDictIn K (He.ga K "NoText") && (He.eqO (PySem.W.findIn K (.ref (He.ga K "NoText")) "__class__") (some (some (.builtin "object.__class__"))) && (decide (PySem.W.mroIn K (He.ga K "NoText") (.type "object") = some true) && (decide (PySem.W.kitOne K (.ref (He.ga K "NoText")) (.ref (He.ga K "NoNumber")) = some false) && (decide (PySem.W.kitOne K (.ref (He.ga K "NoText")) (.ref (He.ga K "NoForm")) = some false) && (decide (PySem.W.kitOne K (.ref (He.ga K "NoText")) (.ref (He.ga K "NoPlace")) = some false) && (decide (PySem.W.kitOne K (.ref (He.ga K "NoText")) (.ref (He.ga K "NoStretch")) = some false) && (decide (PySem.W.kitOne K (.ref (He.ga K "NoText")) (.ref (He.ga K "NoText")) = some true) && (decide (PySem.W.kitOne K (.ref (He.ga K "NoText")) (.ref (He.ga K "NoLine")) = some false) && (decide (PySem.W.kitOne K (.ref (He.ga K "NoText")) (.ref (He.ga K "NoWord")) = some false) && (decide (PySem.W.kitOne K (.ref (He.ga K "NoText")) (.ref (He.ga K "TooGreat")) = some false) && (decide (PySem.W.kitOne K (.ref (He.ga K "NoText")) (.ref (He.ga K "TooMany")) = some false) && (decide (PySem.W.kitOne K (.ref (He.ga K "NoText")) (.type "ValueError") = some true) && (decide (PySem.W.kitOne K (.ref (He.ga K "NoText")) (.type "LookupError") = some false) && (decide (PySem.W.kitOne K (.ref (He.ga K "NoText")) (.type "ArithmeticError") = some false) && (decide (PySem.W.kitOne K (.ref (He.ga K "NoText")) (.type "ZeroDivisionError") = some false) && (decide (PySem.W.kitOne K (.ref (He.ga K "NoText")) (.type "OverflowError") = some false) && (decide (PySem.W.kitOne K (.ref (He.ga K "NoText")) (.type "KeyError") = some false) && (decide (PySem.W.kitOne K (.ref (He.ga K "NoText")) (.type "IndexError") = some false) && (PySem.W.excIn K (He.ga K "NoText") [.type "ValueError", .type "Exception", .type "BaseException", .type "object"] "ValueError.__new__" && (PySem.W.keepIn K (.ref (He.ga K "NoText")) && (decide (PySem.W.typeIn K (.ref (He.ga K "NoText")) = some (.type "type")) && (decide (PySem.W.exmOne K (.ref (He.ga K "NoText")) (.ref (He.ga K "NoText")) = some true) && (decide (PySem.W.subIn K (.ref (He.ga K "NoNumber")) (.type "BaseException") = some true) && (He.eqO (PySem.W.findIn K (.ref (He.ga K "NoNumber")) "__getattribute__") (some (some (.builtin "BaseException.__getattribute__"))) && (He.eqO (PySem.W.findIn K (.ref (He.ga K "NoNumber")) "__getattr__") (some none) && (PySem.W.hasDictIn K (He.ga K "NoNumber") && (He.eqO (PySem.W.findIn K (.ref (He.ga K "NoNumber")) "__class__") (some (some (.builtin "object.__class__"))) && (decide (PySem.W.mroIn K (He.ga K "NoNumber") (.type "object") = some true) && (decide (PySem.W.kitOne K (.ref (He.ga K "NoNumber")) (.ref (He.ga K "NoNumber")) = some true) && (decide (PySem.W.kitOne K (.ref (He.ga K "NoNumber")) (.ref (He.ga K "NoForm")) = some false) && (decide (PySem.W.kitOne K (.ref (He.ga K "NoNumber")) (.ref (He.ga K "NoPlace")) = some false) && (decide (PySem.W.kitOne K (.ref (He.ga K "NoNumber")) (.ref (He.ga K "NoStretch")) = some false) && (decide (PySem.W.kitOne K (.ref (He.ga K "NoNumber")) (.ref (He.ga K "NoText")) = some false) && (decide (PySem.W.kitOne K (.ref (He.ga K "NoNumber")) (.ref (He.ga K "NoLine")) = some false) && (decide (PySem.W.kitOne K (.ref (He.ga K "NoNumber")) (.ref (He.ga K "NoWord")) = some false) && (decide (PySem.W.kitOne K (.ref (He.ga K "NoNumber")) (.ref (He.ga K "TooGreat")) = some false) && (decide (PySem.W.kitOne K (.ref (He.ga K "NoNumber")) (.ref (He.ga K "TooMany")) = some false) && (decide (PySem.W.kitOne K (.ref (He.ga K "NoNumber")) (.type "ValueError") = some true) && (decide (PySem.W.kitOne K (.ref (He.ga K "NoNumber")) (.type "LookupError") = some false) && (decide (PySem.W.kitOne K (.ref (He.ga K "NoNumber")) (.type "ArithmeticError") = some false) && (decide (PySem.W.kitOne K (.ref (He.ga K "NoNumber")) (.type "ZeroDivisionError") = some false) && (decide (PySem.W.kitOne K (.ref (He.ga K "NoNumber")) (.type "OverflowError") = some false) && (decide (PySem.W.kitOne K (.ref (He.ga K "NoNumber")) (.type "KeyError") = some false) && (decide (PySem.W.kitOne K (.ref (He.ga K "NoNumber")) (.type "IndexError") = some false) && (PySem.W.excIn K (He.ga K "NoNumber") [.type "ValueError", .type "Exception", .type "BaseException", .type "object"] "ValueError.__new__" && (PySem.W.keepIn K (.ref (He.ga K "NoNumber")) && (decide (PySem.W.typeIn K (.ref (He.ga K "NoNumber")) = some (.type "type")) && (decide (PySem.W.exmOne K (.ref (He.ga K "NoNumber")) (.ref (He.ga K "NoNumber")) = some true) && true))))))))))))))))))))))))))))))))))))))))))))))))))))))))
abbrev R : PySem.W.OpenRow := PySem.W.OpenLaw.row PySem.Challenge.rw_oncenear_k81_whole_texts_of_numbers_bent
abbrev hk : PySem.W.Hook := He.hookX 5 fa fn [] [] ex
def ob (s : PySem.W.SharedT) : He.AlX := He.obsX 5 fa fn [] [] ex (HandSHeadRun.getT s)
theorem ob_eq (s : PySem.W.SharedT) : ob s = hk.obs s.abs := He.obsX_eq (HandSHeadRun.getT_eq s)
set_option maxHeartbeats 0 in
theorem run (w : World) : HandSHeadRun.RunEq R (PySem.W.view R.prog [46]) hk ob 4000 ((["NoNumber", "NoForm", "NoStretch", "NoText", "NoLine", "NoPlace", "NoWord", "TooGreat", "TooMany", "power_of", "is_number", "need_number", "lowered", "number_text", "read_number", "decimal_text", "read_decimal", "whole_text", "whole_of", "is_figures"] : List PySem.Str) ++ (["is_size", "size_from", "figures_of", "_law_fives", "_law_mixed", "_law_cell", "_law_take", "_law_odd", "_law_number", "_law_kinds", "_law_figures", "_law_due_number", "_law_due_decimal", "_law_asked", "_law_good", "_law_bent", "_law_written", "NUMBER_NEEDED", "MOST_SIGNS", "PART"] : List PySem.Str) ++ (["TEN_TO_PART"] : List PySem.Str)) w := by
  intro os
  kernel_rfl
theorem facts {P : Program} {w : World} {K : PySem.W.Frag} {h : Heap} {mg : Str → Option Value} {f : Addr} (X : K.In h) (G : h.Ns mainGlobals mg) (hfa : mg ("law" : Str) = some (.ref f)) (c : He.SaysX fa fn [] [] ex w h K) :
    ∃ fd : FuncData, (∀ (s : Shared) (v : Value), BindsTo s fd ⟨[v], []⟩ [("_law_script", v)]) ∧ ∀ base : Heap, K.In base → base.Ns mainGlobals mg → FnOk P w K mg base CX0 7 f fd ["_law_script"] (spLaw K) := by
  have cd := c.t.d
  have cm := c.more
  have T : Top mg := ⟨He.free_ok X G (cd.fact 29 (f := .free "isinstance") rfl), He.free_ok X G (cd.fact 30 (f := .free "len") rfl), He.free_ok X G (cd.fact 31 (f := .free "range") rfl), He.free_ok X G (cd.fact 32 (f := .free "int") rfl), He.free_ok X G (cd.fact 33 (f := .free "bool") rfl), He.free_ok X G (cd.fact 34 (f := .free "tuple") rfl), He.free_ok X G (cd.fact 35 (f := .free "str") rfl), He.free_ok X G (cd.fact 36 (f := .free "min") rfl), He.free_ok X G (cd.fact 37 (f := .free "max") rfl), He.free_ok X G (cd.fact 38 (f := .free "abs") rfl), He.free_ok X G (cd.fact 39 (f := .free "all") rfl)⟩
  unfold ex at cm
  obtain ⟨m0, cm⟩ := He.ba cm
  obtain ⟨m1, cm⟩ := He.ba cm
  obtain ⟨m2, cm⟩ := He.ba cm
  obtain ⟨m3, cm⟩ := He.ba cm
  obtain ⟨m4, cm⟩ := He.ba cm
  obtain ⟨m5, cm⟩ := He.ba cm
  obtain ⟨m6, cm⟩ := He.ba cm
  obtain ⟨m7, cm⟩ := He.ba cm
  obtain ⟨m8, cm⟩ := He.ba cm
  obtain ⟨m9, cm⟩ := He.ba cm
  obtain ⟨m10, cm⟩ := He.ba cm
  obtain ⟨m11, cm⟩ := He.ba cm
  obtain ⟨m12, cm⟩ := He.ba cm
  obtain ⟨m13, cm⟩ := He.ba cm
  obtain ⟨m14, cm⟩ := He.ba cm
  obtain ⟨m15, cm⟩ := He.ba cm
  obtain ⟨m16, cm⟩ := He.ba cm
  obtain ⟨m17, cm⟩ := He.ba cm
  obtain ⟨m18, cm⟩ := He.ba cm
  obtain ⟨m19, cm⟩ := He.ba cm
  obtain ⟨m20, cm⟩ := He.ba cm
  obtain ⟨m21, cm⟩ := He.ba cm
  obtain ⟨m22, cm⟩ := He.ba cm
  obtain ⟨m23, cm⟩ := He.ba cm
  obtain ⟨m24, cm⟩ := He.ba cm
  obtain ⟨m25, cm⟩ := He.ba cm
  obtain ⟨m26, cm⟩ := He.ba cm
  obtain ⟨m27, cm⟩ := He.ba cm
  obtain ⟨m28, cm⟩ := He.ba cm
  obtain ⟨m29, cm⟩ := He.ba cm
  obtain ⟨m30, cm⟩ := He.ba cm
  obtain ⟨m31, cm⟩ := He.ba cm
  obtain ⟨m32, cm⟩ := He.ba cm
  obtain ⟨m33, cm⟩ := He.ba cm
  obtain ⟨m34, cm⟩ := He.ba cm
  obtain ⟨m35, cm⟩ := He.ba cm
  obtain ⟨m36, cm⟩ := He.ba cm
  obtain ⟨m37, cm⟩ := He.ba cm
  obtain ⟨m38, cm⟩ := He.ba cm
  obtain ⟨m39, cm⟩ := He.ba cm
  obtain ⟨m40, cm⟩ := He.ba cm
  obtain ⟨m41, cm⟩ := He.ba cm
  obtain ⟨m42, cm⟩ := He.ba cm
  obtain ⟨m43, cm⟩ := He.ba cm
  obtain ⟨m44, cm⟩ := He.ba cm
  obtain ⟨m45, cm⟩ := He.ba cm
  obtain ⟨m46, cm⟩ := He.ba cm
  obtain ⟨m47, cm⟩ := He.ba cm
  obtain ⟨m48, cm⟩ := He.ba cm
  obtain ⟨m49, cm⟩ := He.ba cm
  obtain ⟨m50, cm⟩ := He.ba cm
  obtain ⟨m51, cm⟩ := He.ba cm
  obtain ⟨m52, cm⟩ := He.ba cm
  obtain ⟨m53, cm⟩ := He.ba cm
  obtain ⟨m54, cm⟩ := He.ba cm
  obtain ⟨m55, cm⟩ := He.ba cm
  obtain ⟨fd0, F0⟩ := cd.def_ 0 (d := dP "is_number" s_is_number []) rfl
  obtain ⟨fd1, F1⟩ := cd.def_ 1 (d := dP "need_number" s_need_number []) rfl
  obtain ⟨fd2, F2⟩ := cd.def_ 2 (d := dP "lowered" s_lowered []) rfl
  obtain ⟨fd3, F3⟩ := cd.def_ 3 (d := dP "power_of" s_power_of []) rfl
  obtain ⟨fd4, F4⟩ := cd.def_ 4 (d := dP "figures_of" s_figures_of []) rfl
  obtain ⟨fd5, F5⟩ := cd.def_ 5 (d := dP "whole_text" s_whole_text []) rfl
  obtain ⟨fd6, F6⟩ := cd.def_ 6 (d := dP "number_text" s_number_text []) rfl
  obtain ⟨fd7, F7⟩ := cd.def_ 7 (d := dP "is_figures" s_is_figures []) rfl
  obtain ⟨fd8, F8⟩ := cd.def_ 8 (d := dP "is_size" s_is_size []) rfl
  obtain ⟨fd9, F9⟩ := cd.def_ 9 (d := dP "size_from" s_size_from []) rfl
  obtain ⟨fd10, F10⟩ := cd.def_ 10 (d := dP "whole_of" s_whole_of []) rfl
  obtain ⟨fd11, F11⟩ := cd.def_ 11 (d := dP "read_number" s_read_number []) rfl
  obtain ⟨fd12, F12⟩ := cd.def_ 12 (d := dP "decimal_text" s_decimal_text []) rfl
  obtain ⟨fd13, F13⟩ := cd.def_ 13 (d := dP "read_decimal" s_read_decimal []) rfl
  obtain ⟨fd14, F14⟩ := cd.def_ 14 (d := dP "_law_fives" s_law_fives []) rfl
  obtain ⟨fd15, F15⟩ := cd.def_ 15 (d := dP "_law_mixed" s_law_mixed []) rfl
  obtain ⟨fd16, F16⟩ := cd.def_ 16 (d := dP "_law_cell" s_law_cell []) rfl
  obtain ⟨fd17, F17⟩ := cd.def_ 17 (d := dP "_law_take" s_law_take []) rfl
  obtain ⟨fd18, F18⟩ := cd.def_ 18 (d := dP "_law_odd" s_law_odd []) rfl
  obtain ⟨fd19, F19⟩ := cd.def_ 19 (d := dP "_law_number" s_law_number []) rfl
  obtain ⟨fd20, F20⟩ := cd.def_ 20 (d := dP "_law_kinds" s_law_kinds []) rfl
  obtain ⟨fd21, F21⟩ := cd.def_ 21 (d := dP "_law_figures" s_law_figures []) rfl
  obtain ⟨fd22, F22⟩ := cd.def_ 22 (d := dP "_law_due_number" s_law_due_number []) rfl
  obtain ⟨fd23, F23⟩ := cd.def_ 23 (d := dP "_law_due_decimal" s_law_due_decimal []) rfl
  obtain ⟨fd24, F24⟩ := cd.def_ 24 (d := dP "_law_asked" s_law_asked []) rfl
  obtain ⟨fd25, F25⟩ := cd.def_ 25 (d := dP "_law_good" s_law_good []) rfl
  obtain ⟨fd26, F26⟩ := cd.def_ 26 (d := dP "_law_bent" s_law_bent []) rfl
  obtain ⟨fd27, F27⟩ := cd.def_ 27 (d := dP "_law_written" s_law_written []) rfl
  obtain ⟨fd28, F28⟩ := cd.def_ 28 (d := dP "law" s_law []) rfl
  have e := hfa.symm.trans (He.glo_ok X G (cd.fact 28 (f := .glo "law") rfl))
  cases e
  have b := FunD.bindsA (ps := ["_law_script"]) F28 fun _ _ _ _ _ _ us hl => match us, hl with | [_], _ => rfl
  have TX : TopX mg := ⟨He.free_ok X G (cd.fact 40 (f := .free "ValueError") rfl), He.free_ok X G (cd.fact 41 (f := .free "LookupError") rfl), He.free_ok X G (cd.fact 42 (f := .free "ArithmeticError") rfl), He.free_ok X G (cd.fact 43 (f := .free "ZeroDivisionError") rfl), He.free_ok X G (cd.fact 44 (f := .free "OverflowError") rfl), He.free_ok X G (cd.fact 45 (f := .free "KeyError") rfl), He.free_ok X G (cd.fact 46 (f := .free "IndexError") rfl), He.free_ok X G (cd.fact 47 (f := .free "zip") rfl)⟩
  have S_NoNumber : GlM mg "NoNumber" (He.ga K "NoNumber") := ⟨He.glo_ok X G (cd.fact 48 (f := .glo "NoNumber") rfl)⟩
  have S_NoForm : GlM mg "NoForm" (He.ga K "NoForm") := ⟨He.glo_ok X G (cd.fact 49 (f := .glo "NoForm") rfl)⟩
  have S_NoPlace : GlM mg "NoPlace" (He.ga K "NoPlace") := ⟨He.glo_ok X G (cd.fact 50 (f := .glo "NoPlace") rfl)⟩
  have S_NoStretch : GlM mg "NoStretch" (He.ga K "NoStretch") := ⟨He.glo_ok X G (cd.fact 51 (f := .glo "NoStretch") rfl)⟩
  have S_NoText : GlM mg "NoText" (He.ga K "NoText") := ⟨He.glo_ok X G (cd.fact 52 (f := .glo "NoText") rfl)⟩
  have S_NoLine : GlM mg "NoLine" (He.ga K "NoLine") := ⟨He.glo_ok X G (cd.fact 53 (f := .glo "NoLine") rfl)⟩
  have S_NoWord : GlM mg "NoWord" (He.ga K "NoWord") := ⟨He.glo_ok X G (cd.fact 54 (f := .glo "NoWord") rfl)⟩
  have S_TooGreat : GlM mg "TooGreat" (He.ga K "TooGreat") := ⟨He.glo_ok X G (cd.fact 55 (f := .glo "TooGreat") rfl)⟩
  have S_TooMany : GlM mg "TooMany" (He.ga K "TooMany") := ⟨He.glo_ok X G (cd.fact 56 (f := .glo "TooMany") rfl)⟩
  have XT := of_decide_eq_true m2
  have XN := of_decide_eq_true m3
  have XC_NoText : ExcC K (He.ga K "NoText") := ⟨He.eqO_ok m5, He.eqO_ok m6, of_decide_eq_true m4, m7, He.eqO_ok m8, He.eqO_ok m0, of_decide_eq_true m1, of_decide_eq_true m9⟩
  have nine_NoText : ∀ (j : Nat) (C : Addr) (b : Bool), ([(He.ga K "NoNumber"), (He.ga K "NoForm"), (He.ga K "NoPlace"), (He.ga K "NoStretch"), (He.ga K "NoText"), (He.ga K "NoLine"), (He.ga K "NoWord"), (He.ga K "TooGreat"), (He.ga K "TooMany")] : List Addr)[j]? = some C → ([false, false, false, false, true, false, false, false, false] : List Bool)[j]? = some b → PySem.W.kitOne K (.ref (He.ga K "NoText")) (.ref C) = some b := fun j C b h1 h2 => match j, h1, h2 with | 0, h1, h2 => by cases (Option.some.inj h1); cases (Option.some.inj h2); exact of_decide_eq_true m10 | 1, h1, h2 => by cases (Option.some.inj h1); cases (Option.some.inj h2); exact of_decide_eq_true m11 | 2, h1, h2 => by cases (Option.some.inj h1); cases (Option.some.inj h2); exact of_decide_eq_true m12 | 3, h1, h2 => by cases (Option.some.inj h1); cases (Option.some.inj h2); exact of_decide_eq_true m13 | 4, h1, h2 => by cases (Option.some.inj h1); cases (Option.some.inj h2); exact of_decide_eq_true m14 | 5, h1, h2 => by cases (Option.some.inj h1); cases (Option.some.inj h2); exact of_decide_eq_true m15 | 6, h1, h2 => by cases (Option.some.inj h1); cases (Option.some.inj h2); exact of_decide_eq_true m16 | 7, h1, h2 => by cases (Option.some.inj h1); cases (Option.some.inj h2); exact of_decide_eq_true m17 | 8, h1, h2 => by cases (Option.some.inj h1); cases (Option.some.inj h2); exact of_decide_eq_true m18 | j + 9, h1, h2 => by simp at h1
  have KD_NoText : KindsOf K (He.ga K "NoText") [(He.ga K "NoNumber"), (He.ga K "NoForm"), (He.ga K "NoPlace"), (He.ga K "NoStretch"), (He.ga K "NoText"), (He.ga K "NoLine"), (He.ga K "NoWord"), (He.ga K "TooGreat"), (He.ga K "TooMany")] [false, false, false, false, true, false, false, false, false] true false false false false false false := ⟨XC_NoText, nine_NoText, rfl, of_decide_eq_true m19, of_decide_eq_true m20, of_decide_eq_true m21, of_decide_eq_true m22, of_decide_eq_true m23, of_decide_eq_true m24, of_decide_eq_true m25⟩
  have R_NoText : RaC K mg "NoText" (He.ga K "NoText") := ⟨S_NoText.m, m26, m27, of_decide_eq_true m4, of_decide_eq_true m28, of_decide_eq_true m29⟩
  have XC_NoNumber : ExcC K (He.ga K "NoNumber") := ⟨He.eqO_ok m31, He.eqO_ok m32, of_decide_eq_true m30, m33, He.eqO_ok m34, He.eqO_ok m0, of_decide_eq_true m1, of_decide_eq_true m35⟩
  have nine_NoNumber : ∀ (j : Nat) (C : Addr) (b : Bool), ([(He.ga K "NoNumber"), (He.ga K "NoForm"), (He.ga K "NoPlace"), (He.ga K "NoStretch"), (He.ga K "NoText"), (He.ga K "NoLine"), (He.ga K "NoWord"), (He.ga K "TooGreat"), (He.ga K "TooMany")] : List Addr)[j]? = some C → ([true, false, false, false, false, false, false, false, false] : List Bool)[j]? = some b → PySem.W.kitOne K (.ref (He.ga K "NoNumber")) (.ref C) = some b := fun j C b h1 h2 => match j, h1, h2 with | 0, h1, h2 => by cases (Option.some.inj h1); cases (Option.some.inj h2); exact of_decide_eq_true m36 | 1, h1, h2 => by cases (Option.some.inj h1); cases (Option.some.inj h2); exact of_decide_eq_true m37 | 2, h1, h2 => by cases (Option.some.inj h1); cases (Option.some.inj h2); exact of_decide_eq_true m38 | 3, h1, h2 => by cases (Option.some.inj h1); cases (Option.some.inj h2); exact of_decide_eq_true m39 | 4, h1, h2 => by cases (Option.some.inj h1); cases (Option.some.inj h2); exact of_decide_eq_true m40 | 5, h1, h2 => by cases (Option.some.inj h1); cases (Option.some.inj h2); exact of_decide_eq_true m41 | 6, h1, h2 => by cases (Option.some.inj h1); cases (Option.some.inj h2); exact of_decide_eq_true m42 | 7, h1, h2 => by cases (Option.some.inj h1); cases (Option.some.inj h2); exact of_decide_eq_true m43 | 8, h1, h2 => by cases (Option.some.inj h1); cases (Option.some.inj h2); exact of_decide_eq_true m44 | j + 9, h1, h2 => by simp at h1
  have KD_NoNumber : KindsOf K (He.ga K "NoNumber") [(He.ga K "NoNumber"), (He.ga K "NoForm"), (He.ga K "NoPlace"), (He.ga K "NoStretch"), (He.ga K "NoText"), (He.ga K "NoLine"), (He.ga K "NoWord"), (He.ga K "TooGreat"), (He.ga K "TooMany")] [true, false, false, false, false, false, false, false, false] true false false false false false false := ⟨XC_NoNumber, nine_NoNumber, rfl, of_decide_eq_true m45, of_decide_eq_true m46, of_decide_eq_true m47, of_decide_eq_true m48, of_decide_eq_true m49, of_decide_eq_true m50, of_decide_eq_true m51⟩
  have R_NoNumber : RaC K mg "NoNumber" (He.ga K "NoNumber") := ⟨S_NoNumber.m, m52, m53, of_decide_eq_true m30, of_decide_eq_true m54, of_decide_eq_true m55⟩
  obtain ⟨tN, m_NUM⟩ := He.str_ok X G (cd.fact 57 (f := .str "NUMBER_NEEDED" "a number (m, e) with an odd m, or (0, 0), is needed") rfl)
  have T_divmod := He.free_ok X G (cd.fact 58 (f := .free "divmod") rfl)
  obtain ⟨tP, m_PART⟩ := He.int_ok X G (cd.fact 59 (f := .int "PART" 60) rfl)
  obtain ⟨tT, m_TEN⟩ := He.int_ok X G (cd.fact 60 (f := .int "TEN_TO_PART" (10 ^ 60)) rfl)
  obtain ⟨tM, m_SIGNS⟩ := He.int_ok X G (cd.fact 61 (f := .int "MOST_SIGNS" 300) rfl)
  refine ⟨fd28, fun s v => b s [v] rfl, fun base _ _ => ?_⟩
  have c0 : Cal P w K mg base CX0 1 "is_number" ["thing"] (spNum K) _ fd0 := ⟨ok_is_number T F0, He.glo_ok X G (cd.fact 0 (f := .glo "is_number") rfl), F0.kp, F0.bindsN fun _ _ _ _ _ _ us hl => match us, hl with | [_], _ => rfl⟩
  have c1 : Cal P w K mg base CX0 2 "need_number" ["thing"] (spNeed K) _ fd1 := ⟨ok_need_number T F1 c0, He.glo_ok X G (cd.fact 1 (f := .glo "need_number") rfl), F1.kp, F1.bindsN fun _ _ _ _ _ _ us hl => match us, hl with | [_], _ => rfl⟩
  have x_need_number : Cal P w K mg base (L2N.CX P w) 2 "need_number" ["thing"] (spNeedX K (He.ga K "NoNumber")) _ fd1 := ⟨okX_need_number T R_NoNumber m_NUM F1 c0, (He.glo_ok X G (cd.fact 1 (f := .glo "need_number") rfl)), F1.kp, (F1.bindsN fun _ _ _ _ _ _ us hl => match us, hl with | [_], _ => rfl)⟩
  have c2 : Cal P w K mg base CX0 1 "lowered" ["m", "e"] spNof _ fd2 := ⟨ok_lowered T F2, He.glo_ok X G (cd.fact 2 (f := .glo "lowered") rfl), F2.kp, F2.bindsN fun _ _ _ _ _ _ us hl => match us, hl with | [_, _], _ => rfl⟩
  have c3 : Cal P w K mg base CX0 1 "power_of" ["base", "k"] spPow _ fd3 := ⟨ok_power_of T F3, He.glo_ok X G (cd.fact 3 (f := .glo "power_of") rfl), F3.kp, F3.bindsN fun _ _ _ _ _ _ us hl => match us, hl with | [_, _], _ => rfl⟩
  have c4 : Cal P w K mg base CX0 1 "figures_of" ["size"] spFigs _ fd4 := ⟨ok_figures_of T T_divmod m_PART m_TEN F4, He.glo_ok X G (cd.fact 4 (f := .glo "figures_of") rfl), F4.kp, F4.bindsN fun _ _ _ _ _ _ us hl => match us, hl with | [_], _ => rfl⟩
  have c5 : Cal P w K mg base CX0 2 "whole_text" ["whole"] spWt _ fd5 := ⟨ok_whole_text T F5 c4, He.glo_ok X G (cd.fact 5 (f := .glo "whole_text") rfl), F5.kp, F5.bindsN fun _ _ _ _ _ _ us hl => match us, hl with | [_], _ => rfl⟩
  have c6 : Cal P w K mg base CX0 3 "number_text" ["number"] (spNt K) _ fd6 := ⟨ok_number_text T F6 c1 c5, He.glo_ok X G (cd.fact 6 (f := .glo "number_text") rfl), F6.kp, F6.bindsN fun _ _ _ _ _ _ us hl => match us, hl with | [_], _ => rfl⟩
  have x_number_text : Cal P w K mg base (L2N.CX P w) 3 "number_text" ["number"] (spTextX K (He.ga K "NoNumber")) _ fd6 := ⟨okX_number_text T F6 x_need_number, (He.glo_ok X G (cd.fact 6 (f := .glo "number_text") rfl)), F6.kp, (F6.bindsN fun _ _ _ _ _ _ us hl => match us, hl with | [_], _ => rfl)⟩
  have c7 : Cal P w K mg base CX0 1 "is_figures" ["text"] spIsFG _ fd7 := ⟨ok_is_figures T F7, He.glo_ok X G (cd.fact 7 (f := .glo "is_figures") rfl), F7.kp, F7.bindsN fun _ _ _ _ _ _ us hl => match us, hl with | [_], _ => rfl⟩
  have c8 : Cal P w K mg base CX0 2 "is_size" ["text"] spIsSG _ fd8 := ⟨ok_is_size T F8 c7, He.glo_ok X G (cd.fact 8 (f := .glo "is_size") rfl), F8.kp, F8.bindsN fun _ _ _ _ _ _ us hl => match us, hl with | [_], _ => rfl⟩
  have c9 : Cal P w K mg base CX0 1 "size_from" ["figures"] spSf _ fd9 := ⟨ok_size_from T m_PART m_TEN F9, He.glo_ok X G (cd.fact 9 (f := .glo "size_from") rfl), F9.kp, F9.bindsN fun _ _ _ _ _ _ us hl => match us, hl with | [_], _ => rfl⟩
  have c10 : Cal P w K mg base CX0 3 "whole_of" ["text"] spWoG _ fd10 := ⟨ok_whole_of T F10 c8 c9, He.glo_ok X G (cd.fact 10 (f := .glo "whole_of") rfl), F10.kp, F10.bindsN fun _ _ _ _ _ _ us hl => match us, hl with | [_], _ => rfl⟩
  have x_read_number : Cal P w K mg base (L2N.CX P w) 4 "read_number" ["text"] (spRdG K (He.ga K "NoText") rnO) _ fd11 := ⟨okX_read_number T R_NoText F11 c10 c0, (He.glo_ok X G (cd.fact 11 (f := .glo "read_number") rfl)), F11.kp, (F11.bindsN fun _ _ _ _ _ _ us hl => match us, hl with | [_], _ => rfl)⟩
  have c12 : Cal P w K mg base CX0 3 "decimal_text" ["number"] (spDt K) _ fd12 := ⟨ok_decimal_text T F12 c1 c4 c3, He.glo_ok X G (cd.fact 12 (f := .glo "decimal_text") rfl), F12.kp, F12.bindsN fun _ _ _ _ _ _ us hl => match us, hl with | [_], _ => rfl⟩
  have x_decimal_text : Cal P w K mg base (L2N.CX P w) 3 "decimal_text" ["number"] (spTextX K (He.ga K "NoNumber")) _ fd12 := ⟨okX_decimal_text T F12 x_need_number, (He.glo_ok X G (cd.fact 12 (f := .glo "decimal_text") rfl)), F12.kp, (F12.bindsN fun _ _ _ _ _ _ us hl => match us, hl with | [_], _ => rfl)⟩
  have x_read_decimal : Cal P w K mg base (L2N.CX P w) 4 "read_decimal" ["text"] (spRdG K (He.ga K "NoText") rdO) _ fd13 := ⟨okX_read_decimal T R_NoText m_SIGNS F13 c8 c7 c9 c3 c2, (He.glo_ok X G (cd.fact 13 (f := .glo "read_decimal") rfl)), F13.kp, (F13.bindsN fun _ _ _ _ _ _ us hl => match us, hl with | [_], _ => rfl)⟩
  have c14 : Cal P w K mg base CX0 1 "_law_fives" ["_law_k"] spFv _ fd14 := ⟨ok_law_fives T F14, He.glo_ok X G (cd.fact 14 (f := .glo "_law_fives") rfl), F14.kp, F14.bindsN fun _ _ _ _ _ _ us hl => match us, hl with | [_], _ => rfl⟩
  have c15 : Cal P w K mg base CX0 1 "_law_mixed" ["_law_cell_here", "_law_k"] spMix _ fd15 := ⟨ok_law_mixed T F15, He.glo_ok X G (cd.fact 15 (f := .glo "_law_mixed") rfl), F15.kp, F15.bindsN fun _ _ _ _ _ _ us hl => match us, hl with | [_, _], _ => rfl⟩
  have c16 : Cal P w K mg base CX0 2 "_law_cell" ["_law_script", "_law_k"] (spCel K) _ fd16 := ⟨ok_law_cell T F16 c15, He.glo_ok X G (cd.fact 16 (f := .glo "_law_cell") rfl), F16.kp, F16.bindsN fun _ _ _ _ _ _ us hl => match us, hl with | [_, _], _ => rfl⟩
  have c17 : Cal P w K mg base CX0 1 "_law_take" ["_law_pile", "_law_size"] spTake _ fd17 := ⟨ok_law_take T F17, He.glo_ok X G (cd.fact 17 (f := .glo "_law_take") rfl), F17.kp, F17.bindsN fun _ _ _ _ _ _ us hl => match us, hl with | [_, _], _ => rfl⟩
  have c18 : Cal P w K mg base CX0 1 "_law_odd" ["_law_m", "_law_e"] spNof _ fd18 := ⟨ok_law_odd T F18, He.glo_ok X G (cd.fact 18 (f := .glo "_law_odd") rfl), F18.kp, F18.bindsN fun _ _ _ _ _ _ us hl => match us, hl with | [_, _], _ => rfl⟩
  have c19 : Cal P w K mg base CX0 2 "_law_number" ["_law_pile"] (spLn K) _ fd19 := ⟨ok_law_number T F19 c17 c18, He.glo_ok X G (cd.fact 19 (f := .glo "_law_number") rfl), F19.kp, F19.bindsN fun _ _ _ _ _ _ us hl => match us, hl with | [_], _ => rfl⟩
  have k_kinds : FnE P w K mg base CX0 1 _ (spKinds K [(He.ga K "NoNumber"), (He.ga K "NoForm"), (He.ga K "NoPlace"), (He.ga K "NoStretch"), (He.ga K "NoText"), (He.ga K "NoLine"), (He.ga K "NoWord"), (He.ga K "TooGreat"), (He.ga K "TooMany")]) := ok_law_kinds T TX S_NoNumber S_NoForm S_NoPlace S_NoStretch S_NoText S_NoLine S_NoWord S_TooGreat S_TooMany F20 (F20.bindsN fun _ _ _ _ _ _ us hl => match us, hl with | [_], _ => rfl)
  have c21 : Cal P w K mg base CX0 1 "_law_figures" ["_law_wording"] spLf _ fd21 := ⟨ok_law_figures T F21, He.glo_ok X G (cd.fact 21 (f := .glo "_law_figures") rfl), F21.kp, F21.bindsN fun _ _ _ _ _ _ us hl => match us, hl with | [_], _ => rfl⟩
  have c22 : Cal P w K mg base CX0 2 "_law_due_number" ["_law_wording"] (spDue K rnO) _ fd22 := ⟨ok_law_due_number T F22 c21, He.glo_ok X G (cd.fact 22 (f := .glo "_law_due_number") rfl), F22.kp, F22.bindsN fun _ _ _ _ _ _ us hl => match us, hl with | [_], _ => rfl⟩
  have c23 : Cal P w K mg base CX0 2 "_law_due_decimal" ["_law_wording"] (spDue K rdO) _ fd23 := ⟨ok_law_due_decimal T F23 c21 c14 c18, He.glo_ok X G (cd.fact 23 (f := .glo "_law_due_decimal") rfl), F23.kp, F23.bindsN fun _ _ _ _ _ _ us hl => match us, hl with | [_], _ => rfl⟩
  have c24 : Cal P w K mg base CX0 5 "_law_asked" ["_law_which", "_law_wording"] (spAsk K) _ fd24 := ⟨ok_law_asked T S_NoText.m XT KD_NoText F24 x_read_number x_read_decimal k_kinds (He.glo_ok X G (cd.fact 20 (f := .glo "_law_kinds") rfl)) F20.kp, He.glo_ok X G (cd.fact 24 (f := .glo "_law_asked") rfl), F24.kp, F24.bindsN fun _ _ _ _ _ _ us hl => match us, hl with | [_, _], _ => rfl⟩
  have c25 : Cal P w K mg base CX0 6 "_law_good" ["_law_wording"] spGood81 _ fd25 := ⟨ok_law_good T F25 c22 c23 c24, He.glo_ok X G (cd.fact 25 (f := .glo "_law_good") rfl), F25.kp, F25.bindsN fun _ _ _ _ _ _ us hl => match us, hl with | [_], _ => rfl⟩
  have c26 : Cal P w K mg base CX0 2 "_law_bent" ["_law_pile", "_law_wording"] spBent _ fd26 := ⟨ok_law_bent T F26 c17, He.glo_ok X G (cd.fact 26 (f := .glo "_law_bent") rfl), F26.kp, F26.bindsN fun _ _ _ _ _ _ us hl => match us, hl with | [_, _], _ => rfl⟩
  have c27 : Cal P w K mg base CX0 4 "_law_written" ["_law_which", "_law_odd_here"] (spWr K) _ fd27 := ⟨ok_law_written T S_NoNumber.m XN KD_NoNumber F27 x_number_text x_decimal_text k_kinds (He.glo_ok X G (cd.fact 20 (f := .glo "_law_kinds") rfl)) F20.kp, He.glo_ok X G (cd.fact 27 (f := .glo "_law_written") rfl), F27.kp, F27.bindsN fun _ _ _ _ _ _ us hl => match us, hl with | [_, _], _ => rfl⟩
  exact ok_law T F28 c16 c6 c12 c17 c18 c19 c25 c24 c27 c26
end Onc
open PySem PySem.W PySem.Calls PyProof.Rows
set_option maxRecDepth 100000 in
set_option maxHeartbeats 0 in
theorem PySem.Challenge.cw_oncenear_k81_whole_texts_of_numbers_bent_holds : PySem.Challenge.rw_oncenear_k81_whole_texts_of_numbers_bent.Holds := by
  w_on; o_law
  refine HandSHeadRun.head_any (r := OpenLaw.row PySem.Challenge.rw_oncenear_k81_whole_texts_of_numbers_bent) (q := view (OpenLaw.row PySem.Challenge.rw_oncenear_k81_whole_texts_of_numbers_bent).prog [46]) (H := Onc.hk) (ob := Onc.ob) (M := 4000) (loose := ((["NoNumber", "NoForm", "NoStretch", "NoText", "NoLine", "NoPlace", "NoWord", "TooGreat", "TooMany", "power_of", "is_number", "need_number", "lowered", "number_text", "read_number", "decimal_text", "read_decimal", "whole_text", "whole_of", "is_figures"] : List PySem.Str) ++ (["is_size", "size_from", "figures_of", "_law_fives", "_law_mixed", "_law_cell", "_law_take", "_law_odd", "_law_number", "_law_kinds", "_law_figures", "_law_due_number", "_law_due_decimal", "_law_asked", "_law_good", "_law_bent", "_law_written", "NUMBER_NEEDED", "MOST_SIGNS", "PART"] : List PySem.Str) ++ (["TEN_TO_PART"] : List PySem.Str))) (d := HandSHeadRun.topDef (OpenLaw.row PySem.Challenge.rw_oncenear_k81_whole_texts_of_numbers_bent).prog 46) (kwd := []) Onc.ob_eq
    (by kernel_rfl) (fun s => by kernel_rfl) Onc.run (by kernel_rfl) (by kernel_rfl) (by kernel_rfl) (by rfl) (by first | assumption | decide +kernel) (by decide +kernel) ⟨rfl, rfl, rfl, rfl, rfl, by decide +kernel⟩ ?hw ?hc
  case hw => w_witness2
  case hc =>
    refine L2.walk_ofE (l := PySem.Challenge.rw_oncenear_k81_whole_texts_of_numbers_bent) (n := 63) (k := 7) (x := "_law_script") (CX := L2.CX0) rfl (by decide) (by kernel_rfl) ⟨rfl, by decide, by decide⟩ ?F (fun _ _ _ _ z => z)
    intro w mg fa h Y G hmg0
    obtain ⟨K, KX, c⟩ := Y
    have hmg : mg ("law" : PySem.Str) = some (.ref fa) := by
      have e : (HandSHeadRun.topDef (OpenLaw.row PySem.Challenge.rw_oncenear_k81_whole_texts_of_numbers_bent).prog 46).name = ("law" : PySem.Str) := by kernel_rfl
      rw [← e]
      exact hmg0
    obtain ⟨fd, hb, hF⟩ := Onc.facts (P := (PySem.Challenge.rw_oncenear_k81_whole_texts_of_numbers_bent).prog) (w := w) KX G hmg c
    exact ⟨K, fd, Onc.spLaw K, KX, hb, fun H a ns hl _ hS => ⟨a, ns, rfl, hS, fun _ => rfl⟩, hF⟩
