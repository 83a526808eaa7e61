import PyProof.Rows.All
import Wide.All
import OpenK.AllK
import Wide.FinOn
import KE.KStateDown
import KE.KBits
import Lean
import HandS.ForMost
import HandS.More
import HandS.Exc
import HandS.WordsExc
import HandS.Defaults
import HandS.IsInst
import HandS.Wide
import HandS.WideBits
import HandS.Evl
import HandS.Head0
import HandS.Head1
import HandS.Head2
import HandS.HeadEnd
import HandS.HeadHook1
import HandS.HeadHook2
import KE.DataCmp
import HandS.NoneIn
import HandS.HeadHook3
import HandS.HeadHook4
import HandS.Iter
import HandS.MakeKwOnly
import PySem.Challenge.RW_oncenear_k09_whole_forms_numbers_go_on
set_option Elab.async false
set_option linter.all false
set_option maxRecDepth 100000
set_option maxHeartbeats 2000000
namespace Onc
open PySem PySem.Spec PyProof.Rows L2 Evl
/-! ### defs and calls -/
section
variable {P : Program} {w : World} {K : PySem.W.Frag} {mg : Str → Option Value} {base : Heap} {x qual : Str} {params : Arguments} {body : List Stmt} {scope : Scope} {dvs : List V} {kws : List (Str × V)} {f : Addr} {fd : FuncData}
theorem ok0 {N ps : List Str} {k : Nat} {sp : Sp} (F : FunD K x qual params body scope dvs kws f fd) (S : FnScope N ps scope) (len : ∀ vs H Q E, sp vs H Q E → vs.length = ps.length)
    (hbody : ∀ (cdv : Value) (A : Around) (outer : List Env) (s : Shared) (H : Hp) (vs : List V) (Q : VK) (E : XK), Room k (A.deeper (envOfC qual scope s.heap.objs.size f cdv)) → sp vs H Q E →
      ∃ t, PSs (cxOf CX0 P w K mg base N qual scope f cdv A outer s H E).nox body t ∧ t { nx := fun _ H' => Q .non H', rt := Q } (start N vs) H) : FnOk P w K mg base CX0 (k + 1) f fd ps sp :=
  F.ok S len fun cdv A outer s H vs Q E hr h => by
    obtain ⟨t, h1, h2⟩ := hbody cdv A outer s H vs Q E hr h
    exact ⟨t, h1.nox, h2⟩
end
structure Cal (P : Program) (w : World) (K : PySem.W.Frag) (mg : Str → Option Value) (base : Heap) (CX : CXT) (k : Nat) (x : Str) (ps : List Str) (sp : Sp) (f : Addr) (fd : FuncData) : Prop where
  ok : FnOk P w K mg base CX k f fd ps sp
  m : mg x = some (.ref f)
  kp : PySem.W.keepIn K (.ref f) = true
  b : Binds K fd ps []
section
variable {X : Cx} {CX : CXT} {k n : Nat} {f : Addr} {fd : FuncData} {ps ks : List Str} {sp : Sp} {E : XK} {x : Str} {p pos : Pos} {kws : List Keyword} {tk : TA} {g : List Value → List Value → List Value} {gV : List V → List V → List V}
/-- f(k = v, ..), no positional ones -/
theorem pe_callN0 (F : FnOk X.prog X.w X.K X.mg X.base CX k f fd ps sp) (hr : Room k X.A) (hg : Gl X x) (hm : X.mg x = some (.ref f)) (hk : PySem.W.keepIn X.K (.ref f) = true) (hb : KBn X.K fd ps 0 ks g gV) (hx : Passes CX X E)
    (hkw : PK X kws tk) (hall : (backToKw pos (keywordEach kws X.env)).all (·.1.isSome) = true := by rfl) (hks : (backToKw pos (keywordEach kws X.env)).filterMap (·.1) = ks := by rfl)
    (hdb : (x == ("__debug__" : Str)) = false := by decide)
    (hpl : ((backTo pos (starEach [] X.env)).any (·.1) || (backToKw pos (keywordEach kws X.env)).any (·.1.isNone)) = false := by rfl) :
    PE X (.Call (.Name x p) [] kws pos) (tCallN 0 ks.length sp gV E tNil tk) := by
  refine ⟨fun pins s σ H Q I h => ?_⟩
  refine wpAny_Call_Name_kw (ld_glob I hg hm ?_ hdb)
  refine PySem.W.callWith_KW0 (h₀ := X.base) I.ok.mod.kin hk hall ?_ hpl
  refine thn (hkw.run pos pins s σ H _ I h) fun ws s2 ⟨zs, H2, I2, rz, l1, l2, q2⟩ => ⟨I2.kIn, ?_⟩
  rw [hks]
  exact run_fnN (us := []) (vs := []) F hr hb hx I2 .nil rz l1 l2 q2
end
section
variable {K : PySem.W.Frag} {x qual : Str} {params : Arguments} {body : List Stmt} {scope : Scope} {dvs : List V} {kws : List (Str × V)} {f : Addr} {fd : FuncData} {ps : List Str}
/-- keywords alone, a def without defaults -/
theorem kb_plain (F : FunD K x qual params body scope [] kws f fd) (ks : List Str) (g : {α : Type} → List α → List α)
    (hrel : ∀ {zs : List V} {ws : List Value}, Vals zs ws → Vals (g zs) (g ws))
    (h : ∀ (kV doc pm : Value) (an : Option Addr) (cdv ct : Value) (ws : List Value), ws.length = ks.length → bindArgs (PySem.W.fnOf x qual params body scope .none kV doc pm an cdv ct) ⟨[], ks.zip ws⟩ = pure (ps.zip (g ws))) : KBn K fd ps 0 ks (fun _ ws => g ws) (fun _ zs => g zs) := by
  obtain ⟨oc, od, dV, kV, doc, pm, an, cdv, ct, osl, rfl, lk, hcd, hD, hK⟩ := F.ex
  rcases hD with ⟨_, rfl⟩ | ⟨e, _⟩
  · refine ⟨fun s us ws X l1 l2 => ?_, fun _ r2 => hrel r2⟩
    have e0 : us = [] := List.length_eq_zero_iff.mp l1
    subst e0
    exact .of_eq (h kV doc pm an cdv ct ws l2)
  · exact absurd rfl e
/-- keywords alone, a def with defaults -/
theorem kb_dfl (F : FunD K x qual params body scope dvs kws f fd) (hd : dvs ≠ []) (ks : List Str) (g : {α : Type} → List α → List α → List α)
    (hrel : ∀ {ds zs : List V} {its ws : List Value}, Vals ds its → Vals zs ws → Vals (g ds zs) (g its ws))
    (h : ∀ (T : Addr) (kV doc pm : Value) (an : Option Addr) (cdv ct : Value) (its ws : List Value), its.length = dvs.length → ws.length = ks.length →
      ∃ k, bindArgs (PySem.W.fnOf x qual params body scope (.ref T) kV doc pm an cdv ct) ⟨[], ks.zip ws⟩ = seqItems? (.ref T) >>= k ∧ k (some its.toArray) = pure (ps.zip (g its ws))) :
    ∃ its : List Value, KBn K fd ps 0 ks (fun _ ws => g its ws) (fun _ zs => g dvs zs) := by
  obtain ⟨oc, od, dV, kV, doc, pm, an, cdv, ct, osl, rfl, lk, hcd, hD, hK⟩ := F.ex
  rcases hD with ⟨e, _⟩ | ⟨_, T, o, its, m, rfl, lT, oT, rT⟩
  · exact absurd e hd
  · refine ⟨its, fun s us ws X l1 l2 => ?_, fun _ r2 => hrel rT r2⟩
    have e0 : us = [] := List.length_eq_zero_iff.mp l1
    subst e0
    obtain ⟨k, e1, e2⟩ := h T kV doc pm an cdv ct its ws rT.length.symm l2
    refine BindsTo.of_looks fun M => ?_
    rw [e1]
    exact looks_items X lT oT (.of_pure e2)
end
/-! ### kinds -/
section
variable {K : PySem.W.Frag} {H H' : Hp}
theorem tyX_ex {v : V} {t : Value} (e : Ex H H') (h : TyX K H v t) : TyX K H' v t := by
  cases h with
  | base b =>
    cases b with
    | non => exact .base .non
    | bl x => exact .base (.bl x)
    | int x => exact .base (.int x)
    | str x => exact .base (.str x)
    | flt x => exact .base (.flt x)
    | lst q => exact .base (.lst (e _ _ q))
    | frz q => exact .base (.frz (e _ _ q))
    | tup q => exact .base (.tup (e _ _ q))
    | dK q => exact .base (.dK (e _ _ q))
    | dT q => exact .base (.dT (e _ _ q))
    | ins q a b c d f => exact .base (.ins (e _ _ q) a b c d f)
  | byt b => exact .byt b
  | set q => exact .set (e _ _ q)
  | kList q c => exact .kList q c
  | kTuple q c => exact .kTuple q c
  | kDict q c => exact .kDict q c
  | fTuple q => exact .fTuple (e _ _ q)
  | fDict q => exact .fDict (e _ _ q)
theorem sqT_ty {a : Addr} {xs : List V} (h : SqT K H a xs) : TyX K H (.ref a) (.type "tuple") := by
  rcases h with (h | ⟨o, h⟩) | ⟨o, its, n, h1, h2, _⟩
  · exact .base (.tup h)
  · exact .fTuple h
  · exact .kTuple h1 h2
theorem sqL_ty {a : Addr} {xs : List V} (h : SqL K H a xs) : TyX K H (.ref a) (.type "list") := by
  rcases h with (h | ⟨o, h⟩) | ⟨o, its, n, h1, h2, _⟩
  · exact .base (.lst h)
  · exact .base (.frz h)
  · exact .kList h1 h2
/-- whether v is a whole number, by its kind -/
inductive WholeIs (K : PySem.W.Frag) (H : Hp) : V → Bool → Prop
  | int (i : Int) : WholeIs K H (.int i) true
  | bl (x : Bool) : WholeIs K H (.bl x) false
  | no {v : V} {t : Value} {b2 : Bool} (h : TyX K H v t) (k1 : PySem.W.kitOne K t (.type "int") = some false) (k2 : PySem.W.kitOne K t (.type "bool") = some b2) : WholeIs K H v false
theorem ty_int (i : Int) : TyX K H (.int i) (.type "int") := .base (.int i)
theorem ty_bl (x : Bool) : TyX K H (.bl x) (.type "bool") := .base (.bl x)
theorem kit_ii : PySem.W.kitOne K (.type "int") (.type "int") = some true := kit_ty (by decide +kernel : kitB "int" "int" = some true)
theorem kit_ib : PySem.W.kitOne K (.type "int") (.type "bool") = some false := kit_ty (by decide +kernel : kitB "int" "bool" = some false)
theorem kit_bi : PySem.W.kitOne K (.type "bool") (.type "int") = some true := kit_ty (by decide +kernel : kitB "bool" "int" = some true)
theorem kit_bb : PySem.W.kitOne K (.type "bool") (.type "bool") = some true := kit_ty (by decide +kernel : kitB "bool" "bool" = some true)
theorem WholeIs.kinds {v : V} {b : Bool} (h : WholeIs K H v b) : ∃ t b1 b2, TyX K H v t ∧ PySem.W.kitOne K t (.type "int") = some b1 ∧ PySem.W.kitOne K t (.type "bool") = some b2 ∧ b = (b1 && !b2) := by
  cases h with
  | int i => exact ⟨_, _, _, ty_int i, kit_ii, kit_ib, rfl⟩
  | bl x => exact ⟨_, _, _, ty_bl x, kit_bi, kit_bb, rfl⟩
  | no h k1 k2 => exact ⟨_, _, _, h, k1, k2, rfl⟩
def isNumB (m e : Int) : Bool := decide (m % 2 = 1) || (decide (m = 0) && decide (e = 0))
inductive NumIs (K : PySem.W.Frag) (H : Hp) : V → Bool → Prop
  | no {v : V} {t : Value} (h : TyX K H v t) (k : PySem.W.kitOne K t (.type "tuple") = some false) : NumIs K H v false
  | len {a : Addr} {xs : List V} (h : SqT K H a xs) (l : xs.length ≠ 2) : NumIs K H (.ref a) false
  | fst {a : Addr} {x y : V} {b : Bool} (h : SqT K H a [x, y]) (p : WholeIs K H x false) (q : WholeIs K H y b) : NumIs K H (.ref a) false
  | snd {a : Addr} {x y : V} (h : SqT K H a [x, y]) (p : WholeIs K H x true) (q : WholeIs K H y false) : NumIs K H (.ref a) false
  | num {a : Addr} {m e : Int} (h : SqT K H a [.int m, .int e]) : NumIs K H (.ref a) (isNumB m e)
theorem whole_ex {v : V} {b : Bool} (e : Ex H H') (h : WholeIs K H v b) : WholeIs K H' v b := by
  cases h with
  | int i => exact .int i
  | bl x => exact .bl x
  | no h k1 k2 => exact .no (tyX_ex e h) k1 k2
theorem whole_int (i : Int) : WholeIs K H (.int i) true := .int i
def isWholeD : PyData → Bool
  | .int _ => true
  | _ => false
theorem whole_dp {v : V} {d : PyData} (h : Dp K H v d) : WholeIs K H v (isWholeD d) := by
  cases h with
  | non => exact .no (.base .non) (kit_ty (by decide +kernel : kitB "NoneType" "int" = some false)) (kit_ty (by decide +kernel : kitB "NoneType" "bool" = some false))
  | bl b => exact .bl b
  | int i => exact .int i
  | str x => exact .no (.base (.str x)) (kit_ty (by decide +kernel : kitB "str" "int" = some false)) (kit_ty (by decide +kernel : kitB "str" "bool" = some false))
  | lst q _ => exact .no (sqL_ty q) (kit_ty (by decide +kernel : kitB "list" "int" = some false)) (kit_ty (by decide +kernel : kitB "list" "bool" = some false))
  | tup q _ => exact .no (sqT_ty q) (kit_ty (by decide +kernel : kitB "tuple" "int" = some false)) (kit_ty (by decide +kernel : kitB "tuple" "bool" = some false))
theorem num_dp {v : V} {d : PyData} (h : Dp K H v d) : ∃ b, NumIs K H v b := by
  cases h with
  | non => exact ⟨_, .no (.base .non) (kit_ty (by decide +kernel : kitB "NoneType" "tuple" = some false))⟩
  | bl b => exact ⟨_, .no (.base (.bl b)) (kit_ty (by decide +kernel : kitB "bool" "tuple" = some false))⟩
  | int i => exact ⟨_, .no (.base (.int i)) (kit_ty (by decide +kernel : kitB "int" "tuple" = some false))⟩
  | str x => exact ⟨_, .no (.base (.str x)) (kit_ty (by decide +kernel : kitB "str" "tuple" = some false))⟩
  | lst q _ => exact ⟨_, .no (sqL_ty q) (kit_ty (by decide +kernel : kitB "list" "tuple" = some false))⟩
  | @tup a xs ds q r =>
    cases r with
    | nil => exact ⟨_, .len q (by decide)⟩
    | @cons x xs' d1 ds' r1 r2 =>
      cases r2 with
      | nil => exact ⟨_, .len q (by simp)⟩
      | @cons y ys d2 ds'' r3 r4 =>
        cases r4 with
        | cons r5 r6 => exact ⟨_, .len q (by simp)⟩
        | nil =>
          have w1 := whole_dp r1
          have w2 := whole_dp r3
          cases r1 with
          | int m =>
            cases r3 with
            | int e => exact ⟨_, .num q⟩
            | _ => exact ⟨_, .snd q w1 w2⟩
          | _ => exact ⟨_, .fst q w1 w2⟩
theorem num_ex {v : V} {b : Bool} (e : Ex H H') (h : NumIs K H v b) : NumIs K H' v b := by
  cases h with
  | no h k => exact .no (tyX_ex e h) k
  | len h l => exact .len (ex_t e h) l
  | fst h p q => exact .fst (ex_t e h) (whole_ex e p) (whole_ex e q)
  | snd h p q => exact .snd (ex_t e h) (whole_ex e p) (whole_ex e q)
  | num h => exact .num (ex_t e h)
mutual
theorem dp_ex (e : Ex H H') : ∀ (d : PyData) (v : V), Dp K H v d → Dp K H' v d
  | .none, _, h => by cases h; exact .non
  | .bool b, _, h => by cases h; exact .bl b
  | .int i, _, h => by cases h; exact .int i
  | .str x, _, h => by cases h; exact .str x
  | .list ds, _, h => by
    cases h with
    | lst hs ha => exact .lst (ex_l e hs) (dpAll_ex e ds _ ha)
  | .tuple ds, _, h => by
    cases h with
    | tup hs ha => exact .tup (ex_t e hs) (dpAll_ex e ds _ ha)
  | .dict _, _, h => by cases h
theorem dpAll_ex (e : Ex H H') : ∀ (ds : List PyData) (vs : List V), DpAll K H vs ds → DpAll K H' vs ds
  | [], _, h => by cases h; exact .nil
  | d :: ds, _, h => by
    cases h with
    | cons h1 h2 => exact .cons (dp_ex e d _ h1) (dpAll_ex e ds _ h2)
end
theorem dpAll_mem {vs : List V} {ds : List PyData} (h : DpAll K H vs ds) : ∀ {i : Nat} {v : V}, vs[i]? = some v → ∃ d, Dp K H v d := by
  intro i v hv
  induction vs generalizing ds i with
  | nil => simp at hv
  | cons x xs ih =>
    cases h with
    | cons h1 h2 =>
      cases i with
      | zero =>
        have e : x = v := Option.some.inj hv
        subst e
        exact ⟨_, h1⟩
      | succ j => exact ih h2 hv
theorem dpAll_append : ∀ {xs ys : List V} {ds es : List PyData}, DpAll K H xs ds → DpAll K H ys es → DpAll K H (xs ++ ys) (ds ++ es)
  | [], _, [], _, _, h => h
  | _ :: _, _, _ :: _, _, .cons h1 h2, h => .cons h1 (dpAll_append h2 h)
/-! ### data by evaluation -/
def EvD (K : PySem.W.Frag) (te : TE) (σ : L2.St) (H : Hp) : Prop := ∀ H1, Ex H H1 → ∀ Q : VK, (∀ v H2, Ex H1 H2 → (∃ d, Dp K H2 v d) → Q v H2) → te σ H1 Q
def EvDs (K : PySem.W.Frag) (ta : TA) (σ : L2.St) (H : Hp) (n : Nat) : Prop := ∀ H1, Ex H H1 → ∀ Q : List V → Hp → Prop, (∀ vs H2, Ex H1 H2 → (∃ ds, DpAll K H2 vs ds) → vs.length = n → Q vs H2) → ta σ H1 Q
variable {σ : L2.St} {ta tb te : TE}
theorem ed_of {v : V} {d : PyData} (h : Ev te σ H v) (hd : Dp K H v d) : EvD K te σ H := fun H1 e Q q => h H1 e Q fun H2 e2 => q v H2 e2 ⟨d, dp_ex (e.trans e2) d v hd⟩
theorem ed_int {i : Int} (h : Ev te σ H (.int i)) : EvD K te σ H := ed_of h (.int i)
theorem ed_c {v : V} {d : PyData} (hd : Dp K H v d) : EvD K (tC v) σ H := ed_of ev_c hd
theorem eds_nil : EvDs K tNil σ H 0 := fun H1 _ _ q => q [] H1 (Ex.refl H1) ⟨[], .nil⟩ rfl
theorem eds_cons {tr : TA} {n : Nat} (h : EvD K ta σ H) (hr : EvDs K tr σ H n) : EvDs K (tCons ta tr) σ H (n + 1) := fun H1 e Q q =>
  h H1 e _ fun v H2 e2 ⟨d, hd⟩ => hr H2 (e.trans e2) _ fun vs H3 e3 ⟨ds, hds⟩ hl => q (v :: vs) H3 (e2.trans e3) ⟨d :: ds, .cons (dp_ex e3 d v hd) hds⟩ (congrArg Nat.succ hl)
theorem ed_tup {tr : TA} {n : Nat} (h : EvDs K tr σ H n) (hn : n ≤ 100000 := by decide) : EvD K (tTup tr) σ H := fun H1 e Q q =>
  h H1 e _ fun vs H2 e2 ⟨ds, hds⟩ hl => ⟨sz_of (by rw [hl]; exact hn), fun p hp => q (.ref p) _ (e2.trans (Ex.new hp)) ⟨.tuple ds, .tup (st_of upd_same) (dpAll_ex (Ex.new hp) ds vs hds)⟩⟩
theorem ed_lst {tr : TA} {n : Nat} (h : EvDs K tr σ H n) (hn : n ≤ 100000 := by decide) : EvD K (tLst tr) σ H := fun H1 e Q q =>
  h H1 e _ fun vs H2 e2 ⟨ds, hds⟩ hl => ⟨sz_of (by rw [hl]; exact hn), fun p hp => q (.ref p) _ (e2.trans (Ex.new hp)) ⟨.list ds, .lst (sq_of upd_same) (dpAll_ex (Ex.new hp) ds vs hds)⟩⟩
/-- a new list of data -/
def EvLD (K : PySem.W.Frag) (te : TE) (σ : L2.St) (H : Hp) (n : Nat) : Prop := ∀ H1, Ex H H1 → ∀ Q : VK, (∀ p vs H2, Ex H1 H2 → H1 p = none → H2 p = some (.lst vs) → (∃ ds, DpAll K H2 vs ds) → vs.length = n → Q (.ref p) H2) → te σ H1 Q
theorem eld_lst {tr : TA} {n : Nat} (h : EvDs K tr σ H n) (hn : n ≤ 100000 := by decide) : EvLD K (tLst tr) σ H n := fun H1 e Q q =>
  h H1 e _ fun vs H2 e2 ⟨ds, hds⟩ hl => ⟨sz_of (by rw [hl]; exact hn), fun p hp => q p vs _ (e2.trans (Ex.new hp)) (fresh_back e2 hp) upd_same ⟨ds, dpAll_ex (Ex.new hp) ds vs hds⟩ hl⟩
/-- at slot i stands a list of n data -/
def LdAt (K : PySem.W.Frag) (H : Hp) (v : V) (n : Nat) : Prop := ∃ p vs, v = .ref p ∧ H p = some (.lst vs) ∧ vs.length = n ∧ ∃ ds, DpAll K H vs ds
theorem ldAt_ex {v : V} {n : Nat} (e : Ex H H') (h : LdAt K H v n) : LdAt K H' v n := by
  obtain ⟨p, vs, e1, h1, h2, ds, h3⟩ := h
  exact ⟨p, vs, e1, e _ _ h1, h2, ds, dpAll_ex e ds vs h3⟩
theorem eld_cat {v : V} {i n m : Nat} (hv : σ[i]? = some (some v)) (hl : LdAt K H v n) (h : EvLD K tb σ H m) (hn : n + m ≤ 100000 := by decide) : EvLD K (tOp rCat (tVar i) tb) σ H (n + m) := fun H1 e Q q => by
  obtain ⟨a, us, rfl, h1, h2, ds, h3⟩ := hl
  refine ⟨.ref a, hv, h H1 e _ fun p vs H2 e2 hp hvs ⟨es, hes⟩ hlen => ?_⟩
  refine ⟨a, p, us, vs, rfl, rfl, (e.trans e2) _ _ h1, hvs, sz_of (by rw [h2, hlen]; exact hn), fun r hr => ?_⟩
  exact q r (us ++ vs) _ (e2.trans (Ex.new hr)) (fresh_back e2 hr) upd_same ⟨ds ++ es, dpAll_append (dpAll_ex ((e.trans e2).trans (Ex.new hr)) ds us h3) (dpAll_ex (Ex.new hr) es vs hes)⟩ (by rw [List.length_append, h2, hlen])
end
/-! ### isinstance by kinds -/
section
variable {K : PySem.W.Frag} {H : Hp} {v : V} {t : Value} {b : Bool} {Q : VK}
theorem isi_at {T : String} (h : TyX K H v t) (k : PySem.W.kitOne K t (.type T) = some b) (q : Q (.bl b) H) : rIsi K [v, .ty T] H Q := ⟨v, .ty T, t, .type T, b, rfl, .ty T, h, k, q⟩
theorem isi_tup {a : Addr} {xs : List V} (h : SqT K H a xs) (q : Q (.bl true) H) : rIsi K [.ref a, .ty "tuple"] H Q := isi_at (sqT_ty h) (kit_ty (by decide +kernel : kitB "tuple" "tuple" = some true)) q
theorem rd_isi {σ : L2.St} {i : Nat} {T : String} (hv : σ[i]? = some (some v)) (h : TyX K H v t) (k : PySem.W.kitOne K t (.type T) = some b) (q : Q (.bl b) H) : tCB (rIsi K) (tCons (tVar i) (tCons (tC (.ty T)) tNil)) σ H Q := ⟨v, hv, isi_at h k q⟩
theorem rd_tup {σ : L2.St} {i : Nat} {a : Addr} {xs : List V} (hv : σ[i]? = some (some (.ref a))) (h : SqT K H a xs) (q : Q (.bl true) H) : tCB (rIsi K) (tCons (tVar i) (tCons (tC (.ty "tuple")) tNil)) σ H Q := ⟨_, hv, isi_tup h q⟩
theorem rd_isiE {σ : L2.St} {ta : TE} {T : String} (hv : ∀ Q' : VK, Q' v H → ta σ H Q') (h : TyX K H v t) (k : PySem.W.kitOne K t (.type T) = some b) (q : Q (.bl b) H) : tCB (rIsi K) (tCons ta (tCons (tC (.ty T)) tNil)) σ H Q := hv _ (isi_at h k q)
theorem rd_tupC {σ : L2.St} {ta : TE} {W : V → Hp → Prop} (hv : ∀ Q' : VK, (∀ v H', W v H' → Q' v H') → ta σ H Q') (hW : ∀ v H', W v H' → ∃ a xs, v = .ref a ∧ SqT K H' a xs) (q : ∀ v H', W v H' → Q (.bl true) H') : tCB (rIsi K) (tCons ta (tCons (tC (.ty "tuple")) tNil)) σ H Q := hv _ fun v H' hw => by
  obtain ⟨a, xs, rfl, h⟩ := hW v H' hw
  exact isi_tup h (q _ H' hw)
theorem g_name {σ : L2.St} {i : Nat} {Q : L2.St → Hp → Prop} (h : Q (σ.set i (some v)) H) : gName i v σ H Q := h
section
variable {σ : L2.St} {D : Ends} {c u' : TT} {t1 t2 : TS} {te ta' tb' : TE} {B : Bool → Hp → Prop} {g : TG}
theorem o_if (h : c σ H fun b H1 => if b = true then t1 D σ H1 else t2 D σ H1) : tIfS c t1 t2 D σ H := h
theorem o_or (h : c σ H fun b H1 => if b = true then B true H1 else u' σ H1 B) : tOr c u' σ H B := h
theorem o_and (h : c σ H fun b H1 => if b = true then u' σ H1 B else B false H1) : tAnd c u' σ H B := h
theorem o_not (h : c σ H fun b H1 => B (!b) H1) : tNot c σ H B := h
theorem o_b (h : te σ H fun x H1 => ∃ b, x = .bl b ∧ B b H1) : tB te σ H B := h
theorem o_test (h : te σ H fun x H1 => ∃ b, x = .bl b ∧ B b H1) : tTest te σ H B := h
theorem o_seq (h : t1 { D with nx := t2 D } σ H) : tSeq t1 t2 D σ H := h
theorem o_asg (h : te σ H fun x H1 => g x σ H1 D.nx) : tAsg te g D σ H := h
theorem o_ret (h : te σ H D.rt) : tRet te D σ H := h
theorem o_orV (h : ta' σ H fun x H1 => ∃ b, x = .bl b ∧ if b = true then Q (.bl true) H1 else tb' σ H1 Q) : tOrV ta' tb' σ H Q := h
theorem o_andV (h : ta' σ H fun x H1 => ∃ b, x = .bl b ∧ if b = true then tb' σ H1 Q else Q (.bl false) H1) : tAndV ta' tb' σ H Q := h
end
theorem isi_noTup (h : TyX K H v t) (k : PySem.W.kitOne K t (.type "tuple") = some false) (q : Q (.bl false) H) : rIsi K [v, .ty "tuple"] H Q := isi_at h k q
end
/-! ### x is True, x & 1 of what may be a truth -/
def intOrBl : V → Bool
  | .int _ => true
  | .bl _ => true
  | _ => false
def rIsT : R2 := fun x y H Q => ∃ b, y = .bl b ∧ intOrBl x = true ∧ Q (.bl (decide (x = .bl b))) H
def rNotT : R2 := fun x y H Q => ∃ b, y = .bl b ∧ intOrBl x = true ∧ Q (.bl (!decide (x = .bl b))) H
theorem gives_int_and_bi (p : Bool) (b : Int) (u : Tok) : Gives (Builtin.«int.__and__» ⟨[.bool p, .int b u], []⟩) (.int (Builtin.bitAnd (if p = true then (1 : Int) else 0) b)) :=
  .of_wp fun M A E s Q h => by obtain ⟨hp, g, d, tk, os⟩ := s; wp_walk; exact ⟨_, rfl, h⟩
theorem gives_bool_and_bi (p : Bool) (b : Int) (u : Tok) : Gives (Builtin.«bool.__and__» ⟨[.bool p, .int b u], []⟩) (.int (Builtin.bitAnd (if p = true then (1 : Int) else 0) b)) := by
  show Gives (do rule "bool.bitwise.as-ints"; again (.builtin "int.__and__" ⟨[.bool p, .int b u], []⟩)) _
  exact .rule (.again rfl (by decide +kernel) PySem.F.entry_int_and (gives_int_and_bi p b u))
theorem and_bool_int {prog : Program} {w : World} {A : Around} {E : Value → Shared → Prop} {s : Shared} {p : Bool} {b : Int} {u : Tok} {Q : Value → Shared → Prop} (h : Q (.int (Builtin.bitAnd (if p = true then (1 : Int) else 0) b) s.toks) { s with toks := s.toks + 1 }) : wpAny (model prog w) A (binaryOp .BitAnd (.bool p) (.int b u)) Q E s :=
  binaryOp_left_gives (op := .BitAnd) (T := "bool") (U := "int") (by decide) (typeIs_bool' s p) (fun s' => typeIs_int s' b u) PySem.F.fills_bool_and PySem.F.fills_int_and isSubtype_int_bool PySem.F.slot_bool_and PySem.F.slot_int_rand PySem.F.entry_bool_and (PySem.F.args_bool_and_2 _ _) (gives_bool_and_bi p b u) trivial h
def rAnd1 : R2 := fun x y H Q => y = .int 1 ∧ ((∃ i, x = .int i ∧ Q (.int (i % 2)) H) ∨ (∃ k : Bool, x = .bl k ∧ Q (.int (if k = true then 1 else 0)) H))
section
variable {X : Cx}
theorem op_isT : OpR X (compareOp .Is) rIsT := by
  intro pins s σ H x y v u Q I rx ry h
  obtain ⟨b, rfl, hx, q⟩ := h
  cases (show u = Value.bool b from ry)
  cases x with
  | int i =>
    obtain ⟨t, rfl⟩ := rx
    refine wpAny_is_other rfl (fun z => by cases z) ⟨.bl false, H, I, rfl, ?_⟩
    rw [decide_eq_false (fun z => by cases z)] at q
    exact q
  | bl a =>
    cases (show v = Value.bool a from rx)
    by_cases e : a = b
    · subst e
      exact wpAny_is_self rfl ⟨.bl true, H, I, rfl, by simpa using q⟩
    · exact wpAny_is_other rfl (fun z => e (Value.bool.inj z)) ⟨.bl false, H, I, rfl, by simpa [e] using q⟩
  | _ => cases hx
theorem op_notT : OpR X (compareOp .IsNot) rNotT := by
  intro pins s σ H x y v u Q I rx ry h
  obtain ⟨b, rfl, hx, q⟩ := h
  cases (show u = Value.bool b from ry)
  cases x with
  | int i =>
    obtain ⟨t, rfl⟩ := rx
    refine wpAny_isNot_other rfl (fun z => by cases z) ⟨.bl true, H, I, rfl, ?_⟩
    rw [decide_eq_false (fun z => by cases z)] at q
    exact q
  | bl a =>
    cases (show v = Value.bool a from rx)
    by_cases e : a = b
    · subst e
      exact wpAny_isNot_self rfl ⟨.bl false, H, I, rfl, by simpa using q⟩
    · exact wpAny_isNot_other rfl (fun z => e (Value.bool.inj z)) ⟨.bl true, H, I, rfl, by simpa [e] using q⟩
  | _ => cases hx
theorem op_and1 : OpR X (binaryOp .BitAnd) rAnd1 := by
  intro pins s σ H x y v u Q I rx ry h
  obtain ⟨rfl, ⟨i, rfl, q⟩ | ⟨k, rfl, q⟩⟩ := h
  · obtain ⟨t, rfl⟩ := rx
    obtain ⟨t', rfl⟩ := ry
    rw [← bitAnd_m1] at q
    exact and_int ⟨.int _, H, I.tok _, ⟨_, rfl⟩, q⟩
  · obtain ⟨t', rfl⟩ := ry
    cases (show v = Value.bool k from rx)
    have e : Builtin.bitAnd (if k = true then (1 : Int) else 0) 1 = if k = true then 1 else 0 := by cases k <;> decide
    exact and_bool_int (by rw [e]; exact ⟨.int _, H, I.tok _, ⟨_, rfl⟩, q⟩)
end
/-! ### odd parts -/
theorem pow_pos2 (k : Nat) : (0 : Int) < 2 ^ k := Int.pow_pos (by decide)
theorem pow_two_cast (k : Nat) : ((2 ^ k : Nat) : Int) = 2 ^ k := by
  induction k with
  | zero => rfl
  | succ n ih => rw [Nat.pow_succ, Int.pow_succ, Int.natCast_mul, ih] <;> rfl
def tz : Nat → Nat → Nat
  | 0, _ => 0
  | f + 1, n => if n % 2 = 0 then tz f (n / 2) + 1 else 0
theorem tz_spec : ∀ (f n : Nat), 0 < n → n ≤ f → ∃ a, n = 2 ^ tz f n * (2 * a + 1)
  | 0, n, h, l => by omega
  | f + 1, n, h, l => by
    unfold tz
    by_cases e : n % 2 = 0
    · rw [if_pos e]
      obtain ⟨a, ha⟩ := tz_spec f (n / 2) (by omega) (by omega)
      refine ⟨a, ?_⟩
      rw [Nat.pow_succ, Nat.mul_comm (2 ^ tz f (n / 2)) 2, Nat.mul_assoc, ← ha]
      omega
    · rw [if_neg e]
      exact ⟨n / 2, by omega⟩
def v2 (m : Int) : Nat := tz m.natAbs m.natAbs
theorem v2_spec {m : Int} (h : m ≠ 0) : ∃ a : Int, m = 2 ^ v2 m * (2 * a + 1) := by
  obtain ⟨a, ha⟩ := tz_spec m.natAbs m.natAbs (by omega) (Nat.le_refl _)
  have hc : (m.natAbs : Int) = 2 ^ v2 m * (2 * (a : Int) + 1) := by
    have h1 : (m.natAbs : Int) = ((2 ^ v2 m * (2 * a + 1) : Nat) : Int) := congrArg Int.ofNat ha
    rw [h1, Int.natCast_mul, pow_two_cast]
    rfl
  rcases Int.natAbs_eq m with e | e
  · exact ⟨a, e.trans hc⟩
  · refine ⟨-(a : Int) - 1, ?_⟩
    have h2 : m = -(2 ^ v2 m * (2 * (a : Int) + 1)) := by rw [← hc]; exact e
    have h3 : (2 * (-(a : Int) - 1) + 1) = -(2 * (a : Int) + 1) := by omega
    rw [h3, Int.mul_neg]
    exact h2
theorem odd_unique {k j : Nat} {a b : Int} (h : (2 : Int) ^ k * (2 * a + 1) = 2 ^ j * (2 * b + 1)) : k = j ∧ a = b := by
  rcases Nat.lt_trichotomy k j with l | l | l
  · obtain ⟨i, rfl⟩ : ∃ i, j = k + (i + 1) := ⟨j - k - 1, by omega⟩
    rw [Int.pow_add, Int.mul_assoc] at h
    have h2 := Int.eq_of_mul_eq_mul_left (Int.ne_of_gt (pow_pos2 k)) h
    rw [Int.pow_succ, Int.mul_assoc, Int.mul_left_comm] at h2
    generalize (2 : Int) ^ i * (2 * b + 1) = z at h2
    omega
  · subst l
    have h2 := Int.eq_of_mul_eq_mul_left (Int.ne_of_gt (pow_pos2 k)) h
    exact ⟨rfl, by omega⟩
  · obtain ⟨i, rfl⟩ : ∃ i, k = j + (i + 1) := ⟨k - j - 1, by omega⟩
    rw [Int.pow_add, Int.mul_assoc] at h
    have h2 := Int.eq_of_mul_eq_mul_left (Int.ne_of_gt (pow_pos2 j)) h
    rw [Int.pow_succ, Int.mul_assoc, Int.mul_left_comm] at h2
    generalize (2 : Int) ^ i * (2 * a + 1) = z at h2
    omega
/-- the number m times 2 ** e, told its one way -/
def nrm (m e : Int) : Int × Int := if m = 0 then (0, 0) else (m / 2 ^ v2 m, e + v2 m)
theorem nrm_zero (e : Int) : nrm 0 e = (0, 0) := rfl
theorem nrm_of {m a : Int} {k : Nat} (e : Int) (h : m = 2 ^ k * (2 * a + 1)) : nrm m e = (2 * a + 1, e + k) := by
  have h0 : m ≠ 0 := by
    intro z
    rw [z] at h
    rcases Int.mul_eq_zero.mp h.symm with q | q
    · exact absurd q (Int.ne_of_gt (pow_pos2 k))
    · omega
  obtain ⟨b, hb⟩ := v2_spec h0
  obtain ⟨e1, e2⟩ := odd_unique (hb.symm.trans h)
  unfold nrm
  rw [if_neg h0, e1]
  have h3 : m / 2 ^ k = 2 * a + 1 := by
    rw [h]
    exact Int.mul_ediv_cancel_left _ (Int.ne_of_gt (pow_pos2 k))
  rw [h3]
theorem nrm_num (m e : Int) : isNumB (nrm m e).1 (nrm m e).2 = true := by
  by_cases h : m = 0
  · subst h
    rfl
  · obtain ⟨a, ha⟩ := v2_spec h
    rw [nrm_of e ha]
    unfold isNumB
    rw [decide_eq_true (show (2 * a + 1) % 2 = 1 by omega)]
    rfl
theorem nrm_self {m e : Int} (h : isNumB m e = true) : nrm m e = (m, e) := by
  unfold isNumB at h
  rcases Bool.or_eq_true_iff.mp h with q | q
  · have q2 : m % 2 = 1 := of_decide_eq_true q
    have e1 : m = 2 ^ 0 * (2 * (m / 2) + 1) := by
      rw [Int.pow_zero, Int.one_mul]
      omega
    rw [nrm_of e e1]
    have e2 : 2 * (m / 2) + 1 = m := by omega
    rw [e2]
    show (m, e + 0) = (m, e)
    rw [Int.add_zero]
  · obtain ⟨q1, q2⟩ := Bool.and_eq_true_iff.mp q
    have e1 : m = 0 := of_decide_eq_true q1
    have e2 : e = 0 := of_decide_eq_true q2
    subst e1 e2
    rfl
theorem nrm_abs (m e : Int) : (nrm m e).1.natAbs ≤ m.natAbs := by
  by_cases h : m = 0
  · subst h
    exact Nat.le_refl _
  · obtain ⟨a, ha⟩ := v2_spec h
    rw [nrm_of e ha]
    show (2 * a + 1).natAbs ≤ m.natAbs
    have e1 : m.natAbs = ((2 : Int) ^ v2 m).natAbs * (2 * a + 1).natAbs := by
      have := congrArg Int.natAbs ha
      rw [Int.natAbs_mul] at this
      exact this
    rw [e1]
    refine Nat.le_mul_of_pos_left _ ?_
    have := pow_pos2 (v2 m)
    omega
theorem v2_lt {m : Int} {k : Nat} (h : m.natAbs < 2 ^ k) (h0 : m ≠ 0) : v2 m < k := by
  obtain ⟨a, ha⟩ := v2_spec h0
  have e1 : m.natAbs = ((2 : Int) ^ v2 m).natAbs * (2 * a + 1).natAbs := by
    have := congrArg Int.natAbs ha
    rw [Int.natAbs_mul] at this
    exact this
  have e2 : ((2 : Int) ^ v2 m).natAbs = 2 ^ v2 m := by rw [← pow_two_cast]; rfl
  have h1 : 2 ^ v2 m ≤ m.natAbs := by
    rw [e1, e2]
    exact Nat.le_mul_of_pos_right _ (by omega)
  exact (Nat.pow_lt_pow_iff_right (by decide)).mp (Nat.lt_of_le_of_lt h1 h)
theorem nrm_exp {m e : Int} {k : Nat} (h : m.natAbs < 2 ^ k) : (nrm m e).2.natAbs ≤ e.natAbs + k := by
  by_cases h0 : m = 0
  · subst h0
    exact Nat.zero_le _
  · have := v2_lt h h0
    unfold nrm
    rw [if_neg h0]
    show (e + (v2 m : Int)).natAbs ≤ _
    omega
theorem bits_two (k : Nat) : Builtin.Int.intBits (2 ^ k) = k + 1 := by
  have h : (2 : Int) ^ k ≠ 0 := Int.ne_of_gt (pow_pos2 k)
  unfold Builtin.Int.intBits
  have e : ((2 : Int) ^ k == 0) = false := by
    rw [beq_eq_false_iff_ne]
    exact h
  rw [e]
  have e2 : ((2 : Int) ^ k).natAbs = 2 ^ k := by rw [← pow_two_cast]; rfl
  rw [e2, Nat.log2_two_pow]
  rfl
end Onc

namespace Onc
open PySem PySem.Spec PyProof.Rows L2 Evl
/-! ### numbers at a power -/
def at_ (n : Int × Int) (E : Int) : Int := n.1 * 2 ^ (n.2 - E).toNat
theorem nrm_shift (m e : Int) (k : Nat) : nrm (m * 2 ^ k) e = nrm m (e + k) := by
  by_cases h : m = 0
  · subst h
    rw [Int.zero_mul]
    rfl
  · obtain ⟨a, ha⟩ := v2_spec h
    have e1 : m * 2 ^ k = 2 ^ (v2 m + k) * (2 * a + 1) := by
      rw [Int.pow_add, Int.mul_assoc, Int.mul_comm (2 ^ k) (2 * a + 1), ← Int.mul_assoc, ← ha]
    rw [nrm_of e e1, nrm_of (e + k) ha]
    congr 1
    omega
theorem nrm_at {x E E' : Int} (h : E' ≤ E) : at_ (nrm x E) E' = x * 2 ^ (E - E').toNat := by
  by_cases h0 : x = 0
  · subst h0
    unfold at_
    rw [nrm_zero, Int.zero_mul, Int.zero_mul]
  · obtain ⟨a, ha⟩ := v2_spec h0
    rw [nrm_of E ha]
    show (2 * a + 1) * 2 ^ (E + (v2 x : Int) - E').toNat = x * 2 ^ (E - E').toNat
    have e1 : (E + (v2 x : Int) - E').toNat = v2 x + (E - E').toNat := by omega
    rw [e1, Int.pow_add, ← Int.mul_assoc, Int.mul_comm (2 * a + 1) (2 ^ v2 x), ← ha]
theorem at_same (x E : Int) : at_ (nrm x E) E = x := by
  rw [nrm_at (Int.le_refl E), show (E - E).toNat = 0 by omega, Int.pow_zero, Int.mul_one]
theorem nrm_le {x E : Int} (h : E ≤ 0) : E ≤ (nrm x E).2 := by
  unfold nrm
  by_cases h0 : x = 0
  · rw [if_pos h0]
    exact h
  · rw [if_neg h0]
    show E ≤ E + (v2 x : Int)
    omega
theorem nrm_inj {x y E : Int} (h : nrm x E = nrm y E) : x = y := by
  rw [← at_same x E, h, at_same]
theorem at_split {n : Int × Int} {E M : Int} (h : E ≤ M) (hM : M ≤ n.2) : at_ n E = at_ n M * 2 ^ (M - E).toNat := by
  unfold at_
  rw [show (n.2 - E).toNat = (n.2 - M).toNat + (M - E).toNat by omega, Int.pow_add, Int.mul_assoc]
theorem num_at {n : Int × Int} {E : Int} (hn : isNumB n.1 n.2 = true) (h : E ≤ n.2) : nrm (at_ n E) E = n := by
  unfold at_
  rw [nrm_shift, show E + ((n.2 - E).toNat : Int) = n.2 by omega, nrm_self hn]
def padd (a b : Int × Int) : Int × Int := nrm (at_ a (min a.2 b.2) + at_ b (min a.2 b.2)) (min a.2 b.2)
theorem padd_at {a b : Int × Int} {E : Int} (ha : E ≤ a.2) (hb : E ≤ b.2) : padd a b = nrm (at_ a E + at_ b E) E := by
  have hM : E ≤ min a.2 b.2 := by omega
  rw [at_split (n := a) hM (by omega), at_split (n := b) hM (by omega), ← Int.add_mul, nrm_shift, show E + ((min a.2 b.2 - E).toNat : Int) = min a.2 b.2 by omega]
  rfl
def pneg (a : Int × Int) : Int × Int := (-a.1, a.2)
theorem at_neg (a : Int × Int) (E : Int) : at_ (pneg a) E = -at_ a E := by
  unfold at_ pneg
  rw [Int.neg_mul]
def psub (a b : Int × Int) : Int × Int := padd a (pneg b)
theorem psub_at {a b : Int × Int} {E : Int} (ha : E ≤ a.2) (hb : E ≤ b.2) : psub a b = nrm (at_ a E - at_ b E) E := by
  unfold psub
  rw [padd_at ha (show E ≤ (pneg b).2 from hb), at_neg]
  rfl
def pmul (a b : Int × Int) : Int × Int := nrm (a.1 * b.1) (a.2 + b.2)
theorem pmul_at {a b : Int × Int} {E F : Int} (ha : E ≤ a.2) (hb : F ≤ b.2) : pmul a b = nrm (at_ a E * at_ b F) (E + F) := by
  unfold at_
  have e1 : a.1 * 2 ^ (a.2 - E).toNat * (b.1 * 2 ^ (b.2 - F).toNat) = a.1 * b.1 * 2 ^ ((a.2 - E).toNat + (b.2 - F).toNat) := by
    rw [Int.pow_add, Int.mul_assoc, Int.mul_assoc, Int.mul_left_comm (2 ^ (a.2 - E).toNat) b.1]
  rw [e1, nrm_shift, show E + F + (((a.2 - E).toNat + (b.2 - F).toNat : Nat) : Int) = a.2 + b.2 by omega]
  rfl
/-! ### signs -/
def sgn (x : Int) : Int := if x = 0 then 0 else if 0 < x then 1 else -1
theorem sgn_pos {x : Int} (h : 0 < x) : sgn x = 1 := by
  unfold sgn
  rw [if_neg (by omega), if_pos h]
theorem sgn_neg {x : Int} (h : x < 0) : sgn x = -1 := by
  unfold sgn
  rw [if_neg (by omega), if_neg (by omega)]
theorem sgn_zero : sgn 0 = 0 := rfl
theorem sgn_mul (x : Int) (k : Nat) : sgn (x * 2 ^ k) = sgn x := by
  have hp := pow_pos2 k
  rcases Int.lt_trichotomy x 0 with h | h | h
  · rw [sgn_neg h, sgn_neg (Int.mul_neg_of_neg_of_pos h hp)]
  · subst h
    rw [Int.zero_mul]
  · rw [sgn_pos h, sgn_pos (Int.mul_pos h hp)]
theorem sgn_nrm (x E : Int) : sgn (nrm x E).1 = sgn x := by
  have h := nrm_at (x := x) (E := E) (E' := E) (Int.le_refl E)
  unfold at_ at h
  rw [show (E - E).toNat = 0 by omega, Int.pow_zero, Int.mul_one] at h
  rw [← sgn_mul (nrm x E).1, h]
def pord (a b : Int × Int) : Int := sgn (at_ a (min a.2 b.2) - at_ b (min a.2 b.2))
theorem pord_at {a b : Int × Int} {E : Int} (ha : E ≤ a.2) (hb : E ≤ b.2) : pord a b = sgn (at_ a E - at_ b E) := by
  have hM : E ≤ min a.2 b.2 := by omega
  rw [at_split (n := a) hM (by omega), at_split (n := b) hM (by omega), ← Int.sub_mul, sgn_mul]
  rfl
theorem pord_sub (a b : Int × Int) : sgn (psub a b).1 = pord a b := by
  rw [psub_at (E := min a.2 b.2) (by omega) (by omega), sgn_nrm]
  rfl
/-! ### sizes -/
def psize (a : Int × Int) : Int := (Builtin.Int.intBits a.1 : Int) - 1 + a.2
def prank (a : Int × Int) : Int × Int := (sgn a.1, sgn a.1 * psize a)
theorem bits_of {m : Int} (h : m ≠ 0) : Builtin.Int.intBits m = m.natAbs.log2 + 1 := by
  unfold Builtin.Int.intBits
  rw [show (m == 0) = false from by rw [beq_eq_false_iff_ne]; exact h]
  rfl
theorem at_abs (a : Int × Int) (E : Int) : (at_ a E).natAbs = a.1.natAbs * 2 ^ (a.2 - E).toNat := by
  unfold at_
  rw [Int.natAbs_mul]
  have e : ((2 : Int) ^ (a.2 - E).toNat).natAbs = 2 ^ (a.2 - E).toNat := by
    rw [← pow_two_cast]
    rfl
  rw [e]
theorem size_lt {a b : Int × Int} {E : Int} (ha : a.1 ≠ 0) (hb : b.1 ≠ 0) (ea : E ≤ a.2) (eb : E ≤ b.2) (h : psize a < psize b) : (at_ a E).natAbs < (at_ b E).natAbs := by
  unfold psize at h
  rw [bits_of ha, bits_of hb] at h
  rw [at_abs, at_abs]
  have l1 : a.1.natAbs < 2 ^ (a.1.natAbs.log2 + 1) := Nat.lt_log2_self
  have l2 : 2 ^ b.1.natAbs.log2 ≤ b.1.natAbs := Nat.log2_self_le (by omega)
  have hp : ∀ k : Nat, 0 < 2 ^ k := fun k => Nat.pow_pos (by decide)
  refine Nat.lt_of_lt_of_le (Nat.mul_lt_mul_of_pos_right l1 (hp _)) (Nat.le_trans ?_ (Nat.mul_le_mul_right _ l2))
  rw [← Nat.pow_add, ← Nat.pow_add]
  exact Nat.pow_le_pow_right (by decide) (by omega)
theorem at_sgn (a : Int × Int) (E : Int) : sgn (at_ a E) = sgn a.1 := sgn_mul _ _
theorem sgn_of_pos {x : Int} (h : sgn x = 1) : 0 < x := by
  rcases Int.lt_trichotomy x 0 with q | q | q
  · rw [sgn_neg q] at h
    cases h
  · subst q
    cases h
  · exact q
theorem sgn_of_neg {x : Int} (h : sgn x = -1) : x < 0 := by
  rcases Int.lt_trichotomy x 0 with q | q | q
  · exact q
  · subst q
    cases h
  · rw [sgn_pos q] at h
    cases h
theorem sgn_of_zero {x : Int} (h : sgn x = 0) : x = 0 := by
  rcases Int.lt_trichotomy x 0 with q | q | q
  · rw [sgn_neg q] at h
    cases h
  · exact q
  · rw [sgn_pos q] at h
    cases h
theorem sgn_cases (x : Int) : sgn x = 1 ∨ sgn x = -1 ∨ sgn x = 0 := by
  rcases Int.lt_trichotomy x 0 with q | q | q
  · exact .inr (.inl (sgn_neg q))
  · subst q
    exact .inr (.inr rfl)
  · exact .inl (sgn_pos q)
/-- ranks that differ are in the order of the numbers -/
theorem rank_gt {a b : Int × Int} (h : (prank b).1 < (prank a).1 ∨ ((prank b).1 = (prank a).1 ∧ (prank b).2 < (prank a).2)) : pord a b = 1 := by
  have ea : min a.2 b.2 ≤ a.2 := by omega
  have eb : min a.2 b.2 ≤ b.2 := by omega
  refine sgn_pos ?_
  generalize min a.2 b.2 = E at *
  have sa := at_sgn a E
  have sb := at_sgn b E
  unfold prank at h
  simp only at h
  rcases sgn_cases a.1 with qa | qa | qa <;> rcases sgn_cases b.1 with qb | qb | qb <;> rw [qa] at sa h <;> rw [qb] at sb h
  · have pa := sgn_of_pos sa
    have pb := sgn_of_pos sb
    have na : a.1 ≠ 0 := fun z => by rw [z] at qa; cases qa
    have nb : b.1 ≠ 0 := fun z => by rw [z] at qb; cases qb
    have := size_lt (E := E) nb na eb ea (by omega)
    omega
  · have pa := sgn_of_pos sa
    have pb := sgn_of_neg sb
    omega
  · have pa := sgn_of_pos sa
    have pb := sgn_of_zero sb
    omega
  · omega
  · have pa := sgn_of_neg sa
    have pb := sgn_of_neg sb
    have na : a.1 ≠ 0 := fun z => by rw [z] at qa; cases qa
    have nb : b.1 ≠ 0 := fun z => by rw [z] at qb; cases qb
    have := size_lt (E := E) na nb ea eb (by omega)
    omega
  · omega
  · omega
  · have pa := sgn_of_zero sa
    have pb := sgn_of_neg sb
    omega
  · omega
theorem sgn_swap (x : Int) : sgn (-x) = -sgn x := by
  rcases Int.lt_trichotomy x 0 with q | q | q
  · rw [sgn_neg q, sgn_pos (by omega)]
    rfl
  · subst q
    rfl
  · rw [sgn_pos q, sgn_neg (by omega)]
theorem pord_swap (a b : Int × Int) : pord b a = -pord a b := by
  rw [pord_at (a := b) (b := a) (E := min a.2 b.2) (by omega) (by omega), ← Int.neg_sub, sgn_swap]
  rfl
/-! ### bounds -/
def Bd (a : Int × Int) (B : Nat) : Prop := a.1.natAbs < 2 ^ B ∧ a.2.natAbs ≤ B
theorem Bd.mono {a : Int × Int} {B C : Nat} (h : Bd a B) (l : B ≤ C) : Bd a C := ⟨Nat.lt_of_lt_of_le h.1 (Nat.pow_le_pow_right (by decide) l), Nat.le_trans h.2 l⟩
theorem bd_neg {a : Int × Int} {B : Nat} (h : Bd a B) : Bd (pneg a) B := ⟨by show (-a.1).natAbs < _; rw [Int.natAbs_neg]; exact h.1, h.2⟩
theorem bd_nrm {m e : Int} {k B : Nat} (hm : m.natAbs < 2 ^ k) (he : e.natAbs + k ≤ B) : Bd (nrm m e) B :=
  ⟨Nat.lt_of_le_of_lt (nrm_abs m e) (Nat.lt_of_lt_of_le hm (Nat.pow_le_pow_right (by decide) (by omega))), Nat.le_trans (nrm_exp hm) he⟩
theorem at_bd {a : Int × Int} {B C : Nat} {E : Int} (h : Bd a B) (hE : E.natAbs ≤ C) : (at_ a E).natAbs < 2 ^ (2 * B + C) := by
  rw [at_abs]
  have h1 : a.1.natAbs * 2 ^ (a.2 - E).toNat < 2 ^ B * 2 ^ (a.2 - E).toNat := Nat.mul_lt_mul_of_pos_right h.1 (Nat.pow_pos (by decide))
  rw [← Nat.pow_add] at h1
  have h2 := h.2
  exact Nat.lt_of_lt_of_le h1 (Nat.pow_le_pow_right (by decide) (by omega))
theorem bd_add {a b : Int × Int} {B : Nat} (ha : Bd a B) (hb : Bd b B) : Bd (padd a b) (4 * B + 1) := by
  have hE : (min a.2 b.2).natAbs ≤ B := by
    have := ha.2
    have := hb.2
    omega
  have h1 := at_bd ha hE
  have h2 := at_bd hb hE
  refine bd_nrm (k := 2 * B + B + 1) ?_ (by omega)
  have e : 2 ^ (2 * B + B + 1) = 2 ^ (2 * B + B) * 2 := Nat.pow_succ ..
  omega
theorem bd_sub {a b : Int × Int} {B : Nat} (ha : Bd a B) (hb : Bd b B) : Bd (psub a b) (4 * B + 1) := bd_add ha (bd_neg hb)
theorem bd_mul {a b : Int × Int} {B : Nat} (ha : Bd a B) (hb : Bd b B) : Bd (pmul a b) (4 * B) := by
  refine bd_nrm (k := 2 * B) ?_ ?_
  · rw [Int.natAbs_mul, Nat.two_mul, Nat.pow_add]
    exact Nat.mul_lt_mul'' ha.1 hb.1
  · have := ha.2
    have := hb.2
    omega
theorem num_neg {a : Int × Int} (h : isNumB a.1 a.2 = true) : isNumB (pneg a).1 (pneg a).2 = true := by
  unfold isNumB at *
  show (decide (-a.1 % 2 = 1) || (decide (-a.1 = 0) && decide (a.2 = 0))) = true
  rcases Bool.or_eq_true_iff.mp h with q | q
  · have q2 : a.1 % 2 = 1 := of_decide_eq_true q
    rw [decide_eq_true (show -a.1 % 2 = 1 by omega)]
    rfl
  · obtain ⟨q1, q2⟩ := Bool.and_eq_true_iff.mp q
    have e1 : a.1 = 0 := of_decide_eq_true q1
    rw [q2, decide_eq_true (show -a.1 = 0 by omega), Bool.and_true, Bool.or_true]
theorem num_add (a b : Int × Int) : isNumB (padd a b).1 (padd a b).2 = true := nrm_num _ _
theorem num_mul (a b : Int × Int) : isNumB (pmul a b).1 (pmul a b).2 = true := nrm_num _ _
/-! ### t > u of data -/
section
variable {X : Cx}
def rGtD (K : PySem.W.Frag) : R2 := fun x y H Q => ∃ d e, Dp K H x d ∧ Dp K H y e ∧ PySem.W.alike d e = true ∧ d ≠ .none ∧ d.depth ≤ 64 ∧ Q (.bl (PySem.W.dataLt e d)) H
theorem op_gtD (hu : X.A.units + 64 < cLine) : OpR X (compareOp .Gt) (rGtD X.K) := by
  intro pins s σ H x y v u Q I rx ry h
  obtain ⟨d, e, hd, he, al, nn, dp, q⟩ := h
  obtain ⟨as, r1⟩ := Dp.reads I d x v hd rx
  obtain ⟨bs, r2⟩ := Dp.reads I e y u he ry
  exact PySem.W.gt_data r1 r2 al nn (by have := Nat.min_le_left d.depth e.depth; omega) ⟨.bl _, H, I, rfl, q⟩
end
theorem lt_pairs (a b c d : Int) : PySem.W.dataLt (.tuple [.int a, .int b]) (.tuple [.int c, .int d]) = if a = c then decide (b < d) else decide (a < c) := by
  show lexLt itemOrd [.inl 1, .inl a, .inl 1, .inl b, .inl 0] [.inl 1, .inl c, .inl 1, .inl d, .inl 0] = _
  rw [lex_self (O := itemOrd)]
  by_cases h : a = c
  · subst h
    rw [if_pos rfl, lex_self (O := itemOrd), lex_self (O := itemOrd)]
    by_cases h2 : b = d
    · subst h2
      rw [lex_self (O := itemOrd), lex_self (O := itemOrd), decide_eq_false (Int.lt_irrefl b)]
      rfl
    · rw [lex_diff (O := itemOrd) (fun z => h2 (Sum.inl.inj z))]
      rfl
  · rw [if_neg h, lex_diff (O := itemOrd) (fun z => h (Sum.inl.inj z))]
    rfl
theorem alike_pairs (a b c d : Int) : PySem.W.alike (.tuple [.int a, .int b]) (.tuple [.int c, .int d]) = true := by
  simp [PySem.W.alike, PySem.W.alikeAll]
theorem depth_pair (a b : Int) : (PyData.tuple [.int a, .int b]).depth ≤ 64 := by
  simp [PyData.depth, PyData.depthAll]
theorem eqv_pairs (a b c d : Int) : PyData.eqv (.tuple [.int a, .int b]) (.tuple [.int c, .int d]) = (decide (a = c) && decide (b = d)) := by
  simp [PyData.eqv, PyData.eqvAll]
  rfl
/-! ### numbers in the heap -/
def NumAt (K : PySem.W.Frag) (H : Hp) (v : V) (n : Int × Int) : Prop := ∃ a, v = .ref a ∧ SqT K H a [.int n.1, .int n.2]
theorem numAt_ex {K : PySem.W.Frag} {H H' : Hp} {v : V} {n : Int × Int} (e : Ex H H') (h : NumAt K H v n) : NumAt K H' v n := by
  obtain ⟨a, rfl, h⟩ := h
  exact ⟨a, rfl, ex_t e h⟩
theorem numAt_of {K : PySem.W.Frag} {H : Hp} {p : Addr} {m e : Int} (h : H p = some (.tup [.int m, .int e])) : NumAt K H (.ref p) (m, e) := ⟨p, rfl, st_of h⟩
/-- a good number within bounds -/
structure Gn (K : PySem.W.Frag) (H : Hp) (v : V) (n : Int × Int) (B : Nat) : Prop where
  at_ : NumAt K H v n
  nb : isNumB n.1 n.2 = true
  bd : Bd n B
theorem Gn.ex {K : PySem.W.Frag} {H H' : Hp} {v : V} {n : Int × Int} {B : Nat} (g : Gn K H v n B) (e : Ex H H') : Gn K H' v n B := ⟨numAt_ex e g.at_, g.nb, g.bd⟩
theorem Gn.mono {K : PySem.W.Frag} {H : Hp} {v : V} {n : Int × Int} {B C : Nat} (g : Gn K H v n B) (l : B ≤ C) : Gn K H v n C := ⟨g.at_, g.nb, g.bd.mono l⟩
theorem Gn.num {K : PySem.W.Frag} {H : Hp} {v : V} {n : Int × Int} {B : Nat} (g : Gn K H v n B) : NumIs K H v true := by
  obtain ⟨a, rfl, h⟩ := g.at_
  have := NumIs.num h
  rw [g.nb] at this
  exact this
def LIM : Nat := 20000000
/-- a new pair -/
def NewP (H : Hp) (Q : VK) (n : Int × Int) : Prop := ∀ H' p, Ex H H' → H p = none → H' p = some (.tup [.int n.1, .int n.2]) → Q (.ref p) H'
def spNeed (K : PySem.W.Frag) : Sp := fun vs H Q _ => ∃ v, vs = [v] ∧ NumIs K H v true ∧ ∀ H', Ex H H' → Q .non H'
def spSign : Sp := fun vs H Q _ => ∃ x : Int, vs = [.int x] ∧ Q (.int (sgn x)) H
def spNeg (K : PySem.W.Frag) : Sp := fun vs H Q _ => ∃ v n, vs = [v] ∧ NumAt K H v n ∧ NewP H Q (pneg n)
def spSize (K : PySem.W.Frag) : Sp := fun vs H Q _ => ∃ v n, vs = [v] ∧ NumAt K H v n ∧ Q (.int (psize n)) H
def spFloor (K : PySem.W.Frag) : Sp := fun vs H Q _ => ∃ v n E, vs = [v, .int E] ∧ NumAt K H v n ∧ E ≤ n.2 ∧ Bd n LIM ∧ E.natAbs ≤ LIM ∧ Q (.int (at_ n E)) H
def spRank (K : PySem.W.Frag) : Sp := fun vs H Q _ => ∃ v n, vs = [v] ∧ NumAt K H v n ∧ NewP H Q (prank n)
def spNeed2 (K : PySem.W.Frag) : Sp := fun vs H Q _ => ∃ u v, vs = [u, v] ∧ NumIs K H u true ∧ NumIs K H v true ∧ ∀ H', Ex H H' → Q .non H'
/-- a pair, new or handed in -/
def GotP (K : PySem.W.Frag) (H : Hp) (Q : VK) (n : Int × Int) : Prop := ∀ H' v, Ex H H' → NumAt K H' v n → Q v H'
def spTwo (K : PySem.W.Frag) (g : Int × Int → Int × Int → Int × Int) : Sp := fun vs H Q _ => ∃ u v a b, vs = [u, v] ∧ Gn K H u a LIM ∧ Gn K H v b LIM ∧ GotP K H Q (g a b)
def spLes (K : PySem.W.Frag) : Sp := fun vs H Q _ => ∃ u v a b, vs = [u, v] ∧ Gn K H u a LIM ∧ Gn K H v b LIM ∧ ((pord a b ≤ 0 → ∀ H', Ex H H' → Q u H') ∧ (0 < pord a b → ∀ H', Ex H H' → Q v H'))
def spGre (K : PySem.W.Frag) : Sp := fun vs H Q _ => ∃ u v a b, vs = [u, v] ∧ Gn K H u a LIM ∧ Gn K H v b LIM ∧ ((0 ≤ pord a b → ∀ H', Ex H H' → Q u H') ∧ (pord a b < 0 → ∀ H', Ex H H' → Q v H'))
def spOrd (K : PySem.W.Frag) : Sp := fun vs H Q _ => ∃ u v a b, vs = [u, v] ∧ Gn K H u a LIM ∧ Gn K H v b LIM ∧ ∀ H', Ex H H' → Q (.int (pord a b)) H'
/-! ### evaluation to something -/
section
variable {K : PySem.W.Frag} {σ : L2.St} {H H' : Hp} {ta tb tc te : TE}
def Mono (P : Hp → V → Prop) : Prop := ∀ H H' v, Ex H H' → P H v → P H' v
def EvP (P : Hp → V → Prop) (te : TE) (σ : L2.St) (H : Hp) : Prop := ∀ H1, Ex H H1 → ∀ Q : VK, (∀ v H2, Ex H1 H2 → P H2 v → Q v H2) → te σ H1 Q
theorem EvP.mono {P : Hp → V → Prop} (h : EvP P te σ H) (e : Ex H H') : EvP P te σ H' := fun H1 e1 Q q => h H1 (e.trans e1) Q q
theorem evp_of {P : Hp → V → Prop} {v : V} (h : Ev te σ H v) (m : Mono P) (hv : P H v) : EvP P te σ H := fun H1 e Q q => h H1 e Q fun H2 e2 => q v H2 e2 (m _ _ _ (e.trans e2) hv)
theorem evp_tup2 {P1 P2 : Hp → V → Prop} (m1 : Mono P1) (m2 : Mono P2) (h1 : EvP P1 ta σ H) (h2 : EvP P2 tb σ H) :
    EvP (fun H v => ∃ p x y, v = .ref p ∧ H p = some (.tup [x, y]) ∧ P1 H x ∧ P2 H y) (tTup (tCons ta (tCons tb tNil))) σ H := fun H1 e Q q =>
  h1 H1 e _ fun x H2 e2 p1 => h2 H2 (e.trans e2) _ fun y H3 e3 p2 => ⟨by show 2 ≤ sizeLine; decide, fun p hp => q (.ref p) _ ((e2.trans e3).trans (Ex.new hp)) ⟨p, x, y, rfl, upd_same, m1 _ _ _ (e3.trans (Ex.new hp)) p1, m2 _ _ _ (Ex.new hp) p2⟩⟩
theorem evp_tup3 {P1 P2 P3 : Hp → V → Prop} (m1 : Mono P1) (m2 : Mono P2) (m3 : Mono P3) (h1 : EvP P1 ta σ H) (h2 : EvP P2 tb σ H) (h3 : EvP P3 tc σ H) :
    EvP (fun H v => ∃ p x y z, v = .ref p ∧ H p = some (.tup [x, y, z]) ∧ P1 H x ∧ P2 H y ∧ P3 H z) (tTup (tCons ta (tCons tb (tCons tc tNil)))) σ H := fun H1 e Q q =>
  h1 H1 e _ fun x H2 e2 p1 => h2 H2 (e.trans e2) _ fun y H3 e3 p2 => h3 H3 ((e.trans e2).trans e3) _ fun z H4 e4 p3 => ⟨by show 3 ≤ sizeLine; decide, fun p hp => q (.ref p) _ (((e2.trans e3).trans e4).trans (Ex.new hp)) ⟨p, x, y, z, rfl, upd_same, m1 _ _ _ ((e3.trans e4).trans (Ex.new hp)) p1, m2 _ _ _ (e4.trans (Ex.new hp)) p2, m3 _ _ _ (Ex.new hp) p3⟩⟩
def EvAll (P : Hp → V → Prop) (ta : TA) (σ : L2.St) (H : Hp) (n : Nat) : Prop := ∀ H1, Ex H H1 → ∀ Q : List V → Hp → Prop, (∀ vs H2, Ex H1 H2 → vs.length = n → (∀ v ∈ vs, P H2 v) → Q vs H2) → ta σ H1 Q
theorem eva_nil {P : Hp → V → Prop} : EvAll P tNil σ H 0 := fun H1 _ _ q => q [] H1 (Ex.refl H1) rfl (fun _ h => by cases h)
theorem eva_cons {P : Hp → V → Prop} {tr : TA} {n : Nat} (m : Mono P) (h : EvP P ta σ H) (hr : EvAll P tr σ H n) : EvAll P (tCons ta tr) σ H (n + 1) := fun H1 e Q q =>
  h H1 e _ fun v H2 e2 p => hr H2 (e.trans e2) _ fun vs H3 e3 hl hv => q (v :: vs) H3 (e2.trans e3) (congrArg Nat.succ hl) fun x hx => by
    rcases List.mem_cons.mp hx with z | z
    · rw [z]
      exact m _ _ _ e3 p
    · exact hv x z
/-- a new list, all of P -/
def EvLP (P : Hp → V → Prop) (te : TE) (σ : L2.St) (H : Hp) (n : Nat) : Prop := ∀ H1, Ex H H1 → ∀ Q : VK, (∀ p vs H2, Ex H1 H2 → H1 p = none → H2 p = some (.lst vs) → vs.length = n → (∀ v ∈ vs, P H2 v) → Q (.ref p) H2) → te σ H1 Q
theorem elp_lst {P : Hp → V → Prop} {tr : TA} {n : Nat} (m : Mono P) (h : EvAll P tr σ H n) (hn : n ≤ 100000 := by decide) : EvLP P (tLst tr) σ H n := fun H1 e Q q =>
  h H1 e _ fun vs H2 e2 hl hv => ⟨sz_of (by rw [hl]; exact hn), fun p hp => q p vs _ (e2.trans (Ex.new hp)) (fresh_back e2 hp) upd_same hl fun v hx => m _ _ _ (Ex.new hp) (hv v hx)⟩
def LpAt (P : Hp → V → Prop) (H : Hp) (v : V) (n : Nat) : Prop := ∃ p vs, v = .ref p ∧ H p = some (.lst vs) ∧ vs.length = n ∧ ∀ x ∈ vs, P H x
theorem elp_cat {P : Hp → V → Prop} {v : V} {i n k : Nat} (m : Mono P) (hv : σ[i]? = some (some v)) (hl : LpAt P H v n) (h : EvLP P tb σ H k) (hn : n + k ≤ 100000 := by decide) : EvLP P (tOp rCat (tVar i) tb) σ H (n + k) := fun H1 e Q q => by
  obtain ⟨a, us, rfl, h1, h2, h3⟩ := hl
  refine ⟨.ref a, hv, h H1 e _ fun p vs H2 e2 hp hvs hlen hall => ?_⟩
  refine ⟨a, p, us, vs, rfl, rfl, (e.trans e2) _ _ h1, hvs, sz_of (by rw [h2, hlen]; exact hn), fun r hr => ?_⟩
  refine q r (us ++ vs) _ (e2.trans (Ex.new hr)) (fresh_back e2 hr) upd_same (by rw [List.length_append, h2, hlen]) fun x hx => ?_
  rcases List.mem_append.mp hx with z | z
  · exact m _ _ _ ((e.trans e2).trans (Ex.new hr)) (h3 x z)
  · exact m _ _ _ (Ex.new hr) (hall x z)
theorem q_asgLP {P : Hp → V → Prop} {tz : TS} {D : Ends} {i n : Nat} (h : EvLP P te σ H n) (k : ∀ v H1, Ex H H1 → LpAt P H1 v n → tz D (σ.set i (some v)) H1) : tSeq (tAsg te (gName i)) tz D σ H :=
  h H (Ex.refl H) _ fun p vs H2 e2 _ hv hl hd => k (.ref p) H2 e2 ⟨p, vs, rfl, hv, hl, hd⟩
theorem q_asgP {P : Hp → V → Prop} {tz : TS} {D : Ends} {i : Nat} (h : EvP P te σ H) (k : ∀ v H1, Ex H H1 → P H1 v → tz D (σ.set i (some v)) H1) : tSeq (tAsg te (gName i)) tz D σ H :=
  h H (Ex.refl H) _ fun v H2 e2 p => k v H2 e2 p
theorem s_forLP {P : Hp → V → Prop} {n : Nat} {tl : TE} {g : TG} {tu : TS} {D : Ends} (m : Mono P) (h : EvLP P tl σ H n) (Iv : L2.St → Prop) (h0 : Iv σ)
    (hs : ∀ H2 v σ' H', Ex H H2 → Ex H2 H' → Iv σ' → P H' v → g v σ' H' fun σ2 H3 => tu { D with nx := fun σ3 H4 => Iv σ3 ∧ Ex H2 H4, ct := fun σ3 H4 => Iv σ3 ∧ Ex H2 H4, bk := D.nx } σ2 H3)
    (hd : ∀ σ' H', Ex H H' → Iv σ' → D.nx σ' H') : tFor (iList K tl) g tu D σ H :=
  h H (Ex.refl H) _ fun p vs H2 e2 _ hv _ hall => ⟨p, rfl, ⟨_, sq_of hv⟩, for_list (xs := vs) (fun _ σ' H' => Iv σ' ∧ Ex H2 H') ⟨h0, Ex.refl H2⟩ (fun _ _ _ _ hp => sq_of (hp.2 _ _ hv))
    (fun i x σ' H' hx hp => hs H2 x σ' H' e2 hp.2 hp.1 (m _ _ _ hp.2 (hall x (List.mem_of_getElem? hx)))) (fun σ' H' hp => hd σ' H' (e2.trans hp.2) hp.1)⟩
theorem s_forLA {P : Hp → V → Prop} {n i : Nat} {v : V} {g : TG} {tu : TS} {D : Ends} (m : Mono P) (hv : σ[i]? = some (some v)) (h : LpAt P H v n) (Iv : L2.St → Prop) (h0 : Iv σ)
    (hs : ∀ v σ' H', Ex H H' → Iv σ' → P H' v → g v σ' H' fun σ2 H3 => tu { D with nx := fun σ3 H4 => Iv σ3 ∧ Ex H H4, ct := fun σ3 H4 => Iv σ3 ∧ Ex H H4, bk := D.nx } σ2 H3)
    (hd : ∀ σ' H', Ex H H' → Iv σ' → D.nx σ' H') : tFor (iList K (tVar i)) g tu D σ H := by
  obtain ⟨p, vs, rfl, hp, _, hall⟩ := h
  exact ⟨.ref p, hv, p, rfl, ⟨_, sq_of hp⟩, for_list (xs := vs) (fun _ σ' H' => Iv σ' ∧ Ex H H') ⟨h0, Ex.refl H⟩ (fun _ _ _ _ hq => sq_of (hq.2 _ _ hp))
    (fun i x σ' H' hx hq => hs x σ' H' hq.2 hq.1 (m _ _ _ hq.2 (hall x (List.mem_of_getElem? hx)))) (fun σ' H' hq => hd σ' H' hq.2 hq.1)⟩
theorem o_yes {Q : Bool → Hp → Prop} (h : Q true H) : tYes σ H Q := h
/-! ### numbers by evaluation -/
abbrev EvN (K : PySem.W.Frag) (te : TE) (σ : L2.St) (H : Hp) (n : Int × Int) (B : Nat) : Prop := EvP (fun H v => Gn K H v n B) te σ H
theorem gn_mono {n : Int × Int} {B : Nat} : Mono (fun H v => Gn K H v n B) := fun _ _ _ e g => g.ex e
theorem evn_var {i : Nat} {v : V} {n : Int × Int} {B : Nat} (hv : σ[i]? = some (some v)) (g : Gn K H v n B) : EvN K (tVar i) σ H n B := evp_of (ev_var hv) gn_mono g
theorem evn_new {n : Int × Int} {B : Nat} (hn : isNumB n.1 n.2 = true) (hb : Bd n B) (h : ∀ H1, Ex H H1 → ∀ Q : VK, NewP H1 Q n → te σ H1 Q) : EvN K te σ H n B := fun H1 e Q q => h H1 e Q fun H2 p e2 _ hp => q (.ref p) H2 e2 ⟨numAt_of hp, hn, hb⟩
theorem evn_two {g : Int × Int → Int × Int → Int × Int} {a b : Int × Int} {B1 B2 C : Nat} (ha : EvN K ta σ H a B1) (hb : EvN K tb σ H b B2) (l : B1 + B2 ≤ LIM) (hn : isNumB (g a b).1 (g a b).2 = true) (hC : Bd a (B1 + B2) → Bd b (B1 + B2) → Bd (g a b) C) :
    EvN K (tCall (spTwo K g) [] E0 (tCons ta (tCons tb tNil))) σ H (g a b) C := fun H1 e Q q =>
  ha H1 e _ fun u H2 e2 gu => hb H2 (e.trans e2) _ fun v H3 e3 gv => ⟨u, v, a, b, rfl, (gu.ex e3).mono (by omega), gv.mono (by omega), fun H4 w e4 hw => q w H4 ((e2.trans e3).trans e4) ⟨hw, hn, hC (gu.bd.mono (by omega)) (gv.bd.mono (by omega))⟩⟩
theorem evn_plus {a b : Int × Int} {B1 B2 : Nat} (ha : EvN K ta σ H a B1) (hb : EvN K tb σ H b B2) (l : B1 + B2 ≤ LIM := by decide) : EvN K (tCall (spTwo K padd) [] E0 (tCons ta (tCons tb tNil))) σ H (padd a b) (4 * (B1 + B2) + 1) := evn_two ha hb l (num_add a b) bd_add
theorem evn_less {a b : Int × Int} {B1 B2 : Nat} (ha : EvN K ta σ H a B1) (hb : EvN K tb σ H b B2) (l : B1 + B2 ≤ LIM := by decide) : EvN K (tCall (spTwo K psub) [] E0 (tCons ta (tCons tb tNil))) σ H (psub a b) (4 * (B1 + B2) + 1) := evn_two ha hb l (num_add a _) bd_sub
theorem evn_times {a b : Int × Int} {B1 B2 : Nat} (ha : EvN K ta σ H a B1) (hb : EvN K tb σ H b B2) (l : B1 + B2 ≤ LIM := by decide) : EvN K (tCall (spTwo K pmul) [] E0 (tCons ta (tCons tb tNil))) σ H (pmul a b) (4 * (B1 + B2)) := evn_two ha hb l (num_mul a b) bd_mul
theorem ev_ord {a b : Int × Int} {B1 B2 : Nat} (ha : EvN K ta σ H a B1) (hb : EvN K tb σ H b B2) (l : B1 + B2 ≤ LIM := by decide) : Ev (tCall (spOrd K) [] E0 (tCons ta (tCons tb tNil))) σ H (.int (pord a b)) := fun H1 e Q q =>
  ha H1 e _ fun u H2 e2 gu => hb H2 (e.trans e2) _ fun v H3 e3 gv => ⟨u, v, a, b, rfl, (gu.ex e3).mono (by omega), gv.mono (by omega), fun H4 e4 => q H4 ((e2.trans e3).trans e4)⟩
theorem evn_lit {m e : Int} {B : Nat} (ha : Ev ta σ H (.int m)) (hb : Ev tb σ H (.int e)) (hn : isNumB m e = true) (hB : Bd (m, e) B) : EvN K (tTup (tCons ta (tCons tb tNil))) σ H (m, e) B := fun H1 e1 Q q =>
  ha H1 e1 _ fun H2 e2 => hb H2 (e1.trans e2) _ fun H3 e3 => ⟨by show 2 ≤ sizeLine; decide, fun p hp => q (.ref p) _ ((e2.trans e3).trans (Ex.new hp)) ⟨numAt_of upd_same, hn, hB⟩⟩
theorem numAt_dp {v : V} {n : Int × Int} (h : NumAt K H v n) : Dp K H v (.tuple [.int n.1, .int n.2]) := by
  obtain ⟨a, rfl, h⟩ := h
  exact .tup h (.cons (.int _) (.cons (.int _) .nil))
theorem pair_shaped (m e : Int) : SeqAt.shaped (.tuple [.int m, .int e]) = true := rfl
theorem evb_ne {a b : Int × Int} {B1 B2 : Nat} (ha : EvN K ta σ H a B1) (hb : EvN K tb σ H b B2) : Ev (tOp (rNeD K) ta tb) σ H (.bl (!decide (a = b))) := fun H1 e Q q =>
  ha H1 e _ fun u H2 e2 gu => hb H2 (e.trans e2) _ fun v H3 e3 gv => by
    refine ⟨_, _, numAt_dp (gu.ex e3).at_, numAt_dp gv.at_, pair_shaped _ _, pair_shaped _ _, ?_⟩
    rw [eqv_pairs]
    have e4 : (decide (a.1 = b.1) && decide (a.2 = b.2)) = decide (a = b) := by
      rw [← Bool.decide_and]
      exact decide_eq_decide.mpr ⟨fun z => Prod.ext z.1 z.2, fun z => by rw [z]; exact ⟨rfl, rfl⟩⟩
    rw [e4]
    exact q H3 (e2.trans e3)
theorem evb_eq {a b : Int × Int} {B1 B2 : Nat} (ha : EvN K ta σ H a B1) (hb : EvN K tb σ H b B2) : Ev (tOp (rEqD K) ta tb) σ H (.bl (decide (a = b))) := fun H1 e Q q =>
  ha H1 e _ fun u H2 e2 gu => hb H2 (e.trans e2) _ fun v H3 e3 gv => by
    refine ⟨_, _, numAt_dp (gu.ex e3).at_, numAt_dp gv.at_, pair_shaped _ _, pair_shaped _ _, ?_⟩
    rw [eqv_pairs]
    have e4 : (decide (a.1 = b.1) && decide (a.2 = b.2)) = decide (a = b) := by
      rw [← Bool.decide_and]
      exact decide_eq_decide.mpr ⟨fun z => Prod.ext z.1 z.2, fun z => by rw [z]; exact ⟨rfl, rfl⟩⟩
    rw [e4]
    exact q H3 (e2.trans e3)
/-- two ways to one number are told as no difference -/
theorem evt_same {a b : Int × Int} {B1 B2 : Nat} (ha : EvN K ta σ H a B1) (hb : EvN K tb σ H b B2) (h : a = b) : EvT (tTest (tOp (rNeD K) ta tb)) σ H false := by
  have := et_test (evb_ne ha hb)
  rw [decide_eq_true h] at this
  exact this
theorem q_pass {t : TT} {tu tz : TS} {D : Ends} (h : EvT t σ H false) (k : ∀ H1, Ex H H1 → tz D σ H1) : tSeq (tIfS t tu tNext) tz D σ H := q_when h (fun z => by cases z) (fun _ => k)
/-! ### what is kept where one list changes -/
def Keeps (p : Addr) (H H' : Hp) : Prop := ∀ b o, H b = some o → b ≠ p → H' b = some o
theorem sqT_keep {p a : Addr} {xs ys : List V} (h : SqT K H a xs) (hp : H p = some (.lst ys)) (k : Keeps p H H') : SqT K H' a xs := by
  rcases h with (h | ⟨o, h⟩) | h
  · exact .inl (.inl (k _ _ h (fun z => by rw [z, hp] at h; cases h)))
  · exact .inl (.inr ⟨o, k _ _ h (fun z => by rw [z, hp] at h; cases h)⟩)
  · exact .inr h
theorem gn_keep {p : Addr} {v : V} {n : Int × Int} {B : Nat} {ys : List V} (g : Gn K H v n B) (hp : H p = some (.lst ys)) (k : Keeps p H H') : Gn K H' v n B := by
  obtain ⟨⟨a, rfl, h⟩, h2, h3⟩ := g
  exact ⟨⟨a, rfl, sqT_keep h hp k⟩, h2, h3⟩
theorem keeps_upd {p : Addr} {o : HO} : Keeps p H (upd H p o) := fun b o' h hb => by
  rw [upd_ne hb]
  exact h
theorem Keeps.trans {p : Addr} {H1 : Hp} (a : Keeps p H H') (b : Keeps p H' H1) : Keeps p H H1 := fun c o h hc => b c o (a c o h hc) hc
theorem keeps_ex {p : Addr} (e : Ex H H') : Keeps p H H' := fun b o h _ => e b o h
end
end Onc

namespace Onc
open PySem PySem.Spec PyProof.Rows L2 Evl
/-! ### how sums, products and orders go together -/
section
variable {a b c : Int × Int} {E : Int}
theorem padd_comm (a b : Int × Int) : padd a b = padd b a := by
  rw [padd_at (E := min a.2 b.2) (by omega) (by omega), padd_at (a := b) (b := a) (E := min a.2 b.2) (by omega) (by omega), Int.add_comm]
theorem pmul_comm (a b : Int × Int) : pmul a b = pmul b a := by
  unfold pmul
  rw [Int.mul_comm, Int.add_comm]
theorem at_add (ha : E ≤ a.2) (hb : E ≤ b.2) : at_ (padd a b) E = at_ a E + at_ b E := by
  rw [padd_at ha hb, at_same]
theorem at_sub (ha : E ≤ a.2) (hb : E ≤ b.2) : at_ (psub a b) E = at_ a E - at_ b E := by
  rw [psub_at ha hb, at_same]
theorem le_add (ha : E ≤ a.2) (hb : E ≤ b.2) (h0 : E ≤ 0) : E ≤ (padd a b).2 := by
  rw [padd_at ha hb]
  exact nrm_le h0
theorem le_sub (ha : E ≤ a.2) (hb : E ≤ b.2) (h0 : E ≤ 0) : E ≤ (psub a b).2 := by
  rw [psub_at ha hb]
  exact nrm_le h0
theorem at_mul {F : Int} (ha : E ≤ a.2) (hb : F ≤ b.2) : at_ (pmul a b) (E + F) = at_ a E * at_ b F := by
  rw [pmul_at ha hb, at_same]
theorem le_mul {F : Int} (ha : E ≤ a.2) (hb : F ≤ b.2) (h0 : E + F ≤ 0) : E + F ≤ (pmul a b).2 := by
  rw [pmul_at ha hb]
  exact nrm_le h0
/-- a power below all -/
theorem low3 (a b c : Int × Int) : ∃ E : Int, E ≤ a.2 ∧ E ≤ b.2 ∧ E ≤ c.2 ∧ E ≤ 0 := ⟨min (min a.2 b.2) (min c.2 0), by omega, by omega, by omega, by omega⟩
theorem padd_assoc (a b c : Int × Int) : padd (padd a b) c = padd a (padd b c) := by
  obtain ⟨E, ha, hb, hc, h0⟩ := low3 a b c
  rw [padd_at (le_add ha hb h0) hc, padd_at (b := padd b c) ha (le_add hb hc h0), at_add ha hb, at_add hb hc, Int.add_assoc]
theorem pmul_assoc (a b c : Int × Int) : pmul (pmul a b) c = pmul a (pmul b c) := by
  obtain ⟨E, ha, hb, hc, h0⟩ := low3 a b c
  rw [pmul_at (E := E + E) (F := E) (le_mul ha hb (by omega)) hc, pmul_at (b := pmul b c) (E := E) (F := E + E) ha (le_mul hb hc (by omega)), at_mul ha hb, at_mul hb hc, Int.mul_assoc, Int.add_assoc]
theorem pmul_add (a b c : Int × Int) : pmul a (padd b c) = padd (pmul a b) (pmul a c) := by
  obtain ⟨E, ha, hb, hc, h0⟩ := low3 a b c
  rw [pmul_at (E := E) (F := E) ha (le_add hb hc h0), padd_at (E := E + E) (le_mul ha hb (by omega)) (le_mul ha hc (by omega)), at_add hb hc, at_mul ha hb, at_mul ha hc, Int.mul_add]
theorem sub_add (hn : isNumB a.1 a.2 = true) : psub (padd a b) b = a := by
  obtain ⟨E, ha, hb, hc, h0⟩ := low3 a b b
  rw [psub_at (le_add ha hb h0) hb, at_add ha hb, Int.add_sub_cancel, num_at hn ha]
theorem add_sub (hn : isNumB a.1 a.2 = true) : padd (psub a b) b = a := by
  obtain ⟨E, ha, hb, hc, h0⟩ := low3 a b b
  rw [padd_at (le_sub ha hb h0) hb, at_sub ha hb, Int.sub_add_cancel, num_at hn ha]
theorem sub_self (a : Int × Int) : psub a a = (0, 0) := by
  rw [psub_at (E := a.2) (by omega) (by omega), Int.sub_self]
  rfl
theorem mul_one (hn : isNumB a.1 a.2 = true) : pmul a (1, 0) = a := by
  show nrm (a.1 * 1) (a.2 + 0) = a
  rw [Int.mul_one, Int.add_zero, nrm_self hn]
theorem add_zero (hn : isNumB a.1 a.2 = true) : padd a (0, 0) = a := by
  obtain ⟨E, ha, _, _, h0⟩ := low3 a a a
  rw [padd_at (b := (0, 0)) ha h0]
  have e : at_ (0, 0) E = 0 := Int.zero_mul _
  rw [e, Int.add_zero, num_at hn ha]
theorem mul_zero (a : Int × Int) : pmul a (0, 0) = (0, 0) := by
  show nrm (a.1 * 0) (a.2 + 0) = (0, 0)
  rw [Int.mul_zero]
  rfl
theorem zero_sub (a : Int × Int) : psub (0, 0) a = pmul a (-1, 0) := by
  obtain ⟨E, ha, _, _, h0⟩ := low3 a a a
  rw [psub_at (a := (0, 0)) h0 ha]
  have e : at_ (0, 0) E = 0 := Int.zero_mul _
  rw [e, pmul_at (b := (-1, 0)) (E := E) (F := 0) ha (Int.le_refl 0), Int.add_zero]
  have e2 : at_ (-1, 0) 0 = -1 := rfl
  rw [e2]
  congr 1
  omega
theorem ord_add (a b c : Int × Int) : pord (padd a c) (padd b c) = pord a b := by
  obtain ⟨E, ha, hb, hc, h0⟩ := low3 a b c
  rw [pord_at (le_add ha hc h0) (le_add hb hc h0), pord_at ha hb, at_add ha hc, at_add hb hc]
  congr 1
  omega
theorem sgn_prod (x y : Int) : sgn (x * y) = sgn x * sgn y := by
  rcases Int.lt_trichotomy x 0 with h | h | h <;> rcases Int.lt_trichotomy y 0 with g | g | g
  · rw [sgn_neg h, sgn_neg g, sgn_pos (Int.mul_pos_of_neg_of_neg h g)]
    rfl
  · subst g
    rw [Int.mul_zero, sgn_zero, Int.mul_zero]
  · rw [sgn_neg h, sgn_pos g, sgn_neg (Int.mul_neg_of_neg_of_pos h g)]
    rfl
  · subst h
    rw [Int.zero_mul, sgn_zero, Int.zero_mul]
  · subst h
    rw [Int.zero_mul, sgn_zero, Int.zero_mul]
  · subst h
    rw [Int.zero_mul, sgn_zero, Int.zero_mul]
  · rw [sgn_pos h, sgn_neg g, sgn_neg (Int.mul_neg_of_pos_of_neg h g)]
    rfl
  · subst g
    rw [Int.mul_zero, sgn_zero, Int.mul_zero]
  · rw [sgn_pos h, sgn_pos g, sgn_pos (Int.mul_pos h g)]
    rfl
theorem ord_mul (a b c : Int × Int) : pord (pmul a c) (pmul b c) = pord a b * sgn c.1 := by
  obtain ⟨E, ha, hb, hc, h0⟩ := low3 a b c
  rw [pord_at (E := E + E) (le_mul ha hc (by omega)) (le_mul hb hc (by omega)), pord_at ha hb, at_mul ha hc, at_mul hb hc, ← Int.sub_mul, sgn_prod, at_sgn c]
theorem ord_zero (hn : isNumB a.1 a.2 = true) (hm : isNumB b.1 b.2 = true) : pord a b = 0 ↔ a = b := by
  obtain ⟨E, ha, hb, _, h0⟩ := low3 a b b
  constructor
  · intro h
    rw [pord_at ha hb] at h
    have := sgn_of_zero h
    rw [← num_at hn ha, ← num_at hm hb, show at_ a E = at_ b E by omega]
  · intro h
    subst h
    unfold pord
    rw [Int.sub_self]
    rfl
theorem sgn_le {x : Int} (h : sgn x ≤ 0) : x ≤ 0 := by
  rcases Int.lt_trichotomy x 0 with q | q | q
  · omega
  · omega
  · rw [sgn_pos q] at h
    omega
theorem ord_trans (h1 : pord a b ≤ 0) (h2 : pord b c ≤ 0) : ¬ 0 < pord a c := by
  obtain ⟨E, ha, hb, hc, h0⟩ := low3 a b c
  rw [pord_at ha hb] at h1
  rw [pord_at hb hc] at h2
  rw [pord_at ha hc]
  have h1 := sgn_le h1
  have h2 := sgn_le h2
  intro h
  have h3 : ¬ 0 < at_ a E - at_ c E := by omega
  rcases sgn_cases (at_ a E - at_ c E) with q | q | q
  · exact h3 (sgn_of_pos q)
  · omega
  · omega
theorem pord_range (a b : Int × Int) : -1 ≤ pord a b ∧ pord a b ≤ 1 := by
  unfold pord
  rcases sgn_cases (at_ a (min a.2 b.2) - at_ b (min a.2 b.2)) with z | z | z <;> rw [z] <;> decide
theorem b2i_sgn (x : Int) : (if decide (0 < x) = true then (1 : Int) else 0) - (if decide (x < 0) = true then 1 else 0) = sgn x := by
  rcases Int.lt_trichotomy x 0 with q | q | q
  · rw [sgn_neg q, decide_eq_true q, decide_eq_false (by omega)]
    rfl
  · subst q
    rfl
  · rw [sgn_pos q, decide_eq_true q, decide_eq_false (by omega)]
    rfl
end
theorem num_zero {n : Int × Int} (h : isNumB n.1 n.2 = true) (h0 : n.1 = 0) : n = (0, 0) := by
  unfold isNumB at h
  rw [h0] at h
  rcases Bool.or_eq_true_iff.mp h with q | q
  · exact absurd (of_decide_eq_true q) (by decide)
  · exact Prod.ext h0 (of_decide_eq_true (Bool.and_eq_true_iff.mp q).2)
theorem num_odd {n : Int × Int} (h : isNumB n.1 n.2 = true) (h0 : n.1 ≠ 0) : n.1 % 2 = 1 := by
  unfold isNumB at h
  rcases Bool.or_eq_true_iff.mp h with q | q
  · exact of_decide_eq_true q
  · exact absurd (of_decide_eq_true (Bool.and_eq_true_iff.mp q).1) h0
theorem odd_num {m e : Int} (h : m % 2 = 1) : isNumB m e = true := by
  unfold isNumB
  rw [decide_eq_true h]
  rfl
theorem padd_zero_r {a b : Int × Int} (ha : isNumB a.1 a.2 = true) (h : b = (0, 0)) : padd a b = a := by
  subst h
  exact add_zero ha
/-- the sum at the lesser power, where the other one is even there -/
theorem padd_gt {a b : Int × Int} (hb : isNumB b.1 b.2 = true) (h0 : b.1 ≠ 0) (h : b.2 < a.2) : padd a b = (a.1 * 2 ^ (a.2 - b.2).toNat + b.1, b.2) := by
  rw [padd_at (E := b.2) (by omega) (by omega)]
  have e1 : at_ b b.2 = b.1 := by
    unfold at_
    rw [show (b.2 - b.2).toNat = 0 by omega, Int.pow_zero, Int.mul_one]
  rw [e1]
  refine nrm_self (odd_num ?_)
  have o := num_odd hb h0
  show (a.1 * 2 ^ (a.2 - b.2).toNat + b.1) % 2 = 1
  obtain ⟨k, hk⟩ : ∃ k, (a.2 - b.2).toNat = k + 1 := ⟨(a.2 - b.2).toNat - 1, by omega⟩
  rw [hk, Int.pow_succ, ← Int.mul_assoc]
  generalize a.1 * 2 ^ k = z
  omega
end Onc

namespace Onc
open PySem PySem.Spec PyProof.Rows L2 Evl
/-! ### lists of numbers -/
section
variable {K : PySem.W.Frag} {σ : L2.St} {H H' : Hp} {ta tb tc te : TE}
def GnL (K : PySem.W.Frag) (H : Hp) (B : Nat) : List V → List (Int × Int) → Prop
  | [], [] => True
  | v :: vs, n :: ns => Gn K H v n B ∧ GnL K H B vs ns
  | _, _ => False
theorem gnL_ex {B : Nat} (e : Ex H H') : ∀ {vs : List V} {ns : List (Int × Int)}, GnL K H B vs ns → GnL K H' B vs ns
  | [], [], _ => trivial
  | _ :: _, _ :: _, h => ⟨h.1.ex e, gnL_ex e h.2⟩
theorem gnL_len {B : Nat} : ∀ {vs : List V} {ns : List (Int × Int)}, GnL K H B vs ns → vs.length = ns.length
  | [], [], _ => rfl
  | _ :: _, _ :: _, h => congrArg Nat.succ (gnL_len h.2)
theorem gnL_keep {B : Nat} {p : Addr} {ys : List V} (hp : H p = some (.lst ys)) (k : Keeps p H H') : ∀ {vs : List V} {ns : List (Int × Int)}, GnL K H B vs ns → GnL K H' B vs ns
  | [], [], _ => trivial
  | _ :: _, _ :: _, h => ⟨gn_keep h.1 hp k, gnL_keep hp k h.2⟩
theorem gnL_app {B : Nat} : ∀ {vs ws : List V} {ns ms : List (Int × Int)}, GnL K H B vs ns → GnL K H B ws ms → GnL K H B (vs ++ ws) (ns ++ ms)
  | [], _, [], _, _, h => h
  | _ :: _, _, _ :: _, _, h1, h => ⟨h1.1, gnL_app h1.2 h⟩
theorem gnL_mem {B : Nat} : ∀ {vs : List V} {ns : List (Int × Int)}, GnL K H B vs ns → ∀ {i : Nat} {v : V}, vs[i]? = some v → ∃ n, Gn K H v n B
  | [], [], _, i, v, h => by simp at h
  | x :: _, n :: _, g, 0, v, h => by
    have e : x = v := Option.some.inj h
    subst e
    exact ⟨n, g.1⟩
  | _ :: _, _ :: _, g, i + 1, v, h => gnL_mem g.2 (i := i) h
def pairD (n : Int × Int) : PyData := .tuple [.int n.1, .int n.2]
theorem gnL_dp {B : Nat} : ∀ {vs : List V} {ns : List (Int × Int)}, GnL K H B vs ns → DpAll K H vs (ns.map pairD)
  | [], [], _ => .nil
  | _ :: _, _ :: _, h => .cons (numAt_dp h.1.at_) (gnL_dp h.2)
theorem lay_pairs : ∀ ns : List (Int × Int), PyData.canLayAll0 (ns.map pairD) = true
  | [] => rfl
  | n :: ns => by
    show (PyData.canLay0 (pairD n) && PyData.canLayAll0 (ns.map pairD)) = true
    rw [lay_pairs ns]
    rfl
theorem dep_pairs : ∀ ns : List (Int × Int), PyData.depthAll (ns.map pairD) ≤ 1
  | [] => by simp [PyData.depthAll]
  | n :: ns => by
    have h := dep_pairs ns
    have h2 : PyData.depth (pairD n) = 1 := by simp [pairD, PyData.depth, PyData.depthAll]
    have e : PyData.depthAll ((n :: ns).map pairD) = max (PyData.depth (pairD n)) (PyData.depthAll (ns.map pairD)) := by rw [List.map_cons, PyData.depthAll]
    rw [e, h2]
    omega
theorem list_lay (ns : List (Int × Int)) : PyData.canLay0 (.list (ns.map pairD)) = true := by
  rw [PyData.canLay0]
  exact lay_pairs ns
theorem list_shaped (ns : List (Int × Int)) : SeqAt.shaped (.list (ns.map pairD)) = true := by
  unfold SeqAt.shaped
  rw [list_lay ns, PyData.depth]
  have := dep_pairs ns
  rw [decide_eq_true (by omega)]
  rfl
/-- a list of these numbers -/
def LnAt (K : PySem.W.Frag) (H : Hp) (v : V) (ns : List (Int × Int)) (B : Nat) : Prop := ∃ p vs, v = .ref p ∧ H p = some (.lst vs) ∧ GnL K H B vs ns
theorem lnAt_ex {v : V} {ns : List (Int × Int)} {B : Nat} (e : Ex H H') (h : LnAt K H v ns B) : LnAt K H' v ns B := by
  obtain ⟨p, vs, e1, h1, h2⟩ := h
  exact ⟨p, vs, e1, e _ _ h1, gnL_ex e h2⟩
theorem evt_lists {u v : V} {i j : Nat} {ns : List (Int × Int)} {B C : Nat} (hu : σ[i]? = some (some u)) (hv : σ[j]? = some (some v)) (h1 : LnAt K H u ns B) (h2 : LnAt K H v ns C) : EvT (tTest (tOp (rNeD K) (tVar i) (tVar j))) σ H false := fun H1 e Q q => by
  obtain ⟨p, vs, rfl, hp, gp⟩ := lnAt_ex e h1
  obtain ⟨r, ws, rfl, hr, gr⟩ := lnAt_ex e h2
  refine ⟨.ref p, hu, .ref r, hv, .list (ns.map pairD), .list (ns.map pairD), .lst (sq_of hp) (gnL_dp gp), .lst (sq_of hr) (gnL_dp gr), list_shaped ns, list_shaped ns, false, ?_, q H1 (Ex.refl H1)⟩
  rw [SeqAt.eqv_refl _ (list_lay ns)]
  rfl
def EvNs (K : PySem.W.Frag) (ta : TA) (σ : L2.St) (H : Hp) (ns : List (Int × Int)) (B : Nat) : Prop := ∀ H1, Ex H H1 → ∀ Q : List V → Hp → Prop, (∀ vs H2, Ex H1 H2 → GnL K H2 B vs ns → Q vs H2) → ta σ H1 Q
theorem evns_nil {B : Nat} : EvNs K tNil σ H [] B := fun H1 _ _ q => q [] H1 (Ex.refl H1) trivial
theorem evns_cons {tr : TA} {n : Int × Int} {ns : List (Int × Int)} {B C : Nat} (h : EvN K ta σ H n C) (hr : EvNs K tr σ H ns B) (l : C ≤ B := by decide) : EvNs K (tCons ta tr) σ H (n :: ns) B := fun H1 e Q q =>
  h H1 e _ fun v H2 e2 g => hr H2 (e.trans e2) _ fun vs H3 e3 hv => q (v :: vs) H3 (e2.trans e3) ⟨(g.ex e3).mono l, hv⟩
theorem EvNs.mono {ta : TA} {ns : List (Int × Int)} {B : Nat} (h : EvNs K ta σ H ns B) (e : Ex H H') : EvNs K ta σ H' ns B := fun H1 e1 Q q => h H1 (e.trans e1) Q q
theorem q_asgLN {tr : TA} {ns : List (Int × Int)} {B i : Nat} {tz : TS} {D : Ends} (h : EvNs K tr σ H ns B) (hl : ns.length ≤ 1000) (k : ∀ p vs H1, Ex H H1 → H p = none → H1 p = some (.lst vs) → GnL K H1 B vs ns → tz D (σ.set i (some (.ref p))) H1) : tSeq (tAsg (tLst tr) (gName i)) tz D σ H :=
  h H (Ex.refl H) _ fun vs H2 e2 hv => ⟨sz_of (by rw [gnL_len hv]; omega), fun p hp => k p vs _ (e2.trans (Ex.new hp)) (fresh_back e2 hp) upd_same (gnL_ex (Ex.new hp) hv)⟩
theorem q_asgLNcat {tr : TA} {ns ms : List (Int × Int)} {B i j : Nat} {v : V} {tz : TS} {D : Ends} (hv : σ[j]? = some (some v)) (hn : LnAt K H v ns B) (h : EvNs K tr σ H ms B) (hl : ns.length + ms.length ≤ 1000) (k : ∀ w H1, Ex H H1 → LnAt K H1 w (ns ++ ms) B → tz D (σ.set i (some w)) H1) : tSeq (tAsg (tOp rCat (tVar j) (tLst tr)) (gName i)) tz D σ H := by
  obtain ⟨a, us, rfl, h1, h2⟩ := hn
  refine ⟨.ref a, hv, h H (Ex.refl H) _ fun vs H2 e2 hvs => ⟨sz_of (by rw [gnL_len hvs]; omega), fun p hp => ?_⟩⟩
  have ap : a ≠ p := ne_of_none (e2 _ _ h1) hp
  refine ⟨a, p, us, vs, rfl, rfl, by rw [upd_ne ap]; exact e2 _ _ h1, upd_same, sz_of (by rw [gnL_len h2, gnL_len hvs]; omega), fun r hr => ?_⟩
  have e3 := (e2.trans (Ex.new (o := .lst vs) hp)).trans (Ex.new (o := .lst (us ++ vs)) hr)
  exact k (.ref r) _ e3 ⟨r, us ++ vs, rfl, upd_same, gnL_app (gnL_ex e3 h2) (gnL_ex ((Ex.new hp).trans (Ex.new hr)) hvs)⟩
/-! ### by names -/
theorem evn_kw {g : Int × Int → Int × Int → Int × Int} {a b : Int × Int} {B1 B2 C : Nat} (ha : EvN K ta σ H a B1) (hb : EvN K tb σ H b B2) (l : B1 + B2 ≤ LIM) (hn : isNumB (g a b).1 (g a b).2 = true) (hC : Bd a (B1 + B2) → Bd b (B1 + B2) → Bd (g a b) C) :
    EvN K (tCallN 0 2 (spTwo K g) (fun _ zs => zs.reverse) E0 tNil (tCons tb (tCons ta tNil))) σ H (g a b) C := fun H1 e Q q =>
  hb H1 e _ fun v H2 e2 gv => ha H2 (e.trans e2) _ fun u H3 e3 gu => ⟨rfl, rfl, u, v, a, b, rfl, gu.mono (by omega), (gv.ex e3).mono (by omega), fun H4 w e4 hw => q w H4 ((e2.trans e3).trans e4) ⟨hw, hn, hC (gu.bd.mono (by omega)) (gv.bd.mono (by omega))⟩⟩
theorem ev_ordkw {a b : Int × Int} {B1 B2 : Nat} (ha : EvN K ta σ H a B1) (hb : EvN K tb σ H b B2) (l : B1 + B2 ≤ LIM) : Ev (tCallN 0 2 (spOrd K) (fun _ zs => zs.reverse) E0 tNil (tCons tb (tCons ta tNil))) σ H (.int (pord a b)) := fun H1 e Q q =>
  hb H1 e _ fun v H2 e2 gv => ha H2 (e.trans e2) _ fun u H3 e3 gu => ⟨rfl, rfl, u, v, a, b, rfl, gu.mono (by omega), (gv.ex e3).mono (by omega), fun H4 e4 => q H4 ((e2.trans e3).trans e4)⟩
end
theorem cmp_sgn (x y : Int) : (if decide (y < x) = true then (1 : Int) else 0) - (if decide (x < y) = true then 1 else 0) = sgn (x - y) := by
  rw [← b2i_sgn (x - y)]
  have e1 : decide (0 < x - y) = decide (y < x) := decide_eq_decide.mpr ⟨fun h => by omega, fun h => by omega⟩
  have e2 : decide (x - y < 0) = decide (x < y) := decide_eq_decide.mpr ⟨fun h => by omega, fun h => by omega⟩
  rw [e1, e2]
end Onc

namespace Onc
open PySem PySem.Spec PyProof.Rows L2 Evl
/-! ### least and greatest -/
def IsLeast (n : Int × Int) (ns : List (Int × Int)) : Prop := n ∈ ns ∧ ∀ m ∈ ns, pord n m ≤ 0
def IsGreat (n : Int × Int) (ns : List (Int × Int)) : Prop := n ∈ ns ∧ ∀ m ∈ ns, pord m n ≤ 0
def AllNum (ns : List (Int × Int)) : Prop := ∀ n ∈ ns, isNumB n.1 n.2 = true
theorem pord_anti {a b : Int × Int} (ha : isNumB a.1 a.2 = true) (hb : isNumB b.1 b.2 = true) (h1 : pord a b ≤ 0) (h2 : pord b a ≤ 0) : a = b := by
  rw [pord_swap a b] at h2
  exact (ord_zero ha hb).mp (by omega)
theorem least_unique {n m : Int × Int} {ns ms : List (Int × Int)} (h1 : IsLeast n ns) (h2 : IsLeast m ms) (hs : ∀ x, x ∈ ns ↔ x ∈ ms) (a : AllNum ns) : n = m :=
  pord_anti (a n h1.1) (a m ((hs m).mpr h2.1)) (h1.2 m ((hs m).mpr h2.1)) (h2.2 n ((hs n).mp h1.1))
theorem great_unique {n m : Int × Int} {ns ms : List (Int × Int)} (h1 : IsGreat n ns) (h2 : IsGreat m ms) (hs : ∀ x, x ∈ ns ↔ x ∈ ms) (a : AllNum ns) : n = m :=
  pord_anti (a n h1.1) (a m ((hs m).mpr h2.1)) (h2.2 n ((hs n).mp h1.1)) (h1.2 m ((hs m).mpr h2.1))
theorem pneg_pneg (a : Int × Int) : pneg (pneg a) = a := by
  unfold pneg
  simp
theorem pord_neg (a b : Int × Int) : pord (pneg a) (pneg b) = pord b a := by
  have ha : min a.2 b.2 ≤ (pneg a).2 := by show min a.2 b.2 ≤ a.2; omega
  have hb : min a.2 b.2 ≤ (pneg b).2 := by show min a.2 b.2 ≤ b.2; omega
  rw [pord_at ha hb, at_neg, at_neg, pord_at (a := b) (b := a) (E := min a.2 b.2) (by omega) (by omega)]
  congr 1
  omega
theorem great_neg {n : Int × Int} {ns : List (Int × Int)} (h : IsLeast n (ns.map pneg)) : IsGreat (pneg n) ns := by
  obtain ⟨h1, h2⟩ := h
  obtain ⟨m, hm, e⟩ := List.mem_map.mp h1
  refine ⟨by rw [← e, pneg_pneg]; exact hm, fun x hx => ?_⟩
  have := h2 (pneg x) (List.mem_map.mpr ⟨x, hx, rfl⟩)
  rw [← pneg_pneg x, pord_neg]
  exact this
theorem least_le_great {n m : Int × Int} {ns : List (Int × Int)} (h1 : IsLeast n ns) (h2 : IsGreat m ns) : pord n m ≤ 0 := h1.2 m h2.1
theorem add_le {a b c d : Int × Int} (h1 : pord a b ≤ 0) (h2 : pord c d ≤ 0) : pord (padd a c) (padd b d) ≤ 0 := by
  obtain ⟨E, ha, hb, hc, h0⟩ := low3 a b c
  obtain ⟨E2, ha2, hd, hc2, h02⟩ := low3 a d c
  have l : min E E2 ≤ a.2 ∧ min E E2 ≤ b.2 ∧ min E E2 ≤ c.2 ∧ min E E2 ≤ d.2 ∧ min E E2 ≤ 0 := by omega
  obtain ⟨la, lb, lc, ld, l0⟩ := l
  rw [pord_at la lb] at h1
  rw [pord_at lc ld] at h2
  rw [pord_at (le_add la lc l0) (le_add lb ld l0), at_add la lc, at_add lb ld]
  have h1 := sgn_le h1
  have h2 := sgn_le h2
  rcases sgn_cases (at_ a (min E E2) + at_ c (min E E2) - (at_ b (min E E2) + at_ d (min E E2))) with q | q | q
  · have := sgn_of_pos q
    omega
  · omega
  · omega
theorem pord_self (a : Int × Int) : pord a a = 0 := by
  unfold pord
  rw [Int.sub_self]
  rfl
/-! ### products of ends -/
theorem ord_at {a b : Int × Int} {E : Int} (ha : E ≤ a.2) (hb : E ≤ b.2) : pord a b ≤ 0 ↔ at_ a E ≤ at_ b E := by
  rw [pord_at ha hb]
  constructor
  · intro h
    have := sgn_le h
    omega
  · intro h
    rcases sgn_cases (at_ a E - at_ b E) with q | q | q
    · have := sgn_of_pos q
      omega
    · omega
    · omega
theorem at_nonneg {a : Int × Int} {E : Int} (h : 0 ≤ a.1) : 0 ≤ at_ a E := Int.mul_nonneg h (Int.le_of_lt (pow_pos2 _))
theorem at_nonpos {a : Int × Int} {E : Int} (h : a.1 ≤ 0) : at_ a E ≤ 0 := Int.mul_nonpos_of_nonpos_of_nonneg h (Int.le_of_lt (pow_pos2 _))
def prods (a b c d : Int × Int) : List (Int × Int) := [pmul a c, pmul a d, pmul b c, pmul b d]
section
variable {a b c d x y : Int × Int} {E : Int}
theorem ord_mul2 {z w : Int × Int} (hx : E ≤ x.2) (hy : E ≤ y.2) (hz : E ≤ z.2) (hw : E ≤ w.2) (h0 : E ≤ 0) : pord (pmul x y) (pmul z w) ≤ 0 ↔ at_ x E * at_ y E ≤ at_ z E * at_ w E := by
  rw [ord_at (le_mul hx hy (show E + E ≤ 0 by omega)) (le_mul hz hw (show E + E ≤ 0 by omega)), at_mul hx hy, at_mul hz hw]
theorem least4 (ha : E ≤ a.2) (hb : E ≤ b.2) (hc : E ≤ c.2) (hd : E ≤ d.2) (h0 : E ≤ 0) (hx : E ≤ x.2) (hy : E ≤ y.2) (hm : pmul x y ∈ prods a b c d)
    (h : at_ x E * at_ y E ≤ at_ a E * at_ c E ∧ at_ x E * at_ y E ≤ at_ a E * at_ d E ∧ at_ x E * at_ y E ≤ at_ b E * at_ c E ∧ at_ x E * at_ y E ≤ at_ b E * at_ d E) : IsLeast (pmul x y) (prods a b c d) := by
  refine ⟨hm, fun m hm => ?_⟩
  obtain ⟨h1, h2, h3, h4⟩ := h
  simp only [prods, List.mem_cons, List.not_mem_nil, or_false] at hm
  rcases hm with rfl | rfl | rfl | rfl
  · exact (ord_mul2 hx hy ha hc h0).mpr h1
  · exact (ord_mul2 hx hy ha hd h0).mpr h2
  · exact (ord_mul2 hx hy hb hc h0).mpr h3
  · exact (ord_mul2 hx hy hb hd h0).mpr h4
theorem great4 (ha : E ≤ a.2) (hb : E ≤ b.2) (hc : E ≤ c.2) (hd : E ≤ d.2) (h0 : E ≤ 0) (hx : E ≤ x.2) (hy : E ≤ y.2) (hm : pmul x y ∈ prods a b c d)
    (h : at_ a E * at_ c E ≤ at_ x E * at_ y E ∧ at_ a E * at_ d E ≤ at_ x E * at_ y E ∧ at_ b E * at_ c E ≤ at_ x E * at_ y E ∧ at_ b E * at_ d E ≤ at_ x E * at_ y E) : IsGreat (pmul x y) (prods a b c d) := by
  refine ⟨hm, fun m hm => ?_⟩
  obtain ⟨h1, h2, h3, h4⟩ := h
  simp only [prods, List.mem_cons, List.not_mem_nil, or_false] at hm
  rcases hm with rfl | rfl | rfl | rfl
  · exact (ord_mul2 ha hc hx hy h0).mpr h1
  · exact (ord_mul2 ha hd hx hy h0).mpr h2
  · exact (ord_mul2 hb hc hx hy h0).mpr h3
  · exact (ord_mul2 hb hd hx hy h0).mpr h4
theorem m_ac : pmul a c ∈ prods a b c d := by simp [prods]
theorem m_ad : pmul a d ∈ prods a b c d := by simp [prods]
theorem m_bc : pmul b c ∈ prods a b c d := by simp [prods]
theorem m_bd : pmul b d ∈ prods a b c d := by simp [prods]
theorem lm {p q r : Int} (h : p ≤ q) (hr : 0 ≤ r) : r * p ≤ r * q := Int.mul_le_mul_of_nonneg_left h hr
theorem lm' {p q r : Int} (h : p ≤ q) (hr : r ≤ 0) : r * q ≤ r * p := Int.mul_le_mul_of_nonpos_left hr h
theorem rm {p q r : Int} (h : p ≤ q) (hr : 0 ≤ r) : p * r ≤ q * r := Int.mul_le_mul_of_nonneg_right h hr
theorem rm' {p q r : Int} (h : p ≤ q) (hr : r ≤ 0) : q * r ≤ p * r := Int.mul_le_mul_of_nonpos_right h hr
theorem low4 (a b c d : Int × Int) : ∃ E : Int, E ≤ a.2 ∧ E ≤ b.2 ∧ E ≤ c.2 ∧ E ≤ d.2 ∧ E ≤ 0 := ⟨min (min (min a.2 b.2) (min c.2 d.2)) 0, by omega, by omega, by omega, by omega, by omega⟩
theorem ends_a (hab : pord a b ≤ 0) (hcd : pord c d ≤ 0) (h : 0 ≤ a.1) : IsLeast (pmul (if 0 ≤ c.1 then a else b) c) (prods a b c d) ∧ IsGreat (pmul (if 0 ≤ d.1 then b else a) d) (prods a b c d) := by
  obtain ⟨E, ha, hb, hc, hd, h0⟩ := low4 a b c d
  have A := (ord_at ha hb).mp hab
  have C := (ord_at hc hd).mp hcd
  have sA : 0 ≤ at_ a E := at_nonneg h
  have f1 := lm C sA
  have f2 := lm C (Int.le_trans sA A)
  constructor
  · by_cases z : 0 ≤ c.1
    · have sC : 0 ≤ at_ c E := at_nonneg z
      have f3 := rm A sC
      rw [if_pos z]
      exact least4 ha hb hc hd h0 ha hc m_ac ⟨Int.le_refl _, by omega, by omega, by omega⟩
    · have sC : at_ c E ≤ 0 := at_nonpos (by omega)
      have f3 := rm' A sC
      rw [if_neg z]
      exact least4 ha hb hc hd h0 hb hc m_bc ⟨by omega, by omega, Int.le_refl _, by omega⟩
  · by_cases z : 0 ≤ d.1
    · have sD : 0 ≤ at_ d E := at_nonneg z
      have f3 := rm A sD
      rw [if_pos z]
      exact great4 ha hb hc hd h0 hb hd m_bd ⟨by omega, by omega, by omega, Int.le_refl _⟩
    · have sD : at_ d E ≤ 0 := at_nonpos (by omega)
      have f3 := rm' A sD
      rw [if_neg z]
      exact great4 ha hb hc hd h0 ha hd m_ad ⟨by omega, Int.le_refl _, by omega, by omega⟩
theorem ends_b (hab : pord a b ≤ 0) (hcd : pord c d ≤ 0) (h : b.1 ≤ 0) : IsLeast (pmul (if 0 ≤ d.1 then a else b) d) (prods a b c d) ∧ IsGreat (pmul (if c.1 ≤ 0 then a else b) c) (prods a b c d) := by
  obtain ⟨E, ha, hb, hc, hd, h0⟩ := low4 a b c d
  have A := (ord_at ha hb).mp hab
  have C := (ord_at hc hd).mp hcd
  have sB : at_ b E ≤ 0 := at_nonpos h
  have f1 := lm' C sB
  have f2 := lm' C (Int.le_trans A sB)
  constructor
  · by_cases z : 0 ≤ d.1
    · have sD : 0 ≤ at_ d E := at_nonneg z
      have f3 := rm A sD
      rw [if_pos z]
      exact least4 ha hb hc hd h0 ha hd m_ad ⟨by omega, Int.le_refl _, by omega, by omega⟩
    · have sD : at_ d E ≤ 0 := at_nonpos (by omega)
      have f3 := rm' A sD
      rw [if_neg z]
      exact least4 ha hb hc hd h0 hb hd m_bd ⟨by omega, by omega, by omega, Int.le_refl _⟩
  · by_cases z : c.1 ≤ 0
    · have sC : at_ c E ≤ 0 := at_nonpos z
      have f3 := rm' A sC
      rw [if_pos z]
      exact great4 ha hb hc hd h0 ha hc m_ac ⟨Int.le_refl _, by omega, by omega, by omega⟩
    · have sC : 0 ≤ at_ c E := at_nonneg (by omega)
      have f3 := rm A sC
      rw [if_neg z]
      exact great4 ha hb hc hd h0 hb hc m_bc ⟨by omega, by omega, Int.le_refl _, by omega⟩
theorem ends_c (hab : pord a b ≤ 0) (hcd : pord c d ≤ 0) (h1 : a.1 ≤ 0) (h2 : 0 ≤ b.1) (h : 0 ≤ c.1) : IsLeast (pmul a d) (prods a b c d) ∧ IsGreat (pmul b d) (prods a b c d) := by
  obtain ⟨E, ha, hb, hc, hd, h0⟩ := low4 a b c d
  have A := (ord_at ha hb).mp hab
  have C := (ord_at hc hd).mp hcd
  have sC : 0 ≤ at_ c E := at_nonneg h
  have f1 := lm' C (at_nonpos (E := E) h1)
  have f2 := lm C (at_nonneg (E := E) h2)
  have f3 := rm A sC
  have f4 := rm A (Int.le_trans sC C)
  exact ⟨least4 ha hb hc hd h0 ha hd m_ad ⟨by omega, Int.le_refl _, by omega, by omega⟩, great4 ha hb hc hd h0 hb hd m_bd ⟨by omega, by omega, by omega, Int.le_refl _⟩⟩
theorem ends_d (hab : pord a b ≤ 0) (hcd : pord c d ≤ 0) (h1 : a.1 ≤ 0) (h2 : 0 ≤ b.1) (h : d.1 ≤ 0) : IsLeast (pmul b c) (prods a b c d) ∧ IsGreat (pmul a c) (prods a b c d) := by
  obtain ⟨E, ha, hb, hc, hd, h0⟩ := low4 a b c d
  have A := (ord_at ha hb).mp hab
  have C := (ord_at hc hd).mp hcd
  have sD : at_ d E ≤ 0 := at_nonpos h
  have f1 := lm' C (at_nonpos (E := E) h1)
  have f2 := lm C (at_nonneg (E := E) h2)
  have f3 := rm' A sD
  have f4 := rm' A (Int.le_trans C sD)
  exact ⟨least4 ha hb hc hd h0 hb hc m_bc ⟨by omega, by omega, Int.le_refl _, by omega⟩, great4 ha hb hc hd h0 ha hc m_ac ⟨Int.le_refl _, by omega, by omega, by omega⟩⟩
theorem ends_e (hab : pord a b ≤ 0) (hcd : pord c d ≤ 0) (h1 : a.1 ≤ 0) (h2 : 0 ≤ b.1) (h3 : c.1 ≤ 0) (h4 : 0 ≤ d.1) :
    IsLeast (if pord (pmul a d) (pmul b c) ≤ 0 then pmul a d else pmul b c) (prods a b c d) ∧ IsGreat (if 0 ≤ pord (pmul a c) (pmul b d) then pmul a c else pmul b d) (prods a b c d) := by
  obtain ⟨E, ha, hb, hc, hd, h0⟩ := low4 a b c d
  have A := (ord_at ha hb).mp hab
  have C := (ord_at hc hd).mp hcd
  have f1 := lm' C (at_nonpos (E := E) h1)
  have f2 := lm C (at_nonneg (E := E) h2)
  have f3 := rm' A (at_nonpos (E := E) h3)
  have f4 := rm A (at_nonneg (E := E) h4)
  constructor
  · by_cases z : pord (pmul a d) (pmul b c) ≤ 0
    · have z2 := (ord_mul2 ha hd hb hc h0).mp z
      rw [if_pos z]
      exact least4 ha hb hc hd h0 ha hd m_ad ⟨by omega, Int.le_refl _, by omega, by omega⟩
    · have z2 : ¬ at_ a E * at_ d E ≤ at_ b E * at_ c E := fun y => z ((ord_mul2 ha hd hb hc h0).mpr y)
      rw [if_neg z]
      exact least4 ha hb hc hd h0 hb hc m_bc ⟨by omega, by omega, Int.le_refl _, by omega⟩
  · by_cases z : 0 ≤ pord (pmul a c) (pmul b d)
    · have z1 : pord (pmul b d) (pmul a c) ≤ 0 := by rw [pord_swap]; omega
      have z2 := (ord_mul2 hb hd ha hc h0).mp z1
      rw [if_pos z]
      exact great4 ha hb hc hd h0 ha hc m_ac ⟨Int.le_refl _, by omega, by omega, by omega⟩
    · have z1 : pord (pmul a c) (pmul b d) ≤ 0 := by omega
      have z2 := (ord_mul2 ha hc hb hd h0).mp z1
      rw [if_neg z]
      exact great4 ha hb hc hd h0 hb hd m_bd ⟨by omega, by omega, by omega, Int.le_refl _⟩
end
/-! ### parts and choices of numbers -/
section
variable {K : PySem.W.Frag} {σ : L2.St} {H H' : Hp} {ta tb tc te : TE} {n m : Int × Int} {B : Nat}
theorem ev_m (h : EvN K te σ H n B) : Ev (tOp (rIxT K) te (tC (.int 0))) σ H (.int n.1) := fun H1 e Q q =>
  h H1 e _ fun v H2 e2 g => by
    obtain ⟨a, rfl, ha⟩ := g.at_
    exact ⟨a, [.int n.1, .int n.2], 0, .int n.1, rfl, rfl, ha, rfl, q H2 e2⟩
theorem ev_e (h : EvN K te σ H n B) : Ev (tOp (rIxT K) te (tC (.int 1))) σ H (.int n.2) := fun H1 e Q q =>
  h H1 e _ fun v H2 e2 g => by
    obtain ⟨a, rfl, ha⟩ := g.at_
    exact ⟨a, [.int n.1, .int n.2], 1, .int n.2, rfl, rfl, ha, rfl, q H2 e2⟩
theorem evp_if {P : Hp → V → Prop} {t : TT} {b : Bool} (h : EvT t σ H b) (h1 : b = true → EvP P ta σ H) (h2 : b = false → EvP P tb σ H) : EvP P (tIf t ta tb) σ H := fun H1 e Q q => h H1 e _ fun H2 e2 => by
  cases b with
  | true => exact (h1 rfl) H2 (e.trans e2) _ fun v H3 e3 g => q v H3 (e2.trans e3) g
  | false => exact (h2 rfl) H2 (e.trans e2) _ fun v H3 e3 g => q v H3 (e2.trans e3) g
theorem evn_if {t : TT} {p : Prop} [Decidable p] (h : EvT t σ H (decide p)) (h1 : EvN K ta σ H n B) (h2 : EvN K tb σ H m B) : EvN K (tIf t ta tb) σ H (if p then n else m) B := by
  by_cases z : p
  · rw [if_pos z]
    exact evp_if h (fun _ => h1) (fun y => by rw [decide_eq_true z] at y; cases y)
  · rw [if_neg z]
    exact evp_if h (fun y => by rw [decide_eq_false z] at y; cases y) (fun _ => h2)
theorem evn_les (ha : EvN K ta σ H n B) (hb : EvN K tb σ H m B) (l : B ≤ LIM := by decide) : EvN K (tCall (spLes K) [] E0 (tCons ta (tCons tb tNil))) σ H (if pord n m ≤ 0 then n else m) B := fun H1 e Q q =>
  ha H1 e _ fun u H2 e2 gu => hb H2 (e.trans e2) _ fun v H3 e3 gv => ⟨u, v, n, m, rfl, (gu.ex e3).mono l, gv.mono l, fun z H4 e4 => by rw [if_pos z] at q; exact q u H4 ((e2.trans e3).trans e4) ((gu.ex e3).ex e4), fun z H4 e4 => by rw [if_neg (by omega)] at q; exact q v H4 ((e2.trans e3).trans e4) (gv.ex e4)⟩
theorem evn_gre (ha : EvN K ta σ H n B) (hb : EvN K tb σ H m B) (l : B ≤ LIM := by decide) : EvN K (tCall (spGre K) [] E0 (tCons ta (tCons tb tNil))) σ H (if 0 ≤ pord n m then n else m) B := fun H1 e Q q =>
  ha H1 e _ fun u H2 e2 gu => hb H2 (e.trans e2) _ fun v H3 e3 gv => ⟨u, v, n, m, rfl, (gu.ex e3).mono l, gv.mono l, fun z H4 e4 => by rw [if_pos z] at q; exact q u H4 ((e2.trans e3).trans e4) ((gu.ex e3).ex e4), fun z H4 e4 => by rw [if_neg (by omega)] at q; exact q v H4 ((e2.trans e3).trans e4) (gv.ex e4)⟩
end
/-! ### what is known of the class Stretch -/
structure StrC (K : PySem.W.Frag) (mg : Str → Option Value) (C : Addr) : Prop where
  m : mg "Stretch" = some (.ref C)
  cl : Cls K C
  nl : NoAttr K C "low"
  nh : NoAttr K C "high"
  ha : PySem.W.findIn K (.ref C) "__class__" = some (some (.builtin "object.__class__"))
  hn : PySem.W.specialIn K (.builtin "object.__class__") "__get__" = some (some (.builtin "getset_descriptor.__get__"))
  htk : PySem.W.takesIn K (.builtin "object.__class__") = some true
  hm : PySem.W.mroIn K C (.type "object") = some true
structure CalI (P : Program) (w : World) (K : PySem.W.Frag) (mg : Str → Option Value) (base : Heap) (CX : CXT) (k : Nat) (ps : List Str) (sp : Sp) (f : Addr) (fd : FuncData) : Prop where
  ok : FnOk P w K mg base CX k f fd ps sp
  b : Binds K fd ps []
structure CalK (P : Program) (w : World) (K : PySem.W.Frag) (mg : Str → Option Value) (base : Heap) (CX : CXT) (k : Nat) (x : Str) (ps : List Str) (sp : Sp) (f : Addr) (fd : FuncData) : Prop where
  ok : FnOk P w K mg base CX k f fd ps sp
  m : mg x = some (.ref f)
  kp : PySem.W.keepIn K (.ref f) = true
def StrAt (K : PySem.W.Frag) (C : Addr) (B : Nat) (a b : Int × Int) (H : Hp) (v : V) : Prop := ∃ x dx u w, v = .ref x ∧ H x = some (.ins C dx [("low", u), ("high", w)]) ∧ Gn K H u a B ∧ Gn K H w b B
section
variable {K : PySem.W.Frag} {mg : Str → Option Value} {C : Addr} {σ : L2.St} {H H' : Hp} {ta tb tc te : TE} {a b : Int × Int} {B : Nat}
theorem str_mono : Mono (StrAt K C B a b) := fun _ _ _ e ⟨x, dx, u, w, e1, h, g1, g2⟩ => ⟨x, dx, u, w, e1, e _ _ h, g1.ex e, g2.ex e⟩
theorem kit_self : PySem.W.kitOne K (.ref C) (.ref C) = some true := by
  unfold PySem.W.kitOne
  simp
theorem isi_str {v : V} {Q : VK} (S : StrC K mg C) (h : StrAt K C B a b H v) (q : Q (.bl true) H) : rIsi K [v, .ref C] H Q := by
  obtain ⟨x, dx, u, w, rfl, hx, _, _⟩ := h
  exact ⟨.ref x, .ref C, .ref C, .ref C, true, rfl, .own C, .base (.ins hx S.cl S.ha S.hn S.htk S.hm), kit_self, q⟩
theorem ev_isS (S : StrC K mg C) (h : EvP (StrAt K C B a b) ta σ H) : Ev (tCB (rIsi K) (tCons ta (tCons (tC (.ref C)) tNil))) σ H (.bl true) := fun H1 e Q q =>
  h H1 e _ fun v H2 e2 g => isi_str S g (q H2 e2)
theorem evn_low (S : StrC K mg C) (h : EvP (StrAt K C B a b) ta σ H) : EvN K (tFld K ta "low") σ H a B := fun H1 e Q q =>
  h H1 e _ fun v H2 e2 ⟨x, dx, u, w, e1, hx, g1, g2⟩ => ⟨x, C, dx, _, u, e1, hx, S.cl, S.nl, rfl, q u H2 e2 g1⟩
theorem evn_high (S : StrC K mg C) (h : EvP (StrAt K C B a b) ta σ H) : EvN K (tFld K ta "high") σ H b B := fun H1 e Q q =>
  h H1 e _ fun v H2 e2 ⟨x, dx, u, w, e1, hx, g1, g2⟩ => ⟨x, C, dx, _, w, e1, hx, S.cl, S.nh, by rfl, q w H2 e2 g2⟩
theorem evs_var {i : Nat} {v : V} (hv : σ[i]? = some (some v)) (h : StrAt K C B a b H v) : EvP (StrAt K C B a b) (tVar i) σ H := evp_of (ev_var hv) str_mono h
def spInit (K : PySem.W.Frag) (C : Addr) : Sp := fun vs H Q _ => ∃ x dx u v a b, vs = [.ref x, u, v] ∧ H x = some (.ins C dx []) ∧ Gn K H u a LIM ∧ Gn K H v b LIM ∧ pord a b ≤ 0 ∧
  ∀ H', (∀ c o, H c = some o → c ≠ x → H' c = some o) → H' x = some (.ins C dx [("low", u), ("high", v)]) → Q .non H'
theorem evs_make {B1 B2 : Nat} (ha : EvN K ta σ H a B1) (hb : EvN K tb σ H b B2) (l1 : B1 ≤ B) (l2 : B2 ≤ B) (lB : B ≤ LIM) (hle : pord a b ≤ 0) : EvP (StrAt K C B a b) (tMake C (spInit K C) [] E0 (tCons ta (tCons tb tNil))) σ H := fun H1 e Q q =>
  ha H1 e _ fun u H2 e2 gu => hb H2 (e.trans e2) _ fun v H3 e3 gv => fun x dx hx hdx ne => by
    have en : Ex H3 (upd (upd H3 dx (.own x)) x (.ins C dx [])) := fun c o h => by
      rw [upd_ne (ne_of_none h hx), upd_ne (ne_of_none h hdx)]
      exact h
    refine ⟨x, dx, u, v, a, b, rfl, upd_same, ((gu.ex e3).ex en).mono (by omega), (gv.ex en).mono (by omega), hle, fun H' k h' => ⟨rfl, ?_⟩⟩
    have ef : Ex H3 H' := fun c o h => k c o (en c o h) (ne_of_none h hx)
    exact q (.ref x) H' ((e2.trans e3).trans ef) ⟨x, dx, u, v, rfl, h', ((gu.ex e3).ex ef).mono l1, (gv.ex ef).mono l2⟩
theorem o_call {sp : Sp} {dvs : List V} {E : XK} {t : TA} {Q : VK} (h : t σ H fun vs H1 => sp (vs ++ dvs) H1 Q E) : tCall sp dvs E t σ H Q := h
theorem o_itup {tl : TE} {R : It → Hp → Prop} (h : tl σ H fun x H1 => ∃ a, x = .ref a ∧ (∃ xs, SqT K H1 a xs) ∧ R (Itt K a) H1) : iTup K tl σ H R := h
theorem o_op {r : R2} {Q : VK} (h : ta σ H fun x H1 => tb σ H1 fun y H2 => r x y H2 Q) : tOp r ta tb σ H Q := h
theorem o_var {i : Nat} {v : V} {Q : VK} (hv : σ[i]? = some (some v)) (h : Q v H) : tVar i σ H Q := ⟨v, hv, h⟩
theorem o_cons {tr : TA} {Q : List V → Hp → Prop} (h : ta σ H fun x H1 => tr σ H1 fun xs H2 => Q (x :: xs) H2) : tCons ta tr σ H Q := h
/-! ### pairs of numbers -/
def PairAt (K : PySem.W.Frag) (B : Nat) (a b : Int × Int) (H : Hp) (v : V) : Prop := ∃ p x y, v = .ref p ∧ SqT K H p [x, y] ∧ Gn K H x a B ∧ Gn K H y b B
theorem pair_mono : Mono (PairAt K B a b) := fun _ _ _ e ⟨p, x, y, e1, h, g1, g2⟩ => ⟨p, x, y, e1, ex_t e h, g1.ex e, g2.ex e⟩
theorem evn_fst (h : EvP (PairAt K B a b) ta σ H) : EvN K (tOp (rIxT K) ta (tC (.int 0))) σ H a B := fun H1 e Q q =>
  h H1 e _ fun v H2 e2 ⟨p, x, y, e1, hp, g1, g2⟩ => ⟨p, [x, y], 0, x, e1, rfl, hp, rfl, q x H2 e2 g1⟩
theorem evn_snd (h : EvP (PairAt K B a b) ta σ H) : EvN K (tOp (rIxT K) ta (tC (.int 1))) σ H b B := fun H1 e Q q =>
  h H1 e _ fun v H2 e2 ⟨p, x, y, e1, hp, g1, g2⟩ => ⟨p, [x, y], 1, y, e1, rfl, hp, rfl, q y H2 e2 g2⟩
theorem evpair_var {i : Nat} {v : V} (hv : σ[i]? = some (some v)) (h : PairAt K B a b H v) : EvP (PairAt K B a b) (tVar i) σ H := evp_of (ev_var hv) pair_mono h
theorem evpair_mk {B1 B2 : Nat} (ha : EvN K ta σ H a B1) (hb : EvN K tb σ H b B2) (l1 : B1 ≤ B) (l2 : B2 ≤ B) : EvP (PairAt K B a b) (tTup (tCons ta (tCons tb tNil))) σ H := fun H1 e Q q =>
  ha H1 e _ fun u H2 e2 gu => hb H2 (e.trans e2) _ fun v H3 e3 gv => ⟨by show 2 ≤ sizeLine; decide, fun p hp => q (.ref p) _ ((e2.trans e3).trans (Ex.new hp)) ⟨p, u, v, rfl, st_of upd_same, (gu.ex (e3.trans (Ex.new hp))).mono l1, (gv.ex (Ex.new hp)).mono l2⟩⟩
theorem pair_dp2 {v : V} (h : PairAt K B a b H v) : Dp K H v (.tuple [pairD a, pairD b]) := by
  obtain ⟨p, x, y, rfl, hp, g1, g2⟩ := h
  exact .tup hp (.cons (numAt_dp g1.at_) (.cons (numAt_dp g2.at_) .nil))
theorem pair2_lay (a b : Int × Int) : PyData.canLay0 (.tuple [pairD a, pairD b]) = true := rfl
theorem pair2_shaped (a b : Int × Int) : SeqAt.shaped (.tuple [pairD a, pairD b]) = true := rfl
theorem evt_pairs {c d : Int × Int} {B2 : Nat} (h1 : EvP (PairAt K B a b) ta σ H) (h2 : EvP (PairAt K B2 c d) tb σ H) (e1 : a = c) (e2 : b = d) : EvT (tTest (tOp (rNeD K) ta tb)) σ H false := fun H1 e Q q =>
  h1 H1 e _ fun u H2 e3 gu => h2 H2 (e.trans e3) _ fun v H3 e4 gv => by
    subst e1 e2
    refine ⟨_, _, pair_dp2 (pair_mono _ _ _ e4 gu), pair_dp2 gv, pair2_shaped _ _, pair2_shaped _ _, false, ?_, q H3 (e3.trans e4)⟩
    rw [SeqAt.eqv_refl _ (pair2_lay a b)]
    rfl
theorem ev_pairs {c d : Int × Int} {B2 : Nat} (h1 : EvP (PairAt K B a b) ta σ H) (h2 : EvP (PairAt K B2 c d) tb σ H) (e1 : a = c) (e2 : b = d) : Ev (tOp (rEqD K) ta tb) σ H (.bl true) := fun H1 e Q q =>
  h1 H1 e _ fun u H2 e3 gu => h2 H2 (e.trans e3) _ fun v H3 e4 gv => by
    subst e1 e2
    refine ⟨_, _, pair_dp2 (pair_mono _ _ _ e4 gu), pair_dp2 gv, pair2_shaped _ _, pair2_shaped _ _, ?_⟩
    rw [SeqAt.eqv_refl _ (pair2_lay a b)]
    exact q H3 (e3.trans e4)
/-! ### comprehensions: the i-th item of P i -/
def EvLI (P : Nat → Hp → V → Prop) (te : TE) (σ : L2.St) (H : Hp) (n : Nat) : Prop := ∀ H1, Ex H H1 → ∀ Q : VK, (∀ p vs H2, Ex H1 H2 → H1 p = none → H2 p = some (.lst vs) → vs.length = n → (∀ i v, vs[i]? = some v → P i H2 v) → Q (.ref p) H2) → te σ H1 Q
theorem app_at {P : Nat → Hp → V → Prop} {vs : List V} {y : V} (m : ∀ i, Mono (P i)) (e : Ex H H') (h : ∀ i v, vs[i]? = some v → P i H v) (hy : P vs.length H' y) : ∀ i v, (vs ++ [y])[i]? = some v → P i H' v := fun i v hv => by
  by_cases l : i < vs.length
  · rw [List.getElem?_append_left l] at hv
    exact m i _ _ _ e (h i v hv)
  · rw [List.getElem?_append_right (by omega)] at hv
    have e0 : i - vs.length = 0 := by
      rcases Nat.eq_zero_or_pos (i - vs.length) with z | z
      · exact z
      · rw [List.getElem?_eq_none (by simp; omega)] at hv
        cases hv
    rw [e0] at hv
    have e1 : i = vs.length := by omega
    subst e1
    cases (show y = v from Option.some.inj hv)
    exact hy
/-- what an item of the list under way keeps while the list itself grows -/
def Keep1 (P : Nat → Hp → V → Prop) : Prop := ∀ i p ys H H' v, P i H v → H p = some (.lst ys) → Keeps p H H' → P i H' v
theorem app_keep {P : Nat → Hp → V → Prop} {vs : List V} {y : V} {D : Addr} (k1 : Keep1 P) (hD : H D = some (.lst vs)) (h : ∀ i v, vs[i]? = some v → P i H v) (hy : P vs.length H y) : ∀ i v, (vs ++ [y])[i]? = some v → P i (upd H D (.lst (vs ++ [y]))) v := fun i v hv => by
  by_cases l : i < vs.length
  · rw [List.getElem?_append_left l] at hv
    exact k1 i D _ _ _ v (h i v hv) hD keeps_upd
  · rw [List.getElem?_append_right (by omega)] at hv
    have e0 : i - vs.length = 0 := by
      rcases Nat.eq_zero_or_pos (i - vs.length) with z | z
      · exact z
      · rw [List.getElem?_eq_none (by simp; omega)] at hv
        cases hv
    rw [e0] at hv
    have e1 : i = vs.length := by omega
    subst e1
    cases (show y = v from Option.some.inj hv)
    exact k1 _ D _ _ _ _ hy hD keeps_upd
/-- over a tuple | a list whose i-th item is of S i -/
theorem eli_lcT {S P : Nat → Hp → V → Prop} {n : Nat} {vs : List Nat} {g : TG} {tl : TE} (mS : ∀ i, Mono (S i)) (mP : ∀ i, Mono (P i)) (kP : Keep1 P) (hn : n ≤ 50000)
    (h : EvP (fun H v => ∃ p xs, v = .ref p ∧ SqT K H p xs ∧ xs.length = n ∧ ∀ i x, xs[i]? = some x → S i H x) tl σ H)
    (ht : ∀ i x H1, Ex H H1 → S i H1 x → ∃ σ2, (∀ Q : L2.St → Hp → Prop, Q σ2 H1 → g x (wipe σ vs) H1 Q) ∧ wipe σ2 vs = wipe σ vs ∧ EvP (P i) te σ2 H1) : EvLI P (tLc (iTup K tl) g tYes te vs) σ H n := fun H1 e Q q =>
  h H1 e _ fun v H2 e2 ⟨p, xs, e1, hp, hl, hS⟩ => ⟨p, e1, ⟨_, hp⟩, fun D hD => lc_tup (xs := xs) (fun k H' => Ex H2 H' ∧ ∃ ys, H' D = some (.lst ys) ∧ ys.length = k ∧ ∀ i y, ys[i]? = some y → P i H' y) ⟨Ex.new hD, [], upd_same, rfl, fun i y hy => by simp at hy⟩ (fun k H' _ hk => ex_t hk.1 hp)
    (fun k x H' hx hk => by
      obtain ⟨ex, ys, hys, hlen, hall⟩ := hk
      obtain ⟨σ2, hg, hw, he⟩ := ht k x H' ((e.trans e2).trans ex) (mS k _ _ _ ex (hS k x hx))
      refine hg _ ⟨hw, o_yes (iteT ?_)⟩
      refine he H' (Ex.refl H') _ fun y H3 e3 py => ⟨ys, e3 _ _ hys, ?_, (ex.trans e3).mut hD, ys ++ [y], upd_same, ?_, ?_⟩
      · have := (List.getElem?_eq_some_iff.mp hx).1
        exact sz_lt (by omega)
      · rw [List.length_append, hlen]
        rfl
      · subst hlen
        exact app_keep kP (e3 _ _ hys) (fun i z hz => mP i _ _ _ e3 (hall i z hz)) py)
    (fun H' hk => by
      obtain ⟨ex, ys, hys, hlen, hall⟩ := hk
      exact q D ys H' (e2.trans ex) (fresh_back e2 hD) hys (hlen.trans hl) hall)⟩
theorem eli_lcL {S P : Nat → Hp → V → Prop} {n : Nat} {vs : List Nat} {g : TG} {tl : TE} (mS : ∀ i, Mono (S i)) (mP : ∀ i, Mono (P i)) (kP : Keep1 P) (hn : n ≤ 50000)
    (h : EvP (fun H v => ∃ p xs, v = .ref p ∧ SqL K H p xs ∧ xs.length = n ∧ ∀ i x, xs[i]? = some x → S i H x) tl σ H)
    (ht : ∀ i x H1, Ex H H1 → S i H1 x → ∃ σ2, (∀ Q : L2.St → Hp → Prop, Q σ2 H1 → g x (wipe σ vs) H1 Q) ∧ wipe σ2 vs = wipe σ vs ∧ EvP (P i) te σ2 H1) : EvLI P (tLc (iList K tl) g tYes te vs) σ H n := fun H1 e Q q =>
  h H1 e _ fun v H2 e2 ⟨p, xs, e1, hp, hl, hS⟩ => ⟨p, e1, ⟨_, hp⟩, fun D hD => lc_list (xs := xs) (fun k H' => Ex H2 H' ∧ ∃ ys, H' D = some (.lst ys) ∧ ys.length = k ∧ ∀ i y, ys[i]? = some y → P i H' y) ⟨Ex.new hD, [], upd_same, rfl, fun i y hy => by simp at hy⟩ (fun k H' _ hk => ex_l hk.1 hp)
    (fun k x H' hx hk => by
      obtain ⟨ex, ys, hys, hlen, hall⟩ := hk
      obtain ⟨σ2, hg, hw, he⟩ := ht k x H' ((e.trans e2).trans ex) (mS k _ _ _ ex (hS k x hx))
      refine hg _ ⟨hw, o_yes (iteT ?_)⟩
      refine he H' (Ex.refl H') _ fun y H3 e3 py => ⟨ys, e3 _ _ hys, ?_, (ex.trans e3).mut hD, ys ++ [y], upd_same, ?_, ?_⟩
      · have := (List.getElem?_eq_some_iff.mp hx).1
        exact sz_lt (by omega)
      · rw [List.length_append, hlen]
        rfl
      · subst hlen
        exact app_keep kP (e3 _ _ hys) (fun i z hz => mP i _ _ _ e3 (hall i z hz)) py)
    (fun H' hk => by
      obtain ⟨ex, ys, hys, hlen, hall⟩ := hk
      exact q D ys H' (e2.trans ex) (fresh_back e2 hD) hys (hlen.trans hl) hall)⟩
/-- the i-th is the i-th number -/
def NthN (K : PySem.W.Frag) (B : Nat) (ns : List (Int × Int)) (i : Nat) (H : Hp) (v : V) : Prop := ∃ n, ns[i]? = some n ∧ Gn K H v n B
theorem nth_mono {ns : List (Int × Int)} : ∀ i, Mono (NthN K B ns i) := fun _ _ _ _ e ⟨n, h, g⟩ => ⟨n, h, g.ex e⟩
theorem nth_keep {ns : List (Int × Int)} : Keep1 (NthN K B ns) := fun _ _ _ _ _ _ ⟨n, h, g⟩ hp k => ⟨n, h, gn_keep g hp k⟩
theorem nth_gnL : ∀ {vs : List V} {ns : List (Int × Int)}, vs.length = ns.length → (∀ i v, vs[i]? = some v → NthN K B ns i H v) → GnL K H B vs ns
  | [], [], _, _ => trivial
  | v :: vs, n :: ns, hl, h => by
    obtain ⟨m, hm, g⟩ := h 0 v rfl
    have e : n = m := Option.some.inj hm
    subst e
    exact ⟨g, nth_gnL (Nat.succ.inj hl) fun i x hx => h (i + 1) x hx⟩
theorem gnL_nth : ∀ {vs : List V} {ns : List (Int × Int)}, GnL K H B vs ns → ∀ i v, vs[i]? = some v → NthN K B ns i H v
  | [], [], _, i, v, h => by simp at h
  | x :: _, n :: _, g, 0, v, h => by
    have e : x = v := Option.some.inj h
    subst e
    exact ⟨n, rfl, g.1⟩
  | _ :: _, _ :: _, g, i + 1, v, h => gnL_nth g.2 i v h
end
section
variable {K : PySem.W.Frag}
theorem kb_pos {x qual : Str} {params : Arguments} {body : List Stmt} {scope : Scope} {kws : List (Str × V)} {f : Addr} {fd : FuncData} {ps : List Str} (F : FunD K x qual params body scope [] kws f fd) (n : Nat) (ks : List Str)
    (h : ∀ (kV doc pm : Value) (an : Option Addr) (cdv ct : Value) (us ws : List Value), us.length = n → ws.length = ks.length → bindArgs (PySem.W.fnOf x qual params body scope .none kV doc pm an cdv ct) ⟨us, ks.zip ws⟩ = pure (ps.zip (us ++ ws))) : KBn K fd ps n ks (fun us ws => us ++ ws) (fun vs zs => vs ++ zs) := by
  obtain ⟨oc, od, dV, kV, doc, pm, an, cdv, ct, osl, rfl, lk, hcd, hD, hK⟩ := F.ex
  rcases hD with ⟨_, rfl⟩ | ⟨e, _⟩
  · exact ⟨fun s us ws X l1 l2 => .of_eq (h kV doc pm an cdv ct us ws l1 l2), fun r1 r2 => r1.append r2⟩
  · exact absurd rfl e
end
end Onc

namespace Onc
open PySem PySem.Spec PyProof.Rows L2 Evl
/-! ### roots of whole numbers -/
def IsRoot (r n : Int) : Prop := 0 ≤ r ∧ r * r ≤ n ∧ n < (r + 1) * (r + 1)
theorem sq_mono {a b : Int} (h0 : 0 ≤ a) (h : a ≤ b) : a * a ≤ b * b := Int.mul_le_mul h h h0 (by omega)
theorem root_unique {r s n : Int} (h1 : IsRoot r n) (h2 : IsRoot s n) : r = s := by
  obtain ⟨a1, a2, a3⟩ := h1
  obtain ⟨b1, b2, b3⟩ := h2
  rcases Int.lt_trichotomy r s with l | l | l
  · have := sq_mono (a := r + 1) (b := s) (by omega) (by omega)
    omega
  · exact l
  · have := sq_mono (a := s + 1) (b := r) (by omega) (by omega)
    omega
/-- a step of Newton's stays at the root or above it -/
theorem newton_ge {g n : Int} (hg : 0 < g) (hn : 0 ≤ n) : n < ((g + n / g) / 2 + 1) * ((g + n / g) / 2 + 1) := by
  have h1 : n < g * (n / g + 1) := by
    have e := Int.mul_ediv_add_emod n g
    have l := Int.emod_lt_of_pos n hg
    rw [Int.mul_add, Int.mul_one]
    omega
  have k0 : 0 ≤ n / g := Int.ediv_nonneg hn (by omega)
  generalize n / g = k at *
  have h2 : g + k + 1 ≤ 2 * ((g + k) / 2 + 1) := by omega
  generalize (g + k) / 2 + 1 = x at *
  have h3 : (g + k + 1) * (g + k + 1) ≤ (2 * x) * (2 * x) := sq_mono (by omega) h2
  have h4 : 4 * (g * (k + 1)) ≤ (g + k + 1) * (g + k + 1) := by
    have h5 : 0 ≤ (g - (k + 1)) * (g - (k + 1)) := by
      rcases Int.le_total 0 (g - (k + 1)) with z | z
      · exact Int.mul_nonneg z z
      · have := Int.mul_nonneg (show 0 ≤ -(g - (k + 1)) by omega) (show 0 ≤ -(g - (k + 1)) by omega)
        rw [Int.neg_mul_neg] at this
        exact this
    have e1 : (g + k + 1) * (g + k + 1) = (g - (k + 1)) * (g - (k + 1)) + 4 * (g * (k + 1)) := by
      have e2 : g + k + 1 = g + (k + 1) := by omega
      rw [e2]
      generalize k + 1 = y
      rw [Int.sub_mul, Int.mul_sub, Int.mul_sub, Int.add_mul, Int.mul_add, Int.mul_add, Int.mul_comm y g]
      omega
    omega
  have e3 : (2 * x) * (2 * x) = 4 * (x * x) := by
    rw [Int.mul_assoc, Int.mul_left_comm x 2 x]
    omega
  omega
theorem newton_end {g n : Int} (hg : 0 < g) (hn : 0 ≤ n) (h : ¬ (g + n / g) / 2 < g) : g * g ≤ n := by
  have h1 : g ≤ n / g := by omega
  have h2 : g * g ≤ g * (n / g) := Int.mul_le_mul_of_nonneg_left h1 (by omega)
  have e := Int.mul_ediv_add_emod n g
  have l := Int.emod_nonneg n (show g ≠ 0 by omega)
  omega
theorem newton_pos {g n : Int} (hg : 0 < g) (hn : 0 < n) : 0 < (g + n / g) / 2 := by
  have h := newton_ge hg (show 0 ≤ n by omega)
  have k0 : 0 ≤ n / g := Int.ediv_nonneg (by omega) (by omega)
  have h0 : 0 ≤ (g + n / g) / 2 := by omega
  rcases Int.lt_or_eq_of_le h0 with z | z
  · exact z
  · rw [← z] at h
    omega
/-- the first guess -/
theorem guess_ge {n : Int} (hn : 0 < n) : n < (2 ^ ((Builtin.Int.intBits n + 1) / 2) + 1 : Int) * (2 ^ ((Builtin.Int.intBits n + 1) / 2) + 1) := by
  have hb : n.natAbs < 2 ^ Builtin.Int.intBits n := by
    rw [bits_of (by omega)]
    exact Nat.lt_log2_self
  have h1 : (2 : Nat) ^ Builtin.Int.intBits n ≤ 2 ^ ((Builtin.Int.intBits n + 1) / 2) * 2 ^ ((Builtin.Int.intBits n + 1) / 2) := by
    rw [← Nat.pow_add]
    exact Nat.pow_le_pow_right (by decide) (by omega)
  have h2 : n < ((2 ^ ((Builtin.Int.intBits n + 1) / 2) * 2 ^ ((Builtin.Int.intBits n + 1) / 2) : Nat) : Int) := by omega
  rw [Int.natCast_mul, pow_two_cast] at h2
  have hp := pow_pos2 ((Builtin.Int.intBits n + 1) / 2)
  generalize (2 : Int) ^ ((Builtin.Int.intBits n + 1) / 2) = y at *
  have e : (y + 1) * (y + 1) = y * y + 2 * y + 1 := by
    rw [Int.add_mul, Int.mul_add]
    omega
  omega
theorem root_exists (n : Nat) : ∃ r : Int, IsRoot r n := by
  induction n with
  | zero => exact ⟨0, by decide, by decide, by decide⟩
  | succ n ih =>
    obtain ⟨r, h0, h1, h2⟩ := ih
    by_cases h : ((n + 1 : Nat) : Int) < (r + 1) * (r + 1)
    · exact ⟨r, h0, by omega, h⟩
    · refine ⟨r + 1, by omega, by omega, ?_⟩
      have e : (r + 1 + 1) * (r + 1 + 1) = (r + 1) * (r + 1) + 2 * (r + 1) + 1 := by
        rw [Int.add_mul (r + 1) 1, Int.mul_add (r + 1) (r + 1) 1]
        omega
      rw [e]
      omega
/-- the greatest whole number whose square is no greater -/
noncomputable def froot (n : Int) : Int := Classical.choose (root_exists n.toNat)
theorem froot_spec {n : Int} (h : 0 ≤ n) : IsRoot (froot n) n := by
  have h1 : IsRoot (froot n) ((n.toNat : Nat) : Int) := Classical.choose_spec (root_exists n.toNat)
  have e : ((n.toNat : Nat) : Int) = n := Int.toNat_of_nonneg h
  rw [e] at h1
  exact h1
theorem froot_of {r n : Int} (h : IsRoot r n) : froot n = r := by
  have h0 : 0 ≤ n := by
    have := Int.mul_nonneg h.1 h.1
    have := h.2.1
    omega
  exact root_unique (froot_spec h0) h
/-- the least whole number whose square is no less -/
noncomputable def croot (n : Int) : Int := if froot n * froot n = n then froot n else froot n + 1
/-! ### whole numbers at a power -/
def fl (n : Int × Int) (E : Int) : Int := if E ≤ n.2 then n.1 * 2 ^ (n.2 - E).toNat else n.1 / 2 ^ (E - n.2).toNat
def cl (n : Int × Int) (E : Int) : Int := -fl (pneg n) E
theorem fl_nn {n : Int × Int} (h : 0 ≤ n.1) (E : Int) : 0 ≤ fl n E := by
  unfold fl
  by_cases l : E ≤ n.2
  · rw [if_pos l]
    exact Int.mul_nonneg h (Int.le_of_lt (pow_pos2 _))
  · rw [if_neg l]
    exact Int.ediv_nonneg h (Int.le_of_lt (pow_pos2 _))
/-! ### quotients -/
def fq (a b : Int × Int) (bits : Int) : Int := if a.2 - b.2 + bits < 0 then a.1.fdiv (b.1 * 2 ^ (-(a.2 - b.2 + bits)).toNat) else (a.1 * 2 ^ (a.2 - b.2 + bits).toNat).fdiv b.1
section
variable {X : Cx}
def CDivZ (_ j : Int) : Prop := j ≠ 0 ∧ j.natAbs.log2 < 9000
/-- // by any divisor but 0 below 2 ^ 9000 -/
theorem op_fdivZ : OpR X (binaryOp .FloorDiv) (rI CDivZ fun i j => .int (i.fdiv j)) := opI fun _ _ _ _ _ _ _ hc q => floordiv_int hc.1 q (.inl (PyProof.noPylong_of_log2 hc.2))
end
theorem divz_ok {i j : Int} {k : Nat} (h : j ≠ 0) (hb : j.natAbs < 2 ^ k) (hk : k ≤ 9000) : CDivZ i j := by
  refine ⟨h, ?_⟩
  by_cases h0 : k = 0
  · subst h0
    have : j.natAbs < 1 := hb
    omega
  · exact Nat.lt_of_lt_of_le (PySem.Flt.log2_lt_of (by omega) hb) hk
theorem fdiv_flip (x y : Int) : (-x).fdiv (-y) = x.fdiv y := Int.neg_fdiv_neg x y
theorem fdiv_pos_sum {x y : Int} (h : 0 < y) : x.fdiv y + (-x).fdiv y ≤ 0 := by
  rw [Int.fdiv_eq_ediv_of_nonneg x (by omega), Int.fdiv_eq_ediv_of_nonneg (-x) (by omega)]
  have h1 := Int.ediv_mul_le x (show y ≠ 0 by omega)
  have h2 := Int.ediv_mul_le (-x) (show y ≠ 0 by omega)
  have h3 : (x / y + -x / y) * y ≤ 0 := by
    rw [Int.add_mul]
    omega
  rcases Int.lt_or_le 0 (x / y + -x / y) with z | z
  · have := Int.mul_pos z h
    omega
  · exact z
theorem fdiv_sum {x y : Int} (h : y ≠ 0) : x.fdiv y + (-x).fdiv y ≤ 0 := by
  rcases Int.lt_trichotomy y 0 with z | z | z
  · have h1 := fdiv_pos_sum (x := x) (y := -y) (by omega)
    rw [← fdiv_flip x y, ← fdiv_flip (-x) y, Int.neg_neg]
    omega
  · exact absurd z h
  · exact fdiv_pos_sum z
theorem fq_neg {a b : Int × Int} {bits : Int} : fq (pneg a) (pneg b) bits = fq a b bits := by
  unfold fq pneg
  simp only
  rw [Int.neg_mul, Int.neg_mul, fdiv_flip, fdiv_flip]
theorem fq_le {a b : Int × Int} {bits : Int} (h : b.1 ≠ 0) : fq a b bits ≤ -fq (pneg a) b bits := by
  unfold fq pneg
  simp only
  by_cases l : a.2 - b.2 + bits < 0
  · rw [if_pos l, if_pos l]
    have := fdiv_sum (x := a.1) (y := b.1 * 2 ^ (-(a.2 - b.2 + bits)).toNat) (fun z => (Int.mul_eq_zero.mp z).elim h (Int.ne_of_gt (pow_pos2 _)))
    omega
  · rw [if_neg l, if_neg l]
    have := fdiv_sum (x := a.1 * 2 ^ (a.2 - b.2 + bits).toNat) (y := b.1) h
    rw [← Int.neg_mul] at this
    omega
theorem nrm_ord {x y E : Int} (hE : E ≤ 0) (h : x ≤ y) : pord (nrm x E) (nrm y E) ≤ 0 := by
  rw [pord_at (nrm_le hE) (nrm_le hE), at_same, at_same]
  rcases sgn_cases (x - y) with q | q | q
  · have := sgn_of_pos q
    omega
  · omega
  · omega
/-! ### roots told twice -/
theorem cl_nn {n : Int × Int} (h : 0 ≤ n.1) (E : Int) : 0 ≤ cl n E := by
  unfold cl fl pneg
  simp only
  by_cases l : E ≤ n.2
  · rw [if_pos l, Int.neg_mul, Int.neg_neg]
    exact Int.mul_nonneg h (Int.le_of_lt (pow_pos2 _))
  · rw [if_neg l]
    have hp := pow_pos2 (E - n.2).toNat
    have := Int.ediv_le_ediv (c := 2 ^ (E - n.2).toNat) hp (show -n.1 ≤ 0 by omega)
    rw [Int.zero_ediv] at this
    omega
theorem croot_of {r x : Int} (h0 : 0 ≤ r) (h1 : r * r < x) (h2 : x ≤ (r + 1) * (r + 1)) : croot x = r + 1 := by
  unfold croot
  rcases Int.lt_or_eq_of_le h2 with z | z
  · rw [froot_of (r := r) ⟨h0, by omega, z⟩, if_neg (by omega)]
  · have e : (r + 1 + 1) * (r + 1 + 1) = (r + 1) * (r + 1) + 2 * (r + 1) + 1 := by
      rw [Int.add_mul (r + 1) 1, Int.mul_add (r + 1) (r + 1) 1]
      omega
    rw [froot_of (r := r + 1) ⟨by omega, by omega, by omega⟩, if_pos z.symm]
theorem croot_sq {r : Int} (h0 : 0 ≤ r) : croot (r * r) = r := by
  unfold croot
  have e : (r + 1) * (r + 1) = r * r + 2 * r + 1 := by
    rw [Int.add_mul, Int.mul_add]
    omega
  rw [froot_of (r := r) ⟨h0, by omega, by omega⟩, if_pos rfl]
/-- m by 2 ** k, m from 0 on: the root below and what is more -/
theorem croot_shift {m : Int} {k : Nat} (h : 0 ≤ m) : croot (-(-m / 2 ^ k)) = froot (m / 2 ^ k) + (if froot (m / 2 ^ k) * froot (m / 2 ^ k) * 2 ^ k < m then 1 else 0) := by
  have hp := pow_pos2 k
  have hf : 0 ≤ m / 2 ^ k := Int.ediv_nonneg h (by omega)
  obtain ⟨r0, r1, r2⟩ := froot_spec hf
  have d1 := Int.mul_ediv_add_emod m (2 ^ k)
  have d2 := Int.emod_nonneg m (show (2 : Int) ^ k ≠ 0 by omega)
  have d3 := Int.emod_lt_of_pos m hp
  have c1 := Int.mul_ediv_add_emod (-m) (2 ^ k)
  have c2 := Int.emod_nonneg (-m) (show (2 : Int) ^ k ≠ 0 by omega)
  have c3 := Int.emod_lt_of_pos (-m) hp
  generalize hy : (2 : Int) ^ k = y at *
  generalize m / y = q at *
  generalize m % y = t at *
  generalize -m / y = p at *
  generalize -m % y = u at *
  generalize froot q = r at *
  have e0 : y * (q + p) = -(t + u) := by
    rw [Int.mul_add]
    omega
  by_cases hlt : r * r * y < m
  · rw [if_pos hlt]
    refine croot_of r0 ?_ ?_
    · rcases Int.lt_or_le (r * r) (-p) with z | z
      · exact z
      · have h1 : y * (-p) ≤ y * (r * r) := Int.mul_le_mul_of_nonneg_left z (by omega)
        rw [Int.mul_neg, Int.mul_comm y (r * r)] at h1
        omega
    · have h1 : -p ≤ q + 1 := by
        rcases Int.lt_or_le (q + 1) (-p) with z | z
        · have h2 : y * (q + p) ≤ y * (-2) := Int.mul_le_mul_of_nonneg_left (by omega) (by omega)
          omega
        · exact z
      omega
  · rw [if_neg hlt, Int.add_zero]
    have h1 : r * r * y ≤ q * y := Int.mul_le_mul_of_nonneg_right r1 (by omega)
    rw [Int.mul_comm q y] at h1
    have t0 : t = 0 := by omega
    have e1 : y * q = m := by omega
    have e2 : y * (r * r) = y * q := by
      rw [Int.mul_comm y (r * r)]
      omega
    have e3 : r * r = q := Int.eq_of_mul_eq_mul_left (by omega) e2
    have e4 : y * (-p) = y * q + u := by
      rw [Int.mul_neg]
      omega
    have e5 : -p = q := by
      rcases Int.lt_trichotomy (-p) q with z | z | z
      · have h2 : y * (-p) ≤ y * (q - 1) := Int.mul_le_mul_of_nonneg_left (by omega) (by omega)
        rw [Int.mul_sub] at h2
        omega
      · exact z
      · have h2 : y * (q + 1) ≤ y * (-p) := Int.mul_le_mul_of_nonneg_left (by omega) (by omega)
        rw [Int.mul_add] at h2
        omega
    rw [e5, ← e3]
    exact croot_sq r0
theorem croot_plain {x : Int} (h : 0 ≤ x) : croot x = froot x + (if froot x * froot x < x then 1 else 0) := by
  have hr := froot_spec h
  unfold croot
  by_cases z : froot x * froot x = x
  · rw [if_pos z, if_neg (by omega), Int.add_zero]
  · rw [if_neg z, if_pos (by have := hr.2.1; omega)]
def spWithin (K : PySem.W.Frag) : Sp := fun vs H Q _ => ∃ i l m : Int, vs = [.int i, .int l, .int m] ∧ Q (.bl (decide (l ≤ i) && decide (i ≤ m))) H
def spNeedW (K : PySem.W.Frag) : Sp := fun vs H Q _ => ∃ i l m : Int, vs = [.int i, .int l, .int m] ∧ l ≤ i ∧ i ≤ m ∧ Q .non H
def spFRoot : Sp := fun vs H Q _ => ∃ n : Int, vs = [.int n] ∧ 0 ≤ n ∧ n.natAbs < 2 ^ 8000 ∧ ∀ H', Ex H H' → Q (.int (froot n)) H'
def spCRoot : Sp := fun vs H Q _ => ∃ n : Int, vs = [.int n] ∧ 0 ≤ n ∧ n.natAbs < 2 ^ 8000 ∧ ∀ H', Ex H H' → Q (.int (croot n)) H'
def spFloorG (K : PySem.W.Frag) : Sp := fun vs H Q _ => ∃ v n E, vs = [v, .int E] ∧ NumAt K H v n ∧ Bd n LIM ∧ E.natAbs ≤ LIM ∧ Q (.int (fl n E)) H
def spCeilG (K : PySem.W.Frag) : Sp := fun vs H Q _ => ∃ v n E, vs = [v, .int E] ∧ NumAt K H v n ∧ Bd n LIM ∧ E.natAbs ≤ LIM ∧ ∀ H', Ex H H' → Q (.int (cl n E)) H'
def spQuo (K : PySem.W.Frag) : Sp := fun vs H Q _ => ∃ u v a b, ∃ bits : Int, vs = [u, v, .int bits] ∧ NumAt K H u a ∧ NumAt K H v b ∧ Bd a 3000 ∧ Bd b 3000 ∧ b.1 ≠ 0 ∧ 0 ≤ bits ∧ bits ≤ 800 ∧ Q (.int (fq a b bits)) H
/-! ### lists of whole numbers -/
def IsMin (m : Int) (l : List Int) : Prop := m ∈ l ∧ ∀ y, y ∈ l → m ≤ y
def IsMax (m : Int) (l : List Int) : Prop := m ∈ l ∧ ∀ y, y ∈ l → y ≤ m
theorem min_unique {m n : Int} {l : List Int} (h1 : IsMin m l) (h2 : IsMin n l) : m = n := by
  have := h1.2 n h2.1
  have := h2.2 m h1.1
  omega
theorem max_unique {m n : Int} {l : List Int} (h1 : IsMax m l) (h2 : IsMax n l) : m = n := by
  have := h1.2 n h2.1
  have := h2.2 m h1.1
  omega
def NthI (ls : List Int) (i : Nat) (_ : Hp) (v : V) : Prop := ∃ x, ls[i]? = some x ∧ v = .int x
theorem nthI_mono {ls : List Int} : ∀ i, Mono (NthI ls i) := fun _ _ _ _ _ h => h
theorem nthI_keep {ls : List Int} : Keep1 (NthI ls) := fun _ _ _ _ _ _ h _ _ => h
theorem nth_ints : ∀ {vs : List V} {ls : List Int} {H : Hp}, vs.length = ls.length → (∀ i v, vs[i]? = some v → NthI ls i H v) → vs = ls.map V.int
  | [], [], _, _, _ => rfl
  | v :: vs, x :: ls, H, hl, h => by
    obtain ⟨y, hy, e⟩ := h 0 v rfl
    have e1 : x = y := Option.some.inj hy
    rw [e, e1, List.map_cons, nth_ints (H := H) (Nat.succ.inj hl) fun i w hw => h (i + 1) w hw]
def IP (S : Int → Prop) (_ : Hp) (v : V) : Prop := ∃ m, v = .int m ∧ S m
section
variable {K : PySem.W.Frag} {σ : L2.St} {H : Hp} {tl ta tb : TE} {ls : List Int} {n : Nat}
theorem evp_min (h : EvLI (NthI ls) tl σ H n) (hn : n = ls.length) (h0 : 0 < n) : EvP (IP fun m => IsMin m ls) (tCB (rMin K) (tCons tl tNil)) σ H := fun H1 e Q q =>
  h H1 e _ fun p vs H2 e2 _ hp hl hall => ⟨p, ls, rfl, by rw [← nth_ints (hl.trans hn) hall]; exact sq_of hp, by omega, fun m hm hy => q _ H2 e2 ⟨m, rfl, hm, hy⟩⟩
theorem evp_max (h : EvLI (NthI ls) tl σ H n) (hn : n = ls.length) (h0 : 0 < n) : EvP (IP fun m => IsMax m ls) (tCB (rMax K) (tCons tl tNil)) σ H := fun H1 e Q q =>
  h H1 e _ fun p vs H2 e2 _ hp hl hall => ⟨p, ls, rfl, by rw [← nth_ints (hl.trans hn) hall]; exact sq_of hp, by omega, fun m hm hy => q _ H2 e2 ⟨m, rfl, hm, hy⟩⟩
end
theorem fdiv_abs (x y : Int) : (x.fdiv y).natAbs ≤ x.natAbs := by
  rcases Int.lt_or_le y 0 with z | z
  · rw [← fdiv_flip, Int.fdiv_eq_ediv_of_nonneg (-x) (by omega)]
    have := Int.natAbs_ediv_le_natAbs (-x) (-y)
    omega
  · rw [Int.fdiv_eq_ediv_of_nonneg x z]
    exact Int.natAbs_ediv_le_natAbs x y
theorem fq_abs {a b : Int × Int} {bits : Int} (ha : Bd a 2300) (hb : Bd b 2300) (h0 : 0 ≤ bits) (h8 : bits ≤ 800) : (fq a b bits).natAbs < 2 ^ 7800 := by
  have a2 := ha.2
  have b2 := hb.2
  unfold fq
  by_cases l : a.2 - b.2 + bits < 0
  · rw [if_pos l]
    exact Nat.lt_of_le_of_lt (fdiv_abs _ _) (Nat.lt_of_lt_of_le ha.1 (Nat.pow_le_pow_right (by decide) (by decide)))
  · rw [if_neg l]
    refine Nat.lt_of_le_of_lt (fdiv_abs _ _) ?_
    have e2 : ((2 : Int) ^ (a.2 - b.2 + bits).toNat).natAbs = 2 ^ (a.2 - b.2 + bits).toNat := by
      rw [← pow_two_cast]
      rfl
    rw [Int.natAbs_mul, e2]
    refine Nat.lt_of_lt_of_le (Nat.mul_lt_mul_of_pos_right ha.1 (Nat.pow_pos (by decide))) ?_
    rw [← Nat.pow_add]
    exact Nat.pow_le_pow_right (by decide) (by omega)
theorem fl_at {n : Int × Int} {E F : Int} (h1 : F ≤ n.2) (h2 : F ≤ E) : fl n E = at_ n F / 2 ^ (E - F).toNat := by
  unfold fl
  by_cases l : E ≤ n.2
  · rw [if_pos l, at_split (E := F) (M := E) h2 l, Int.mul_ediv_cancel _ (Int.ne_of_gt (pow_pos2 _))]
    rfl
  · rw [if_neg l]
    unfold at_
    rw [show (E - F).toNat = (E - n.2).toNat + (n.2 - F).toNat by omega, Int.pow_add, Int.mul_ediv_mul_of_pos_left _ _ (pow_pos2 _)]
theorem fl_le_cl {a b : Int × Int} {E : Int} (h : pord a b ≤ 0) : fl a E ≤ cl b E := by
  have l1 : min (min a.2 b.2) E ≤ a.2 := by omega
  have l2 : min (min a.2 b.2) E ≤ b.2 := by omega
  have l3 : min (min a.2 b.2) E ≤ E := by omega
  generalize min (min a.2 b.2) E = F at *
  unfold cl
  rw [fl_at l1 l3, fl_at (n := pneg b) l2 l3, at_neg]
  rw [pord_at l1 l2] at h
  have hab := sgn_le h
  have hp := pow_pos2 (E - F).toNat
  generalize (2 : Int) ^ (E - F).toNat = y at *
  have h1 : at_ a F / y ≤ at_ b F / y := Int.ediv_le_ediv hp (by omega)
  have h2 := fdiv_pos_sum (x := at_ b F) hp
  rw [Int.fdiv_eq_ediv_of_nonneg _ (by omega), Int.fdiv_eq_ediv_of_nonneg _ (by omega)] at h2
  omega
theorem froot_mono {x y : Int} (h0 : 0 ≤ x) (h : x ≤ y) : froot x ≤ froot y := by
  have a := froot_spec h0
  have b := froot_spec (show 0 ≤ y by omega)
  rcases Int.lt_or_le (froot y) (froot x) with z | z
  · have := sq_mono (a := froot y + 1) (b := froot x) (by have := b.1; omega) (by omega)
    have := a.2.1
    have := b.2.2
    omega
  · exact z
theorem froot_le_croot {x y : Int} (h0 : 0 ≤ x) (h : x ≤ y) : froot x ≤ croot y := by
  have := froot_mono h0 h
  unfold croot
  by_cases z : froot y * froot y = y
  · rw [if_pos z]
    exact this
  · rw [if_neg z]
    omega
theorem froot_abs {n : Int} {k : Nat} (h0 : 0 ≤ n) (hb : n.natAbs < 2 ^ k) : (froot n).natAbs < 2 ^ k := by
  have hr := froot_spec h0
  by_cases z : froot n ≤ n
  · have := hr.1
    omega
  · have := hr.2.1
    have h1 := hr.1
    have h3 : froot n * 1 ≤ froot n * froot n := Int.mul_le_mul_of_nonneg_left (by omega) h1
    omega
theorem croot_abs {n : Int} {k : Nat} (h0 : 0 ≤ n) (hb : n.natAbs < 2 ^ k) : (croot n).natAbs < 2 ^ (k + 1) := by
  have h1 := froot_abs h0 hb
  have h2 := (froot_spec h0).1
  have e : 2 ^ (k + 1) = 2 ^ k * 2 := Nat.pow_succ ..
  have hp : 0 < 2 ^ k := Nat.pow_pos (by decide)
  unfold croot
  by_cases z : froot n * froot n = n
  · rw [if_pos z]
    omega
  · rw [if_neg z]
    omega
theorem fl_abs {n : Int × Int} {E : Int} (h : Bd n 2300) (hE : E.natAbs ≤ 1600) : (fl n E).natAbs < 2 ^ 6300 := by
  have h2 := h.2
  unfold fl
  by_cases l : E ≤ n.2
  · rw [if_pos l]
    have e2 : ((2 : Int) ^ (n.2 - E).toNat).natAbs = 2 ^ (n.2 - E).toNat := by
      rw [← pow_two_cast]
      rfl
    rw [Int.natAbs_mul, e2]
    refine Nat.lt_of_lt_of_le (Nat.mul_lt_mul_of_pos_right h.1 (Nat.pow_pos (by decide))) ?_
    rw [← Nat.pow_add]
    exact Nat.pow_le_pow_right (by decide) (by omega)
  · rw [if_neg l]
    exact Nat.lt_of_le_of_lt (Int.natAbs_ediv_le_natAbs _ _) (Nat.lt_of_lt_of_le h.1 (Nat.pow_le_pow_right (by decide) (by decide)))
theorem cl_abs {n : Int × Int} {E : Int} (h : Bd n 2300) (hE : E.natAbs ≤ 1600) : (cl n E).natAbs < 2 ^ 6300 := by
  unfold cl
  rw [Int.natAbs_neg]
  exact fl_abs (bd_neg h) hE
/-! ### roots by doubling the bits -/
theorem sq_nonneg (x : Int) : 0 ≤ x * x := by
  rcases Int.le_total 0 x with h | h
  · exact Int.mul_nonneg h h
  · exact Int.mul_nonneg_of_nonpos_of_nonpos h h
/-- one step: t the half of the guess, w its doubt -/
theorem dbl_low {t w m q : Int} (ht : 0 < t) (hw : 0 ≤ w) (h1 : (2 * t - w) * (2 * t - w) < m) (h2 : m < (2 * t + w) * (2 * t + w)) (hwt : w * w ≤ 4 * t) (hq : 4 * t * q ≤ m) (hy : 0 ≤ t + q - 1) : (t + q - 1) * (t + q - 1) < m := by
  refine Decidable.byContradiction fun hc => ?_
  have hc : m ≤ (t + q - 1) * (t + q - 1) := by omega
  obtain ⟨y, hyd⟩ : ∃ y, y = t + q - 1 := ⟨_, rfl⟩
  rw [← hyd] at hc hy
  have hq' : 4 * t * q = 4 * (t * y) - 4 * (t * t) + 4 * t := by
    have : q = y - t + 1 := by omega
    rw [this, Int.mul_add, Int.mul_sub, Int.mul_assoc, Int.mul_assoc]
    omega
  rcases Int.lt_or_le y (2 * t + w) with a | a
  · rcases Int.lt_or_le (2 * t - w) y with b | b
    · -- within the doubt
      have e : (2 * t - y) * (2 * t - y) < w * w := by
        have n1 : 0 ≤ w - (2 * t - y) := by omega
        have n2 : 0 ≤ w + (2 * t - y) := by omega
        rcases Int.lt_or_le 0 w with z | z
        · have n3 : 0 < w - (2 * t - y) := by omega
          have n4 : 0 < w + (2 * t - y) := by omega
          have := Int.mul_pos n3 n4
          rw [Int.sub_mul, Int.mul_add, Int.mul_add, Int.mul_comm w (2 * t - y)] at this
          omega
        · omega
      have e2 : (2 * t - y) * (2 * t - y) = 4 * (t * t) - 4 * (t * y) + y * y := by
        rw [Int.sub_mul, Int.mul_sub, Int.mul_sub, Int.mul_comm y (2 * t), Int.mul_assoc, Int.mul_assoc, Int.mul_left_comm t 2 t]
        omega
      omega
    · have := sq_mono hy b
      omega
  · have e : (2 * t + w) * (2 * t + w) = 4 * (t * t) + 4 * (t * w) + w * w := by
      rw [Int.add_mul, Int.mul_add, Int.mul_add, Int.mul_comm w (2 * t), Int.mul_assoc, Int.mul_assoc, Int.mul_left_comm t 2 t]
      omega
    have e3 : t * (2 * t + w) ≤ t * y := Int.mul_le_mul_of_nonneg_left a (by omega)
    rw [Int.mul_add, Int.mul_left_comm t 2 t] at e3
    omega
theorem dbl_high {t m q : Int} (hq : m < 4 * t * (q + 1)) : m < (t + q + 1) * (t + q + 1) := by
  have e : (t + q + 1) * (t + q + 1) - 4 * t * (q + 1) = (t - (q + 1)) * (t - (q + 1)) := by
    rw [Int.add_assoc t q 1]
    generalize q + 1 = r
    rw [Int.add_mul, Int.mul_add, Int.mul_add, Int.sub_mul, Int.mul_sub, Int.mul_sub, Int.mul_assoc, Int.mul_comm r t]
    omega
  have := sq_nonneg (t - (q + 1))
  omega
/-- what is known of the root of the first bits -/
def Near (a n : Int) (c d : Nat) : Prop := 0 < a ∧ (a - 1) * (a - 1) < n / 2 ^ (2 * (c - d)) ∧ n / 2 ^ (2 * (c - d)) < (a + 1) * (a + 1)
theorem pow_sq (k : Nat) : (2 : Int) ^ (2 * k) = 2 ^ k * 2 ^ k := by rw [Nat.two_mul, Int.pow_add]
theorem near_ge {a n : Int} {c d : Nat} (hd : d ≤ c) (hn : 2 ^ (2 * c) ≤ n) (h : Near a n c d) : (2 : Int) ^ d ≤ a := by
  obtain ⟨h0, _, h2⟩ := h
  have e1 : (2 : Int) ^ (2 * d) ≤ n / 2 ^ (2 * (c - d)) := by
    refine (Int.le_ediv_iff_mul_le (pow_pos2 _)).mpr ?_
    rw [← Int.pow_add, show 2 * d + 2 * (c - d) = 2 * c by omega]
    exact hn
  rw [pow_sq] at e1
  refine Decidable.byContradiction fun z => ?_
  have := sq_mono (a := a + 1) (b := 2 ^ d) (by omega) (by omega)
  omega
theorem near_step {a n : Int} {c e d : Nat} (hn : 2 ^ (2 * c) ≤ n) (hdc : d ≤ c) (h1 : e < d) (h2 : d ≤ 2 * e + 1) (h : Near a n c e) :
    Near (a * 2 ^ (d - e - 1) + (n / 2 ^ (2 * c - e - d + 1)) / a) n c d := by
  have hA := near_ge (by omega) hn h
  obtain ⟨h0, hl, hh⟩ := h
  obtain ⟨m, hm⟩ : ∃ m, m = n / 2 ^ (2 * (c - d)) := ⟨_, rfl⟩
  obtain ⟨t, ht⟩ : ∃ t, t = a * 2 ^ (d - e - 1) := ⟨_, rfl⟩
  obtain ⟨w, hw⟩ : ∃ w : Int, w = 2 ^ (d - e) := ⟨_, rfl⟩
  have t0 : 0 < t := by rw [ht]; exact Int.mul_pos h0 (pow_pos2 _)
  have w0 : 0 < w := by rw [hw]; exact pow_pos2 _
  have hw1 : w = 2 ^ (d - e - 1) * 2 := by
    rw [hw, ← Int.pow_succ]
    congr 1
    omega
  have e2t : 2 * t = a * w := by
    rw [ht, hw1, Int.mul_comm _ (2 : Int), Int.mul_left_comm a 2]
  have em : n / 2 ^ (2 * (c - e)) = m / (w * w) := by
    rw [hm, hw, ← pow_sq, Int.ediv_ediv_of_nonneg (Int.le_of_lt (pow_pos2 _)), ← Int.pow_add, show 2 * (c - d) + 2 * (d - e) = 2 * (c - e) by omega]
  have eq : (n / 2 ^ (2 * c - e - d + 1)) / a = m / (4 * t) := by
    have : n / 2 ^ (2 * c - e - d + 1) = m / 2 ^ (d - e + 1) := by
      rw [hm, Int.ediv_ediv_of_nonneg (Int.le_of_lt (pow_pos2 _)), ← Int.pow_add, show 2 * (c - d) + (d - e + 1) = 2 * c - e - d + 1 by omega]
    rw [this, Int.ediv_ediv_of_nonneg (Int.le_of_lt (pow_pos2 _))]
    congr 1
    have e4 : 4 * t = 2 * (a * w) := by omega
    rw [e4, hw, Int.pow_succ, Int.mul_comm a, ← Int.mul_assoc 2, Int.mul_comm 2]
  rw [em] at hl hh
  rw [eq, ← ht]
  unfold Near
  rw [← hm]
  have ww : 0 < w * w := Int.mul_pos w0 w0
  have m0 : 0 ≤ m := by
    rw [hm]
    exact Int.ediv_nonneg (Int.le_trans (Int.le_of_lt (pow_pos2 _)) hn) (Int.le_of_lt (pow_pos2 _))
  have q0 : 0 ≤ m / (4 * t) := Int.ediv_nonneg m0 (by omega)
  refine ⟨by omega, ?_, ?_⟩
  · refine dbl_low t0 (by omega) (w := w) ?_ ?_ ?_ (Int.mul_ediv_self_le (by omega)) (by omega)
    · have l1 : (a - 1) * (a - 1) + 1 ≤ m / (w * w) := hl
      have l2 := (Int.le_ediv_iff_mul_le ww).mp l1
      have l3 : (2 * t - w) * (2 * t - w) = (a - 1) * (a - 1) * (w * w) := by
        have : 2 * t - w = (a - 1) * w := by rw [Int.sub_mul, Int.one_mul, e2t]
        rw [this, Int.mul_assoc, Int.mul_left_comm w (a - 1) w, ← Int.mul_assoc]
      rw [Int.add_mul] at l2
      omega
    · have l2 := (Int.ediv_lt_iff_lt_mul ww).mp hh
      have l3 : (2 * t + w) * (2 * t + w) = (a + 1) * (a + 1) * (w * w) := by
        have : 2 * t + w = (a + 1) * w := by rw [Int.add_mul, Int.one_mul, e2t]
        rw [this, Int.mul_assoc, Int.mul_left_comm w (a + 1) w, ← Int.mul_assoc]
      omega
    · have w2 : w ≤ 2 * a := by
        have : w = 2 * 2 ^ (d - e - 1) := by
          rw [hw1, Int.mul_comm]
        have l : (2 : Int) ^ (d - e - 1) ≤ 2 ^ e := by
          rw [← pow_two_cast, ← pow_two_cast]
          exact Int.ofNat_le.mpr (Nat.pow_le_pow_right (by decide) (by omega))
        omega
      have : w * w ≤ 2 * a * w := Int.mul_le_mul_of_nonneg_right w2 (by omega)
      rw [Int.mul_assoc] at this
      omega
  · refine dbl_high ?_
    have := Int.lt_mul_ediv_self_add (x := m) (show 0 < 4 * t by omega)
    rw [Int.mul_add, Int.mul_one]
    exact this
theorem near_end {a n : Int} {c : Nat} (h : Near a n c c) : froot n = if a * a ≤ n then a else a - 1 := by
  obtain ⟨h0, h1, h2⟩ := h
  rw [show 2 * (c - c) = 0 by omega, Int.pow_zero, Int.ediv_one] at h1 h2
  by_cases z : a * a ≤ n
  · rw [if_pos z]
    exact froot_of ⟨by omega, z, h2⟩
  · rw [if_neg z]
    refine froot_of ⟨by omega, by omega, ?_⟩
    rw [show a - 1 + 1 = a by omega]
    omega
theorem near_start {n : Int} {c : Nat} (h1 : 2 ^ (2 * c) ≤ n) (h2 : n < 2 ^ (2 * c + 2)) : Near 1 n c 0 := by
  refine ⟨by decide, ?_, ?_⟩
  · show (0 : Int) < n / 2 ^ (2 * (c - 0))
    have := (Int.le_ediv_iff_mul_le (pow_pos2 (2 * (c - 0)))).mpr (show 1 * 2 ^ (2 * (c - 0)) ≤ n by rw [Int.one_mul]; exact h1)
    omega
  · refine (Int.ediv_lt_iff_lt_mul (pow_pos2 _)).mpr ?_
    have e : ((1 : Int) + 1) * (1 + 1) * 2 ^ (2 * (c - 0)) = 2 ^ (2 * c + 2) := by
      rw [Int.pow_add, Int.mul_comm]
      rfl
    rw [e]
    exact h2
theorem near_abs {a n : Int} {c d : Nat} {k : Nat} (h : Near a n c d) (h0 : 0 ≤ n) (hn : n.natAbs < 2 ^ (2 * k)) : a.natAbs < 2 ^ k + 2 := by
  obtain ⟨h1, h2, _⟩ := h
  have l : n / 2 ^ (2 * (c - d)) ≤ n := Int.ediv_le_self _ h0
  refine Decidable.byContradiction fun z => ?_
  have p := pow_two_cast k
  have e2 : ((2 : Int) ^ k) ≤ a - 1 := by omega
  have := sq_mono (Int.le_of_lt (pow_pos2 k)) e2
  rw [← pow_sq, ← pow_two_cast] at this
  omega
/-! ### quotients of ends -/
def four (a b c d : Int × Int) : List ((Int × Int) × (Int × Int)) := [(a, c), (a, d), (b, c), (b, d)]
theorem four_mem {a b c d : Int × Int} {q : (Int × Int) × (Int × Int)} (h : q ∈ four a b c d) : (q.1 = a ∨ q.1 = b) ∧ (q.2 = c ∨ q.2 = d) := by
  simp only [four, List.mem_cons, List.not_mem_nil, or_false] at h
  rcases h with h | h | h | h <;> rw [h] <;> simp
def ql (a b c d : Int × Int) (bits : Int) : List Int := (four a b c d).map fun q => fq q.1 q.2 bits
def qh (a b c d : Int × Int) (bits : Int) : List Int := (four a b c d).map fun q => -fq (pneg q.1) q.2 bits
theorem at_pos {a : Int × Int} {E : Int} (h : 0 < a.1) : 0 < at_ a E := Int.mul_pos h (pow_pos2 _)
theorem fq_at {a b : Int × Int} {E bits : Int} (ha : E ≤ a.2) (hb : E ≤ b.2) (hp : 0 < b.1) (h0 : 0 ≤ bits) : fq a b bits = at_ a E * 2 ^ bits.toNat / at_ b E := by
  unfold fq at_
  have e1 : a.1 * 2 ^ (a.2 - E).toNat * 2 ^ bits.toNat = a.1 * 2 ^ ((a.2 - E).toNat + bits.toNat) := by rw [Int.mul_assoc, ← Int.pow_add]
  rw [e1]
  by_cases z : a.2 - b.2 + bits < 0
  · rw [if_pos z, Int.fdiv_eq_ediv_of_nonneg _ (Int.le_of_lt (Int.mul_pos hp (pow_pos2 _)))]
    have e2 : b.1 * 2 ^ (b.2 - E).toNat = b.1 * 2 ^ (-(a.2 - b.2 + bits)).toNat * 2 ^ ((a.2 - E).toNat + bits.toNat) := by
      rw [Int.mul_assoc, ← Int.pow_add, show (-(a.2 - b.2 + bits)).toNat + ((a.2 - E).toNat + bits.toNat) = (b.2 - E).toNat by omega]
    rw [e2, Int.mul_ediv_mul_of_pos_left _ _ (pow_pos2 _)]
  · rw [if_neg z, Int.fdiv_eq_ediv_of_nonneg _ (Int.le_of_lt hp)]
    have e2 : a.1 * 2 ^ ((a.2 - E).toNat + bits.toNat) = a.1 * 2 ^ (a.2 - b.2 + bits).toNat * 2 ^ (b.2 - E).toNat := by
      rw [Int.mul_assoc, ← Int.pow_add, show (a.2 - b.2 + bits).toNat + (b.2 - E).toNat = (a.2 - E).toNat + bits.toNat by omega]
    rw [e2, Int.mul_ediv_mul_of_pos_left _ _ (pow_pos2 _)]
theorem div_anti {x b d : Int} (hx : 0 ≤ x) (hb : 0 < b) (h : b ≤ d) : x / d ≤ x / b := by
  refine (Int.le_ediv_iff_mul_le hb).mpr ?_
  have h1 : x / d * b ≤ x / d * d := Int.mul_le_mul_of_nonneg_left h (Int.ediv_nonneg hx (by omega))
  have h2 := Int.mul_ediv_self_le (x := x) (k := d) (by omega)
  rw [Int.mul_comm] at h2
  omega
theorem div_mono {x b d : Int} (hx : x ≤ 0) (hb : 0 < b) (h : b ≤ d) : x / b ≤ x / d := by
  refine (Int.le_ediv_iff_mul_le (show 0 < d by omega)).mpr ?_
  have n : x / b ≤ 0 := by
    have := Int.ediv_le_ediv hb hx
    rw [Int.zero_ediv] at this
    exact this
  have h1 : x / b * d ≤ x / b * b := Int.mul_le_mul_of_nonpos_left n h
  have h2 := Int.mul_ediv_self_le (x := x) (k := b) (by omega)
  rw [Int.mul_comm] at h2
  omega
theorem sgn_pord0 (n : Int × Int) : pord n (0, 0) = sgn n.1 := by
  rw [pord_at (E := min n.2 0) (by omega) (by show min n.2 0 ≤ 0; omega)]
  have e : at_ (0, 0) (min n.2 0) = 0 := Int.zero_mul _
  rw [e, Int.sub_zero, at_sgn]
/-- the least of the quotients, by a number that is no greater than the others -/
theorem quo_min {x y c d z : Int × Int} {bits : Int} (hxy : pord x y ≤ 0) (hcd : pord c d ≤ 0) (hz : z = c ∨ z = d) (hc : 0 < c.1) (hd : 0 < d.1) (h0 : 0 ≤ bits) (h : (0 ≤ x.1 ∧ z = d) ∨ (x.1 ≤ 0 ∧ z = c)) :
    fq x z bits ≤ fq x c bits ∧ fq x z bits ≤ fq x d bits ∧ fq x z bits ≤ fq y c bits ∧ fq x z bits ≤ fq y d bits := by
  obtain ⟨E, hx, hy, hc2, hd2, _⟩ := low4 x y c d
  have A := (ord_at hx hy).mp hxy
  have C := (ord_at hc2 hd2).mp hcd
  have pc : 0 < at_ c E := at_pos hc
  have pd : 0 < at_ d E := at_pos hd
  have P : at_ x E * 2 ^ bits.toNat ≤ at_ y E * 2 ^ bits.toNat := Int.mul_le_mul_of_nonneg_right A (Int.le_of_lt (pow_pos2 _))
  have m1 := Int.ediv_le_ediv pc P
  have m2 := Int.ediv_le_ediv pd P
  rw [fq_at hx hc2 hc h0, fq_at hx hd2 hd h0, fq_at hy hc2 hc h0, fq_at hy hd2 hd h0]
  rcases h with ⟨s, e⟩ | ⟨s, e⟩
  · rw [e, fq_at hx hd2 hd h0]
    have n : 0 ≤ at_ x E * 2 ^ bits.toNat := Int.mul_nonneg (at_nonneg s) (Int.le_of_lt (pow_pos2 _))
    have := div_anti n pc C
    omega
  · rw [e, fq_at hx hc2 hc h0]
    have n : at_ x E * 2 ^ bits.toNat ≤ 0 := Int.mul_nonpos_of_nonpos_of_nonneg (at_nonpos s) (Int.le_of_lt (pow_pos2 _))
    have := div_mono n pc C
    omega
theorem pos_of_le {c d : Int × Int} (hcd : pord c d ≤ 0) (hc : 0 < c.1) : 0 < d.1 := by
  obtain ⟨E, h1, h2, _, _⟩ := low3 c d d
  have C := (ord_at h1 h2).mp hcd
  have pc : 0 < at_ c E := at_pos hc
  rcases Int.lt_or_le 0 d.1 with z | z
  · exact z
  · have : at_ d E ≤ 0 := at_nonpos z
    omega
theorem quo_ends {a b c d : Int × Int} {bits : Int} (hab : pord a b ≤ 0) (hcd : pord c d ≤ 0) (hc : 0 < c.1) (h0 : 0 ≤ bits) :
    IsMin (fq a (if 0 ≤ a.1 then d else c) bits) (ql a b c d bits) ∧ IsMax (-fq (pneg b) (if 0 ≤ b.1 then c else d) bits) (qh a b c d bits) := by
  have hd := pos_of_le hcd hc
  constructor
  · obtain ⟨h1, h2, h3, h4⟩ := quo_min (z := if 0 ≤ a.1 then d else c) hab hcd (by by_cases z : 0 ≤ a.1; (rw [if_pos z]; exact .inr rfl); (rw [if_neg z]; exact .inl rfl)) hc hd h0 (by by_cases z : 0 ≤ a.1; (rw [if_pos z]; exact .inl ⟨z, rfl⟩); (rw [if_neg z]; exact .inr ⟨by omega, rfl⟩))
    refine ⟨?_, fun y hy => ?_⟩
    · by_cases z : 0 ≤ a.1
      · rw [if_pos z]; simp [ql, four]
      · rw [if_neg z]; simp [ql, four]
    · simp only [ql, four, List.map_cons, List.map_nil, List.mem_cons, List.not_mem_nil, or_false] at hy
      rcases hy with rfl | rfl | rfl | rfl <;> assumption
  · have hba : pord (pneg b) (pneg a) ≤ 0 := by rw [pord_neg]; exact hab
    obtain ⟨h1, h2, h3, h4⟩ := quo_min (z := if 0 ≤ b.1 then c else d) hba hcd (by by_cases z : 0 ≤ b.1; (rw [if_pos z]; exact .inl rfl); (rw [if_neg z]; exact .inr rfl)) hc hd h0 (by by_cases z : 0 ≤ b.1; (rw [if_pos z]; exact .inr ⟨by show -b.1 ≤ 0; omega, rfl⟩); (rw [if_neg z]; exact .inl ⟨by show 0 ≤ -b.1; omega, rfl⟩))
    refine ⟨?_, fun y hy => ?_⟩
    · by_cases z : 0 ≤ b.1
      · rw [if_pos z]; simp [qh, four]
      · rw [if_neg z]; simp [qh, four]
    · simp only [qh, four, List.map_cons, List.map_nil, List.mem_cons, List.not_mem_nil, or_false] at hy
      rcases hy with rfl | rfl | rfl | rfl <;> omega
theorem ql_neg {a b c d : Int × Int} {bits m : Int} (h : IsMin m (ql (pneg b) (pneg a) (pneg d) (pneg c) bits)) : IsMin m (ql a b c d bits) := by
  simp only [ql, four, List.map_cons, List.map_nil, fq_neg] at h
  obtain ⟨h1, h2⟩ := h
  simp only [List.mem_cons, List.not_mem_nil, or_false] at h1 h2
  refine ⟨?_, fun y hy => h2 y ?_⟩ <;> simp only [ql, four, List.map_cons, List.map_nil, List.mem_cons, List.not_mem_nil, or_false] at *
  · rcases h1 with z | z | z | z <;> simp [z]
  · rcases hy with z | z | z | z <;> simp [z]
theorem qh_neg {a b c d : Int × Int} {bits m : Int} (h : IsMax m (qh (pneg b) (pneg a) (pneg d) (pneg c) bits)) : IsMax m (qh a b c d bits) := by
  have e : ∀ x y : Int × Int, fq (pneg (pneg x)) (pneg y) bits = fq (pneg x) y bits := fun x y => fq_neg
  simp only [qh, four, List.map_cons, List.map_nil, e] at h
  obtain ⟨h1, h2⟩ := h
  simp only [List.mem_cons, List.not_mem_nil, or_false] at h1 h2
  refine ⟨?_, fun y hy => h2 y ?_⟩ <;> simp only [qh, four, List.map_cons, List.map_nil, List.mem_cons, List.not_mem_nil, or_false] at *
  · rcases h1 with z | z | z | z <;> simp [z]
  · rcases hy with z | z | z | z <;> simp [z]
end Onc

namespace Onc
open PySem PySem.Spec PyProof.Rows L2 Evl
/-! ### what stretches hold -/
section
variable {a b c d x y : Int × Int}
theorem le_tr (h1 : pord a b ≤ 0) (h2 : pord b c ≤ 0) : pord a c ≤ 0 := by
  have := ord_trans h1 h2
  omega
theorem le_rfl' (a : Int × Int) : pord a a ≤ 0 := by rw [pord_self]; decide
theorem le_of_not (h : ¬ pord a b ≤ 0) : pord b a ≤ 0 := by
  rw [pord_swap a b]
  omega
theorem prod_ge (h1 : pord a x ≤ 0) (h2 : pord x b ≤ 0) (h3 : pord c y ≤ 0) (h4 : pord y d ≤ 0) : ∃ m, m ∈ prods a b c d ∧ pord m (pmul x y) ≤ 0 := by
  obtain ⟨E, ha, hb, hc, hd, h0⟩ := low4 a b c d
  obtain ⟨E2, hx, hy, _, _, h02⟩ := low4 x y c d
  have l : min E E2 ≤ a.2 ∧ min E E2 ≤ b.2 ∧ min E E2 ≤ c.2 ∧ min E E2 ≤ d.2 ∧ min E E2 ≤ x.2 ∧ min E E2 ≤ y.2 ∧ min E E2 ≤ 0 := by omega
  obtain ⟨ha, hb, hc, hd, hx, hy, h0⟩ := l
  generalize min E E2 = G at *
  have A := (ord_at ha hx).mp h1
  have B := (ord_at hx hb).mp h2
  have C := (ord_at hc hy).mp h3
  have D := (ord_at hy hd).mp h4
  rcases Int.le_total 0 (at_ y G) with sy | sy
  · have f1 := rm A sy
    rcases Int.le_total 0 (at_ a G) with sa | sa
    · have f2 := lm C sa
      exact ⟨_, m_ac, (ord_mul2 ha hc hx hy h0).mpr (by omega)⟩
    · have f2 := lm' D sa
      exact ⟨_, m_ad, (ord_mul2 ha hd hx hy h0).mpr (by omega)⟩
  · have f1 := rm' B sy
    rcases Int.le_total 0 (at_ b G) with sa | sa
    · have f2 := lm C sa
      exact ⟨_, m_bc, (ord_mul2 hb hc hx hy h0).mpr (by omega)⟩
    · have f2 := lm' D sa
      exact ⟨_, m_bd, (ord_mul2 hb hd hx hy h0).mpr (by omega)⟩
theorem prod_le (h1 : pord a x ≤ 0) (h2 : pord x b ≤ 0) (h3 : pord c y ≤ 0) (h4 : pord y d ≤ 0) : ∃ m, m ∈ prods a b c d ∧ pord (pmul x y) m ≤ 0 := by
  obtain ⟨E, ha, hb, hc, hd, h0⟩ := low4 a b c d
  obtain ⟨E2, hx, hy, _, _, h02⟩ := low4 x y c d
  have l : min E E2 ≤ a.2 ∧ min E E2 ≤ b.2 ∧ min E E2 ≤ c.2 ∧ min E E2 ≤ d.2 ∧ min E E2 ≤ x.2 ∧ min E E2 ≤ y.2 ∧ min E E2 ≤ 0 := by omega
  obtain ⟨ha, hb, hc, hd, hx, hy, h0⟩ := l
  generalize min E E2 = G at *
  have A := (ord_at ha hx).mp h1
  have B := (ord_at hx hb).mp h2
  have C := (ord_at hc hy).mp h3
  have D := (ord_at hy hd).mp h4
  rcases Int.le_total 0 (at_ y G) with sy | sy
  · have f1 := rm B sy
    rcases Int.le_total 0 (at_ b G) with sa | sa
    · have f2 := lm D sa
      exact ⟨_, m_bd, (ord_mul2 hx hy hb hd h0).mpr (by omega)⟩
    · have f2 := lm' C sa
      exact ⟨_, m_bc, (ord_mul2 hx hy hb hc h0).mpr (by omega)⟩
  · have f1 := rm' A sy
    rcases Int.le_total 0 (at_ a G) with sa | sa
    · have f2 := lm D sa
      exact ⟨_, m_ad, (ord_mul2 hx hy ha hd h0).mpr (by omega)⟩
    · have f2 := lm' C sa
      exact ⟨_, m_ac, (ord_mul2 hx hy ha hc h0).mpr (by omega)⟩
theorem hold_prod {lo hi : Int × Int} (h1 : pord a x ≤ 0) (h2 : pord x b ≤ 0) (h3 : pord c y ≤ 0) (h4 : pord y d ≤ 0) (hl : IsLeast lo (prods a b c d)) (hh : IsGreat hi (prods a b c d)) : pord lo (pmul x y) ≤ 0 ∧ pord (pmul x y) hi ≤ 0 := by
  obtain ⟨m, m1, m2⟩ := prod_ge h1 h2 h3 h4
  obtain ⟨n, n1, n2⟩ := prod_le h1 h2 h3 h4
  exact ⟨le_tr (hl.2 m m1) m2, le_tr n2 (hh.2 n n1)⟩
/-- the middle -/
def mid (a b : Int × Int) : Int × Int := pmul (padd a b) (1, -1)
theorem mid_in (h : pord a b ≤ 0) : pord a (mid a b) ≤ 0 ∧ pord (mid a b) b ≤ 0 := by
  obtain ⟨E, ha, hb, _, h0⟩ := low3 a b b
  have A := (ord_at ha hb).mp h
  have hs := le_add ha hb h0
  have e1 : at_ (mid a b) (E + -1) = at_ a E + at_ b E := by
    unfold mid
    rw [at_mul (F := -1) hs (Int.le_refl (-1)), at_add ha hb]
    have : at_ (1, -1) (-1) = 1 := rfl
    rw [this, Int.mul_one]
  have l1 : E + -1 ≤ (mid a b).2 := le_mul (F := -1) hs (Int.le_refl (-1)) (by omega)
  have e2 : at_ a (E + -1) = 2 * at_ a E := by
    rw [at_split (M := E) (by omega) ha, show (E - (E + -1)).toNat = 1 by omega, Int.mul_comm]
    rfl
  have e3 : at_ b (E + -1) = 2 * at_ b E := by
    rw [at_split (M := E) (by omega) hb, show (E - (E + -1)).toNat = 1 by omega, Int.mul_comm]
    rfl
  constructor
  · rw [ord_at (E := E + -1) (by omega) l1, e1, e2]
    omega
  · rw [ord_at (E := E + -1) l1 (by omega), e1, e3]
    omega
/-! ### what both have in common -/
def cmx (a c : Int × Int) : Int × Int := if 0 ≤ pord a c then a else c
def cmn (b d : Int × Int) : Int × Int := if pord b d ≤ 0 then b else d
theorem cmx_ge (a c : Int × Int) : pord a (cmx a c) ≤ 0 ∧ pord c (cmx a c) ≤ 0 := by
  unfold cmx
  by_cases h : 0 ≤ pord a c
  · rw [if_pos h]
    exact ⟨le_rfl' a, by rw [pord_swap]; omega⟩
  · rw [if_neg h]
    exact ⟨by omega, le_rfl' c⟩
theorem cmn_le (b d : Int × Int) : pord (cmn b d) b ≤ 0 ∧ pord (cmn b d) d ≤ 0 := by
  unfold cmn
  by_cases h : pord b d ≤ 0
  · rw [if_pos h]
    exact ⟨le_rfl' b, h⟩
  · rw [if_neg h]
    exact ⟨by rw [pord_swap]; omega, le_rfl' d⟩
theorem cmx_least (h1 : pord a x ≤ 0) (h2 : pord c x ≤ 0) : pord (cmx a c) x ≤ 0 := by
  unfold cmx
  by_cases h : 0 ≤ pord a c
  · rw [if_pos h]; exact h1
  · rw [if_neg h]; exact h2
theorem cmn_great (h1 : pord x b ≤ 0) (h2 : pord x d ≤ 0) : pord x (cmn b d) ≤ 0 := by
  unfold cmn
  by_cases h : pord b d ≤ 0
  · rw [if_pos h]; exact h1
  · rw [if_neg h]; exact h2
theorem cmx_self (ha : isNumB a.1 a.2 = true) (hc : isNumB c.1 c.2 = true) (h : pord a c ≤ 0) : cmx a c = c := by
  unfold cmx
  by_cases z : 0 ≤ pord a c
  · rw [if_pos z]
    exact (ord_zero ha hc).mp (by omega)
  · rw [if_neg z]
theorem cmn_self (hb : isNumB b.1 b.2 = true) (hd : isNumB d.1 d.2 = true) (h : pord d b ≤ 0) : cmn b d = d := by
  unfold cmn
  by_cases z : pord b d ≤ 0
  · rw [if_pos z]
    exact pord_anti hb hd z h
  · rw [if_neg z]
theorem cmx_or (a c : Int × Int) : cmx a c = a ∨ cmx a c = c := by
  unfold cmx
  by_cases h : 0 ≤ pord a c
  · exact .inl (if_pos h)
  · exact .inr (if_neg h)
theorem cmn_or (a c : Int × Int) : cmn a c = a ∨ cmn a c = c := by
  unfold cmn
  by_cases h : pord a c ≤ 0
  · exact .inl (if_pos h)
  · exact .inr (if_neg h)
/-- held by what both have in common just where held by the other one -/
theorem com_holds (h1 : pord a x ≤ 0) (h2 : pord x b ≤ 0) : ((!decide (0 < pord (cmx a c) (cmn b d))) && (decide (pord (cmx a c) x ≤ 0) && decide (pord x (cmn b d) ≤ 0))) = (decide (pord c x ≤ 0) && decide (pord x d ≤ 0)) := by
  by_cases k1 : pord c x ≤ 0
  · by_cases k2 : pord x d ≤ 0
    · have l1 := cmx_least h1 k1
      have l2 := cmn_great h2 k2
      have l3 := le_tr l1 l2
      rw [decide_eq_true k1, decide_eq_true k2, decide_eq_true l1, decide_eq_true l2, decide_eq_false (by omega)]
      rfl
    · have l2 : ¬ pord x (cmn b d) ≤ 0 := fun z => k2 (le_tr z (cmn_le b d).2)
      rw [decide_eq_false k2, decide_eq_false l2, Bool.and_false, Bool.and_false, Bool.and_false]
  · have l1 : ¬ pord (cmx a c) x ≤ 0 := fun z => k1 (le_tr (cmx_ge a c).2 z)
    rw [decide_eq_false k1, decide_eq_false l1, Bool.false_and, Bool.false_and, Bool.and_false]
theorem one_ends {lo hi : Int × Int} (ha : isNumB a.1 a.2 = true) (hb : isNumB b.1 b.2 = true) (hab : pord a b ≤ 0) (hl : IsLeast lo (prods a b (1, 0) (1, 0))) (hh : IsGreat hi (prods a b (1, 0) (1, 0))) : lo = a ∧ hi = b := by
  have e : prods a b (1, 0) (1, 0) = [a, a, b, b] := by
    unfold prods
    rw [mul_one ha, mul_one hb]
  rw [e] at hl hh
  constructor
  · have m1 : IsLeast a [a, a, b, b] := ⟨by simp, fun m hm => by simp only [List.mem_cons, List.not_mem_nil, or_false] at hm; rcases hm with rfl | rfl | rfl | rfl <;> first | exact le_rfl' _ | exact hab⟩
    exact least_unique hl m1 (fun x => Iff.rfl) (fun n hn => by simp only [List.mem_cons, List.not_mem_nil, or_false] at hn; rcases hn with rfl | rfl | rfl | rfl <;> assumption)
  · have m1 : IsGreat b [a, a, b, b] := ⟨by simp, fun m hm => by simp only [List.mem_cons, List.not_mem_nil, or_false] at hm; rcases hm with rfl | rfl | rfl | rfl <;> first | exact le_rfl' _ | exact hab⟩
    exact great_unique hh m1 (fun x => Iff.rfl) (fun n hn => by simp only [List.mem_cons, List.not_mem_nil, or_false] at hn; rcases hn with rfl | rfl | rfl | rfl <;> assumption)
end
/-! ### quotients -/
theorem fq_fine_pos {x y : Int × Int} {bits : Int} (hy : 0 < y.1) (h0 : 0 ≤ bits) : fq x y bits * 128 ≤ fq x y (bits + 7) := by
  obtain ⟨E, hx, hy2, _, _⟩ := low3 x y y
  rw [fq_at hx hy2 hy h0, fq_at hx hy2 hy (by omega), show (bits + 7).toNat = bits.toNat + 7 by omega, Int.pow_add, ← Int.mul_assoc]
  have p : 0 < at_ y E := at_pos hy
  refine (Int.le_ediv_iff_mul_le p).mpr ?_
  have := Int.mul_ediv_self_le (x := at_ x E * 2 ^ bits.toNat) (k := at_ y E) (by omega)
  generalize at_ x E * 2 ^ bits.toNat = X at *
  rw [Int.mul_right_comm, Int.mul_comm (X / at_ y E)]
  show at_ y E * (X / at_ y E) * 128 ≤ X * 128
  omega
theorem fq_fine {x y : Int × Int} {bits : Int} (hy : y.1 ≠ 0) (h0 : 0 ≤ bits) : fq x y bits * 128 ≤ fq x y (bits + 7) := by
  rcases Int.lt_or_gt_of_ne hy with z | z
  · rw [← fq_neg (a := x), ← fq_neg (a := x) (bits := bits + 7)]
    exact fq_fine_pos (by show 0 < -y.1; omega) h0
  · exact fq_fine_pos z h0
theorem fine_le {lo lo' c : Int} {k : Nat} (h : lo * 2 ^ k ≤ lo') (hc : 0 ≤ c) : pord (nrm lo (-c)) (nrm lo' (-(c + k))) ≤ 0 := by
  have l2 : -(c + k) ≤ (nrm lo' (-(c + k))).2 := nrm_le (by omega)
  have l1 : -(c + k) ≤ (nrm lo (-c)).2 := Int.le_trans (by omega) (nrm_le (x := lo) (E := -c) (by omega))
  rw [ord_at l1 l2, at_same, nrm_at (by omega), show (-c - -(c + k)).toNat = k by omega]
  exact h
theorem fine_ge {hi hi' c : Int} {k : Nat} (h : hi' ≤ hi * 2 ^ k) (hc : 0 ≤ c) : pord (nrm hi' (-(c + k))) (nrm hi (-c)) ≤ 0 := by
  have l2 : -(c + k) ≤ (nrm hi' (-(c + k))).2 := nrm_le (by omega)
  have l1 : -(c + k) ≤ (nrm hi (-c)).2 := Int.le_trans (by omega) (nrm_le (x := hi) (E := -c) (by omega))
  rw [ord_at l2 l1, at_same, nrm_at (by omega), show (-c - -(c + k)).toNat = k by omega]
  exact h
theorem quo_fine {a b c d : Int × Int} {bits lo hi lo' hi' : Int} (hc : c.1 ≠ 0) (hd : d.1 ≠ 0) (h0 : 0 ≤ bits) (h1 : IsMin lo (ql a b c d bits)) (h2 : IsMax hi (qh a b c d bits)) (h3 : IsMin lo' (ql a b c d (bits + 7))) (h4 : IsMax hi' (qh a b c d (bits + 7))) :
    pord (nrm lo (-bits)) (nrm lo' (-(bits + 7))) ≤ 0 ∧ pord (nrm hi' (-(bits + 7))) (nrm hi (-bits)) ≤ 0 := by
  have nz : ∀ q ∈ four a b c d, q.2.1 ≠ 0 := fun q hq => by
    rcases (four_mem hq).2 with z | z <;> rw [z] <;> assumption
  constructor
  · obtain ⟨q, hq, e⟩ := List.mem_map.mp h3.1
    refine fine_le (k := 7) ?_ h0
    have f := fq_fine (x := q.1) (nz q hq) h0
    have g := h1.2 _ (List.mem_map.mpr ⟨q, hq, rfl⟩)
    rw [← e]
    show lo * 128 ≤ _
    omega
  · obtain ⟨q, hq, e⟩ := List.mem_map.mp h4.1
    refine fine_ge (k := 7) ?_ h0
    have f := fq_fine (x := pneg q.1) (nz q hq) h0
    have g := h2.2 _ (List.mem_map.mpr ⟨q, hq, rfl⟩)
    rw [← e]
    show _ ≤ hi * 128
    omega
theorem quo_low_pos {x y : Int × Int} {bits lo : Int} (hy : 0 < y.1) (h0 : 0 ≤ bits) (h : lo ≤ fq x y bits) : pord (pmul (nrm lo (-bits)) y) x ≤ 0 := by
  obtain ⟨E, hx, hy2, _, hE⟩ := low3 x y y
  rw [fq_at hx hy2 hy h0] at h
  have p : 0 < at_ y E := at_pos hy
  have h := (Int.le_ediv_iff_mul_le p).mp h
  have ll : -bits ≤ (nrm lo (-bits)).2 := nrm_le (by omega)
  rw [ord_at (E := -bits + E) (le_mul ll hy2 (by omega)) (by omega), at_mul ll hy2, at_same, at_split (M := E) (by omega) hx, show (E - (-bits + E)).toNat = bits.toNat by omega]
  exact h
theorem quo_high_pos {x y : Int × Int} {bits hi : Int} (hy : 0 < y.1) (h0 : 0 ≤ bits) (h : -fq (pneg x) y bits ≤ hi) : pord x (pmul (nrm hi (-bits)) y) ≤ 0 := by
  have l := quo_low_pos (x := pneg x) (lo := -hi) hy h0 (by omega)
  have e : pmul (nrm (-hi) (-bits)) y = pneg (pmul (nrm hi (-bits)) y) := by
    obtain ⟨E, hy2, _, _, hE⟩ := low3 y y y
    have l1 : -bits ≤ (nrm hi (-bits)).2 := nrm_le (by omega)
    have l2 : -bits ≤ (nrm (-hi) (-bits)).2 := nrm_le (by omega)
    rw [pmul_at l1 hy2, pmul_at l2 hy2, at_same, at_same, Int.neg_mul]
    have num := num_neg (nrm_num (hi * at_ y E) (-bits + E))
    rw [← num_at (E := -bits + E) num (by show -bits + E ≤ (nrm (hi * at_ y E) (-bits + E)).2; exact nrm_le (by omega)), at_neg, at_same]
  rw [e, pord_neg] at l
  exact l
/-- the sign of a divisor -/
theorem nrm_negate (k F : Int) : nrm (-k) F = pneg (nrm k F) := by
  by_cases h : k = 0
  · rw [h]
    rfl
  · obtain ⟨a, ha⟩ := v2_spec h
    have hb : -k = 2 ^ v2 k * (2 * (-a - 1) + 1) := by
      have : 2 * (-a - 1) + 1 = -(2 * a + 1) := by omega
      rw [this, Int.mul_neg, ← ha]
    rw [nrm_of F ha, nrm_of F hb]
    show (2 * (-a - 1) + 1, F + (v2 k : Int)) = (-(2 * a + 1), F + (v2 k : Int))
    rw [show 2 * (-a - 1) + 1 = -(2 * a + 1) by omega]
def sg (y : Int × Int) : Int := 1 - 2 * (if decide (y.1 < 0) = true then 1 else 0)
theorem quo_low {x y : Int × Int} {bits lo : Int} (hy : y.1 ≠ 0) (h0 : 0 ≤ bits) (h : lo ≤ fq x y bits) : sg y * pord (pmul (nrm lo (-bits)) y) x ≤ 0 := by
  unfold sg
  rcases Int.lt_or_gt_of_ne hy with z | z
  · rw [if_pos (decide_eq_true z)]
    rw [← fq_neg] at h
    have l := quo_low_pos (y := pneg y) (by show 0 < -y.1; omega) h0 h
    have e : pmul (nrm lo (-bits)) (pneg y) = pneg (pmul (nrm lo (-bits)) y) := by
      show nrm ((nrm lo (-bits)).1 * -y.1) ((nrm lo (-bits)).2 + y.2) = _
      unfold pmul
      rw [Int.mul_neg]
      obtain ⟨k, hk⟩ : ∃ k, k = (nrm lo (-bits)).1 * y.1 := ⟨_, rfl⟩
      obtain ⟨F, hF⟩ : ∃ F, F = (nrm lo (-bits)).2 + y.2 := ⟨_, rfl⟩
      rw [← hk, ← hF]
      exact nrm_negate k F
    rw [e, pord_neg, pord_swap] at l
    omega
  · rw [if_neg (fun y => by have := of_decide_eq_true y; omega)]
    have l := quo_low_pos z h0 h
    omega
theorem quo_high {x y : Int × Int} {bits hi : Int} (hy : y.1 ≠ 0) (h0 : 0 ≤ bits) (h : -fq (pneg x) y bits ≤ hi) : 0 ≤ sg y * pord (pmul (nrm hi (-bits)) y) x := by
  unfold sg
  rcases Int.lt_or_gt_of_ne hy with z | z
  · rw [if_pos (decide_eq_true z)]
    rw [← fq_neg] at h
    have l := quo_high_pos (x := pneg x) (y := pneg y) (by show 0 < -y.1; omega) h0 h
    have e : pmul (nrm hi (-bits)) (pneg y) = pneg (pmul (nrm hi (-bits)) y) := by
      show nrm ((nrm hi (-bits)).1 * -y.1) ((nrm hi (-bits)).2 + y.2) = _
      unfold pmul
      rw [Int.mul_neg]
      exact nrm_negate _ _
    rw [e, pord_neg] at l
    omega
  · rw [if_neg (fun y => by have := of_decide_eq_true y; omega)]
    have l := quo_high_pos z h0 h
    rw [pord_swap] at l
    omega
/-! ### roots -/
theorem root_le {n t : Int} (h0 : 0 ≤ n) (ht : 0 ≤ t) (h : t * t ≤ n) : t ≤ froot n := by
  obtain ⟨r0, r1, r2⟩ := froot_spec h0
  refine Decidable.byContradiction fun z => ?_
  have := sq_mono (a := froot n + 1) (b := t) (by omega) (by omega)
  omega
theorem croot_sq_ge {n : Int} (h0 : 0 ≤ n) : 0 ≤ croot n ∧ n ≤ croot n * croot n := by
  obtain ⟨r0, r1, r2⟩ := froot_spec h0
  unfold croot
  by_cases z : froot n * froot n = n
  · rw [if_pos z]
    omega
  · rw [if_neg z]
    omega
theorem croot_le {n t : Int} (h0 : 0 ≤ n) (ht : 0 ≤ t) (h : n ≤ t * t) : croot n ≤ t := by
  obtain ⟨r0, r1, r2⟩ := froot_spec h0
  unfold croot
  by_cases z : froot n * froot n = n
  · rw [if_pos z]
    refine Decidable.byContradiction fun y => ?_
    have h1 := sq_mono (a := t) (b := froot n) ht (by omega)
    have h2 := sq_mono (a := t + 1) (b := froot n) (by omega) (by omega)
    have e : (t + 1) * (t + 1) = t * t + 2 * t + 1 := by
      rw [Int.add_mul, Int.mul_add]
      omega
    omega
  · rw [if_neg z]
    refine Decidable.byContradiction fun y => ?_
    have h1 := sq_mono (a := t) (b := froot n) ht (by omega)
    omega
theorem fl_fine (n : Int × Int) (E : Int) : fl n E * 1024 ≤ fl n (E - 10) := by
  have l1 : min n.2 (E - 10) ≤ n.2 := by omega
  have l2 : min n.2 (E - 10) ≤ E - 10 := by omega
  generalize min n.2 (E - 10) = F at *
  rw [fl_at l1 (show F ≤ E by omega), fl_at l1 l2, show (E - F).toNat = (E - 10 - F).toNat + 10 by omega, Int.pow_add]
  have p := pow_pos2 (E - 10 - F).toNat
  generalize (2 : Int) ^ (E - 10 - F).toNat = g at *
  refine (Int.le_ediv_iff_mul_le p).mpr ?_
  have := Int.mul_ediv_self_le (x := at_ n F) (k := g * 2 ^ 10) (by show g * 1024 ≠ 0; omega)
  rw [Int.mul_assoc, Int.mul_comm 1024 g, Int.mul_comm]
  exact this
theorem root_fine {n : Int × Int} {c : Int} (h : 0 ≤ n.1) : froot (fl n (-2 * c)) * 32 ≤ froot (fl n (-2 * (c + 5))) := by
  have h0 := fl_nn h (-2 * c)
  obtain ⟨r0, r1, r2⟩ := froot_spec h0
  have f := fl_fine n (-2 * c)
  rw [show -2 * c - 10 = -2 * (c + 5) by omega] at f
  refine root_le (fl_nn h _) (by omega) ?_
  have e : froot (fl n (-2 * c)) * 32 * (froot (fl n (-2 * c)) * 32) = froot (fl n (-2 * c)) * froot (fl n (-2 * c)) * 1024 := by
    generalize froot (fl n (-2 * c)) = r
    rw [Int.mul_assoc, Int.mul_left_comm 32 r 32, ← Int.mul_assoc]
    rfl
  rw [e]
  omega
theorem croot_fine {n : Int × Int} {c : Int} (h : 0 ≤ n.1) : croot (cl n (-2 * (c + 5))) ≤ croot (cl n (-2 * c)) * 32 := by
  obtain ⟨r0, r1⟩ := croot_sq_ge (cl_nn h (-2 * c))
  have f := fl_fine (pneg n) (-2 * c)
  rw [show -2 * c - 10 = -2 * (c + 5) by omega] at f
  refine croot_le (cl_nn h _) (by omega) ?_
  have e : croot (cl n (-2 * c)) * 32 * (croot (cl n (-2 * c)) * 32) = croot (cl n (-2 * c)) * croot (cl n (-2 * c)) * 1024 := by
    generalize croot (cl n (-2 * c)) = r
    rw [Int.mul_assoc, Int.mul_left_comm 32 r 32, ← Int.mul_assoc]
    rfl
  rw [e]
  unfold cl at *
  omega
theorem sq_at (r c : Int) {F : Int} (hc : 0 ≤ c) (hF : F ≤ -2 * c) : F ≤ (pmul (nrm r (-c)) (nrm r (-c))).2 ∧ at_ (pmul (nrm r (-c)) (nrm r (-c))) F = r * r * 2 ^ (-2 * c - F).toNat := by
  have l : -c ≤ (nrm r (-c)).2 := nrm_le (by omega)
  have l2 : -2 * c ≤ (pmul (nrm r (-c)) (nrm r (-c))).2 := by
    have := le_mul l l (show -c + -c ≤ 0 by omega)
    omega
  refine ⟨by omega, ?_⟩
  have e : at_ (pmul (nrm r (-c)) (nrm r (-c))) (-2 * c) = r * r := by
    have := at_mul l l
    rw [at_same, show -c + -c = -2 * c by omega] at this
    exact this
  rw [at_split (M := -2 * c) hF l2, e]
theorem root_low {n : Int × Int} {c : Int} (h : 0 ≤ n.1) (hc : 0 ≤ c) : pord (pmul (nrm (froot (fl n (-2 * c))) (-c)) (nrm (froot (fl n (-2 * c))) (-c))) n ≤ 0 := by
  obtain ⟨r0, r1, r2⟩ := froot_spec (fl_nn h (-2 * c))
  have l1 : min n.2 (-2 * c) ≤ n.2 := by omega
  have l2 : min n.2 (-2 * c) ≤ -2 * c := by omega
  generalize min n.2 (-2 * c) = F at *
  obtain ⟨s1, s2⟩ := sq_at (froot (fl n (-2 * c))) c hc l2
  rw [ord_at s1 l1, s2]
  generalize froot (fl n (-2 * c)) = r at *
  rw [fl_at l1 l2] at r1
  exact (Int.le_ediv_iff_mul_le (pow_pos2 _)).mp r1
theorem root_over {n : Int × Int} {c : Int} (h : 0 ≤ n.1) (hc : 0 ≤ c) : 0 < pord (pmul (nrm (froot (fl n (-2 * c)) + 1) (-c)) (nrm (froot (fl n (-2 * c)) + 1) (-c))) n := by
  obtain ⟨r0, r1, r2⟩ := froot_spec (fl_nn h (-2 * c))
  have l1 : min n.2 (-2 * c) ≤ n.2 := by omega
  have l2 : min n.2 (-2 * c) ≤ -2 * c := by omega
  generalize min n.2 (-2 * c) = F at *
  obtain ⟨s1, s2⟩ := sq_at (froot (fl n (-2 * c)) + 1) c hc l2
  have z : ¬ pord (pmul (nrm (froot (fl n (-2 * c)) + 1) (-c)) (nrm (froot (fl n (-2 * c)) + 1) (-c))) n ≤ 0 := by
    rw [ord_at s1 l1, s2]
    generalize froot (fl n (-2 * c)) + 1 = r at *
    rw [fl_at l1 l2] at r2
    have := (Int.ediv_lt_iff_lt_mul (pow_pos2 _)).mp r2
    omega
  omega
theorem root_high {n : Int × Int} {c : Int} (h : 0 ≤ n.1) (hc : 0 ≤ c) : 0 ≤ pord (pmul (nrm (croot (cl n (-2 * c))) (-c)) (nrm (croot (cl n (-2 * c))) (-c))) n := by
  obtain ⟨r0, r1⟩ := croot_sq_ge (cl_nn h (-2 * c))
  have l1 : min n.2 (-2 * c) ≤ n.2 := by omega
  have l2 : min n.2 (-2 * c) ≤ -2 * c := by omega
  generalize min n.2 (-2 * c) = F at *
  obtain ⟨s1, s2⟩ := sq_at (croot (cl n (-2 * c))) c hc l2
  have z : pord n (pmul (nrm (croot (cl n (-2 * c))) (-c)) (nrm (croot (cl n (-2 * c))) (-c))) ≤ 0 := by
    rw [ord_at l1 s1, s2]
    generalize croot (cl n (-2 * c)) = r at *
    unfold cl at r1
    rw [fl_at (n := pneg n) l1 l2, at_neg] at r1
    have p := pow_pos2 (-2 * c - F).toNat
    generalize (2 : Int) ^ (-2 * c - F).toNat = g at *
    have := Int.mul_ediv_self_le (x := -at_ n F) (k := g) (by omega)
    have k := Int.mul_le_mul_of_nonneg_right r1 (Int.le_of_lt p)
    rw [Int.neg_mul, Int.mul_comm (-at_ n F / g) g] at k
    omega
  rw [pord_swap] at z
  omega
theorem root_next {r c : Int} (hc : 0 ≤ c) : padd (nrm r (-c)) (1, -c) = nrm (r + 1) (-c) := by
  have l : -c ≤ (nrm r (-c)).2 := nrm_le (by omega)
  rw [padd_at (E := -c) l (Int.le_refl _), at_same]
  have : at_ (1, -c) (-c) = 1 := by
    unfold at_
    rw [show ((1, -c) : Int × Int).2 - -c = 0 by show -c - -c = 0; omega]
    rfl
  rw [this]
end Onc

namespace Onc
open PySem PySem.Spec PyProof.Rows L2 Evl
/-! ### forms: bits b, least exponent l, greatest exponent o -/
structure Fm where
  b : Int
  l : Int
  o : Int
structure Fm.Ok (f : Fm) : Prop where
  b1 : 1 ≤ f.b
  b2 : f.b ≤ 200
  l1 : -400 ≤ f.l
  l2 : f.l ≤ 300
  o1 : f.l + 1 ≤ f.o
  o2 : f.o ≤ 400
def bt (n : Int × Int) : Int := (Builtin.Int.intBits n.1 : Nat)
theorem psize_bt (n : Int × Int) : psize n = bt n - 1 + n.2 := rfl
theorem bt_pos {n : Int × Int} (h : n.1 ≠ 0) : 1 ≤ bt n := by
  unfold bt
  rw [bits_of h]
  omega
theorem bt_lt (n : Int × Int) : n.1.natAbs < 2 ^ (bt n).toNat := by
  unfold bt
  rw [Int.toNat_natCast]
  by_cases h : n.1 = 0
  · rw [h]
    exact Nat.pow_pos (by decide)
  · rw [bits_of h]
    exact Nat.lt_log2_self
theorem bt_ge {n : Int × Int} (h : n.1 ≠ 0) : 2 ^ (bt n - 1).toNat ≤ n.1.natAbs := by
  unfold bt
  rw [bits_of h, show (((n.1.natAbs.log2 + 1 : Nat) : Int) - 1).toNat = n.1.natAbs.log2 by omega]
  exact Nat.log2_self_le (by omega)
theorem bt_le {n : Int × Int} {k : Nat} (h : n.1.natAbs < 2 ^ k) : bt n ≤ k := by
  unfold bt
  have := PyProof.Rows.intBits_le h
  omega
/-- at a scale, a number other than nought lies from 2 ** psize on, below twice that -/
theorem size_lo {n : Int × Int} {E : Int} (h : 0 < n.1) (hE : E ≤ n.2) (hE2 : E ≤ psize n) : (2 : Int) ^ (psize n - E).toNat ≤ at_ n E := by
  have b1 := bt_ge (n := n) (by omega)
  have b0 := bt_pos (n := n) (by omega)
  have e : (psize n - E).toNat = (bt n - 1).toNat + (n.2 - E).toNat := by rw [psize_bt]; omega
  unfold at_
  rw [e, Int.pow_add]
  refine Int.mul_le_mul_of_nonneg_right ?_ (Int.le_of_lt (pow_pos2 _))
  rw [← pow_two_cast]
  omega
theorem size_hi {n : Int × Int} {E : Int} (h : 0 < n.1) (hE : E ≤ n.2) : at_ n E < (2 : Int) ^ (psize n + 1 - E).toNat := by
  have b1 := bt_lt n
  have b0 := bt_pos (n := n) (by omega)
  have e : (psize n + 1 - E).toNat = (bt n).toNat + (n.2 - E).toNat := by rw [psize_bt]; omega
  unfold at_
  rw [e, Int.pow_add]
  refine Int.mul_lt_mul_of_pos_right ?_ (pow_pos2 _)
  rw [← pow_two_cast]
  omega
theorem psize_le_exp {n : Int × Int} (h : n.1 ≠ 0) : n.2 ≤ psize n := by
  have := bt_pos h
  rw [psize_bt]
  omega
theorem pow_mono {i j : Nat} (h : i ≤ j) : (2 : Int) ^ i ≤ 2 ^ j := by
  rw [← pow_two_cast, ← pow_two_cast]
  exact Int.ofNat_le.mpr (Nat.pow_le_pow_right (by decide) h)
theorem pow_lt_inv {i j : Nat} (h : (2 : Int) ^ i < 2 ^ j) : i < j := by
  rw [← pow_two_cast, ← pow_two_cast] at h
  exact (Nat.pow_lt_pow_iff_right (by decide : 1 < 2)).mp (Int.ofNat_lt.mp h)
/-- sizes rise with numbers -/
theorem size_mono {x y : Int × Int} (hx : 0 < x.1) (h : pord x y ≤ 0) : 0 < y.1 ∧ psize x ≤ psize y := by
  have hy := pos_of_le h hx
  refine ⟨hy, ?_⟩
  obtain ⟨E, h1, h2, _, _⟩ := low3 x y y
  have A := (ord_at h1 h2).mp h
  have p1 := psize_le_exp (n := x) (by omega)
  have p2 := psize_le_exp (n := y) (by omega)
  have a := size_lo hx h1 (by omega)
  have b := size_hi hy h2
  have := pow_lt_inv (Int.lt_of_le_of_lt (Int.le_trans a A) b)
  omega
variable {f : Fm}
/-- a number of the form, without a greatest exponent -/
def InF (f : Fm) (n : Int × Int) : Prop := isNumB n.1 n.2 = true ∧ (n.1 = 0 ∨ (bt n ≤ f.b ∧ f.l ≤ n.2))
def Has (f : Fm) (n : Int × Int) : Prop := InF f n ∧ (n.1 = 0 ∨ psize n < f.o)
def pw (f : Fm) (s : Int) : Int := max f.l (s + 1 - f.b)
def sp (f : Fm) (n : Int × Int) : Int := if n.1 = 0 then f.l else pw f (psize n)
def nout (f : Fm) (n : Int × Int) : Int × Int := nrm (fl n (sp f n) + 1) (sp f n)
def sin1 (n : Int × Int) : Int := if n.1 = 1 then psize n - 1 else psize n
def nin (f : Fm) (n : Int × Int) : Int × Int := nrm (cl n (pw f (sin1 n)) - 1) (pw f (sin1 n))
theorem pw_le {s : Int} {n : Int × Int} (h : InF f n) (h0 : n.1 ≠ 0) (hs : s ≤ psize n) : pw f s ≤ n.2 := by
  rcases h.2 with z | ⟨z1, z2⟩
  · exact absurd z h0
  · unfold pw
    rw [psize_bt] at hs
    omega
theorem inF_nrm {q p : Int} (h0 : 0 ≤ q) (h1 : q ≤ 2 ^ f.b.toNat) (hb : 1 ≤ f.b) (hp : f.l ≤ p) : InF f (nrm q p) := by
  refine ⟨nrm_num q p, ?_⟩
  by_cases z : q = 0
  · rw [z]
    exact .inl rfl
  · right
    have e2 : p ≤ (nrm q p).2 := by
      unfold nrm
      rw [if_neg z]
      show p ≤ p + (v2 q : Int)
      omega
    refine ⟨?_, by omega⟩
    rcases Int.lt_or_eq_of_le h1 with y | y
    · have : (nrm q p).1.natAbs < 2 ^ f.b.toNat := Nat.lt_of_le_of_lt (nrm_abs q p) (by
        have := pow_two_cast f.b.toNat
        omega)
      have := bt_le this
      omega
    · have e : nrm q p = (1, p + f.b.toNat) := by
        rw [nrm_of (a := 0) (k := f.b.toNat) p (by rw [y]; omega)]
        rfl
      rw [e]
      show ((Builtin.Int.intBits 1 : Nat) : Int) ≤ f.b
      have : Builtin.Int.intBits 1 = 1 := by decide
      omega
theorem fl_lt {n : Int × Int} {p : Int} {k : Nat} (h : 0 < n.1) (hp : psize n + 1 ≤ p + k) : fl n p < 2 ^ k := by
  have l1 : min n.2 p ≤ n.2 := by omega
  have l2 : min n.2 p ≤ p := by omega
  generalize min n.2 p = F at *
  rw [fl_at l1 l2]
  refine (Int.ediv_lt_iff_lt_mul (pow_pos2 _)).mpr ?_
  rw [← Int.pow_add]
  have p1 := psize_le_exp (n := n) (by omega)
  exact Int.lt_of_lt_of_le (size_hi h l1) (pow_mono (by omega))
theorem cl_le {n : Int × Int} {p : Int} {k : Nat} (h : at_ n (min n.2 p) ≤ 2 ^ (p + k - min n.2 p).toNat) : cl n p ≤ 2 ^ k := by
  have l1 : min n.2 p ≤ n.2 := by omega
  have l2 : min n.2 p ≤ p := by omega
  generalize min n.2 p = F at *
  unfold cl
  rw [fl_at (n := pneg n) l1 l2, at_neg]
  have : -(2 ^ k) ≤ -at_ n F / 2 ^ (p - F).toNat := by
    refine (Int.le_ediv_iff_mul_le (pow_pos2 _)).mpr ?_
    rw [Int.neg_mul, ← Int.pow_add, show k + (p - F).toNat = (p + k - F).toNat by omega]
    omega
  omega
theorem nout_in (ok : f.Ok) {n : Int × Int} (h : 0 ≤ n.1) : InF f (nout f n) := by
  have h2 := ok.b1
  unfold nout
  refine inF_nrm ?_ ?_ ok.b1 ?_
  · have := fl_nn h (sp f n)
    omega
  · by_cases z : n.1 = 0
    · have e : fl n (sp f n) = 0 := by
        unfold fl
        rw [z]
        split
        · rw [Int.zero_mul]
        · rw [Int.zero_ediv]
      rw [e]
      have := pow_pos2 f.b.toNat
      omega
    · have := fl_lt (n := n) (p := sp f n) (k := f.b.toNat) (by omega) (by
        unfold sp pw
        rw [if_neg z]
        omega)
      omega
  · unfold sp pw
    split <;> omega
theorem fl_mul_le (n : Int × Int) {p F : Int} (h1 : F ≤ n.2) (h2 : F ≤ p) : fl n p * 2 ^ (p - F).toNat ≤ at_ n F := by
  rw [fl_at h1 h2]
  have := Int.mul_ediv_self_le (x := at_ n F) (k := 2 ^ (p - F).toNat) (Int.ne_of_gt (pow_pos2 _))
  rw [Int.mul_comm]
  exact this
theorem fl_mul_gt (n : Int × Int) {p F : Int} (h1 : F ≤ n.2) (h2 : F ≤ p) : at_ n F < (fl n p + 1) * 2 ^ (p - F).toNat := by
  rw [fl_at h1 h2]
  have := Int.lt_mul_ediv_self_add (x := at_ n F) (pow_pos2 (p - F).toNat)
  rw [Int.add_mul, Int.one_mul, Int.mul_comm]
  exact this
/-- a number made at a power, beside another one -/
theorem nrm_scale (q : Int) {p F : Int} (h : F ≤ p) (h0 : F ≤ 0) : F ≤ (nrm q p).2 ∧ at_ (nrm q p) F = q * 2 ^ (p - F).toNat := by
  refine ⟨?_, nrm_at h⟩
  unfold nrm
  by_cases z : q = 0
  · rw [if_pos z]
    exact h0
  · rw [if_neg z]
    show F ≤ p + (v2 q : Int)
    omega
theorem nout_gt (n : Int × Int) : pord n (nout f n) < 0 := by
  have l1 : min (min n.2 (sp f n)) 0 ≤ n.2 := by omega
  have l2 : min (min n.2 (sp f n)) 0 ≤ sp f n := by omega
  have l0 : min (min n.2 (sp f n)) 0 ≤ 0 := by omega
  generalize min (min n.2 (sp f n)) 0 = F at *
  obtain ⟨s1, s2⟩ := nrm_scale (fl n (sp f n) + 1) l2 l0
  have g := fl_mul_gt n l1 l2
  have z : ¬ pord (nout f n) n ≤ 0 := by
    unfold nout
    rw [ord_at s1 l1, s2]
    omega
  rw [pord_swap] at z
  omega
/-- nothing of the form lies between -/
theorem nout_least {x y : Int × Int} (hx : 0 ≤ x.1) (hy : InF f y) (h : pord x y < 0) : pord (nout f x) y ≤ 0 := by
  have y0 : 0 < y.1 := by
    rcases Int.lt_or_eq_of_le hx with z | z
    · exact (size_mono z (by omega)).1
    · have e : at_ x (min x.2 y.2) = 0 := by
        unfold at_
        rw [← z, Int.zero_mul]
      have A : ¬ pord y x ≤ 0 := by rw [pord_swap]; omega
      rcases Int.lt_or_le 0 y.1 with w | w
      · exact w
      · exfalso
        apply A
        rw [ord_at (E := min x.2 y.2) (by omega) (by omega), e]
        exact at_nonpos w
  have hp : sp f x ≤ y.2 := by
    unfold sp
    by_cases z : x.1 = 0
    · rw [if_pos z]
      rcases hy.2 with w | w
      · omega
      · exact w.2
    · rw [if_neg z]
      exact pw_le hy (by omega) (size_mono (by omega) (by omega)).2
  have l1 : min (min x.2 (sp f x)) 0 ≤ x.2 := by omega
  have l2 : min (min x.2 (sp f x)) 0 ≤ sp f x := by omega
  have l0 : min (min x.2 (sp f x)) 0 ≤ 0 := by omega
  generalize min (min x.2 (sp f x)) 0 = F at *
  obtain ⟨s1, s2⟩ := nrm_scale (fl x (sp f x) + 1) l2 l0
  unfold nout
  have A : ¬ pord y x ≤ 0 := by rw [pord_swap]; omega
  rw [ord_at (E := F) (by omega) l1, at_split (M := sp f x) l2 hp] at A
  rw [ord_at s1 (by omega), s2, at_split (n := y) (M := sp f x) l2 hp]
  have g := fl_mul_le x l1 l2
  have P := pow_pos2 (sp f x - F).toNat
  refine Int.mul_le_mul_of_nonneg_right ?_ (Int.le_of_lt P)
  have : fl x (sp f x) * 2 ^ (sp f x - F).toNat < at_ y (sp f x) * 2 ^ (sp f x - F).toNat := by omega
  have := Int.lt_of_mul_lt_mul_right this (Int.le_of_lt P)
  omega
theorem cl_mul_ge (n : Int × Int) {p F : Int} (h1 : F ≤ n.2) (h2 : F ≤ p) : at_ n F ≤ cl n p * 2 ^ (p - F).toNat := by
  have := fl_mul_le (pneg n) (p := p) h1 h2
  rw [at_neg] at this
  unfold cl
  rw [Int.neg_mul]
  omega
theorem cl_mul_lt (n : Int × Int) {p F : Int} (h1 : F ≤ n.2) (h2 : F ≤ p) : (cl n p - 1) * 2 ^ (p - F).toNat < at_ n F := by
  have := fl_mul_gt (pneg n) (p := p) h1 h2
  rw [at_neg] at this
  unfold cl
  have e : -fl (pneg n) p - 1 = -(fl (pneg n) p + 1) := by omega
  rw [e, Int.neg_mul]
  omega
theorem cl_pos {n : Int × Int} (h : 0 < n.1) (p : Int) : 1 ≤ cl n p := by
  have l1 : min n.2 p ≤ n.2 := by omega
  have l2 : min n.2 p ≤ p := by omega
  generalize min n.2 p = F at *
  have g := cl_mul_ge n l1 l2
  have P : 0 < at_ n F := at_pos h
  have Q := pow_pos2 (p - F).toNat
  rcases Int.lt_or_le 0 (cl n p) with z | z
  · omega
  · have := Int.mul_nonpos_of_nonpos_of_nonneg z (Int.le_of_lt Q)
    omega
/-- the size that the next less number is looked for at: the number is greater than 2 to it, and no greater than twice that -/
theorem sin1_lt {n : Int × Int} (hn : isNumB n.1 n.2 = true) (h : 0 < n.1) {F : Int} (hF : F ≤ n.2) (hF2 : F ≤ sin1 n) : (2 : Int) ^ (sin1 n - F).toNat < at_ n F ∧ at_ n F ≤ 2 ^ (sin1 n + 1 - F).toNat := by
  have hi := size_hi h hF
  have p1 := psize_le_exp (n := n) (by omega)
  have lo := size_lo h hF (by omega)
  unfold sin1 at *
  by_cases z : n.1 = 1
  · rw [if_pos z] at *
    have e : at_ n F = 2 ^ (psize n - F).toNat := by
      unfold at_
      rw [z, Int.one_mul]
      congr 1
      have : bt n = 1 := by
        unfold bt
        rw [z]
        decide
      rw [psize_bt, this]
      omega
    rw [e]
    constructor
    · rw [show (psize n - F).toNat = (psize n - 1 - F).toNat + 1 by omega, Int.pow_succ]
      have := pow_pos2 (psize n - 1 - F).toNat
      omega
    · rw [show psize n - 1 + 1 - F = psize n - F by omega]
      exact Int.le_refl _
  · rw [if_neg z] at *
    refine ⟨?_, by omega⟩
    rcases Int.lt_or_eq_of_le lo with y | y
    · exact y
    · exfalso
      have o := num_odd hn (by omega)
      obtain ⟨t, ht⟩ : ∃ t, n.1 = 2 * t + 1 := ⟨n.1 / 2, by omega⟩
      have e : (2 : Int) ^ (n.2 - F).toNat * (2 * t + 1) = 2 ^ (psize n - F).toNat * (2 * 0 + 1) := by
        rw [← ht, Int.mul_comm]
        show at_ n F = _
        rw [← y]
        omega
      have := (odd_unique e).2
      omega
theorem nin_nn {z : Int × Int} (h : 0 < z.1) : 0 ≤ (nin f z).1 := by
  have c := cl_pos h (pw f (sin1 z))
  have s := sgn_nrm (cl z (pw f (sin1 z)) - 1) (pw f (sin1 z))
  unfold nin
  rcases Int.lt_or_eq_of_le c with y | y
  · rw [sgn_pos (show 0 < cl z (pw f (sin1 z)) - 1 by omega)] at s
    have := sgn_of_pos s
    omega
  · rw [show cl z (pw f (sin1 z)) - 1 = 0 by omega]
    exact Int.le_refl 0
theorem nin_in (ok : f.Ok) {z : Int × Int} (hn : isNumB z.1 z.2 = true) (h : 0 < z.1) : InF f (nin f z) := by
  have h2 := ok.b1
  have c := cl_pos h (pw f (sin1 z))
  have p1 := psize_le_exp (n := z) (by omega)
  unfold nin
  refine inF_nrm (by omega) ?_ ok.b1 ?_
  · have : cl z (pw f (sin1 z)) ≤ 2 ^ f.b.toNat := by
      refine cl_le ?_
      have l1 : min z.2 (pw f (sin1 z)) ≤ z.2 := by omega
      have l2 : min z.2 (pw f (sin1 z)) ≤ pw f (sin1 z) := by omega
      generalize hF : min z.2 (pw f (sin1 z)) = F at *
      by_cases y : F ≤ sin1 z
      · refine Int.le_trans (sin1_lt hn h l1 y).2 (pow_mono ?_)
        unfold pw at *
        omega
      · have hi := size_hi h l1
        refine Int.le_trans (Int.le_of_lt hi) (pow_mono ?_)
        unfold pw sin1 at *
        split at * <;> omega
    omega
  · unfold pw
    omega
theorem nin_lt (z : Int × Int) : pord (nin f z) z < 0 := by
  have l1 : min (min z.2 (pw f (sin1 z))) 0 ≤ z.2 := by omega
  have l2 : min (min z.2 (pw f (sin1 z))) 0 ≤ pw f (sin1 z) := by omega
  have l0 : min (min z.2 (pw f (sin1 z))) 0 ≤ 0 := by omega
  generalize min (min z.2 (pw f (sin1 z))) 0 = F at *
  obtain ⟨s1, s2⟩ := nrm_scale (cl z (pw f (sin1 z)) - 1) l2 l0
  have g := cl_mul_lt z l1 l2
  have y : ¬ pord z (nin f z) ≤ 0 := by
    unfold nin
    rw [ord_at l1 s1, s2]
    omega
  rw [pord_swap] at y
  omega
theorem not_le_pos {x y : Int × Int} (hx : 0 ≤ x.1) (h : ¬ pord y x ≤ 0) : 0 < y.1 := by
  rcases Int.lt_or_le 0 y.1 with w | w
  · exact w
  · exfalso
    apply h
    rw [ord_at (E := min x.2 y.2) (by omega) (by omega)]
    exact Int.le_trans (at_nonpos w) (at_nonneg hx)
theorem nin_great (ok : f.Ok) {y z : Int × Int} (hn : isNumB z.1 z.2 = true) (hz : 0 < z.1) (hy : InF f y) (h : pord y z < 0) : pord y (nin f z) ≤ 0 := by
  refine Decidable.byContradiction fun hc => ?_
  have b1 := ok.b1
  have y0 := not_le_pos (nin_nn (f := f) hz) hc
  have p1 := psize_le_exp (n := z) (by omega)
  have hA : ¬ pord z y ≤ 0 := by rw [pord_swap]; omega
  have hp : pw f (sin1 z) ≤ y.2 := by
    by_cases w : pw f (sin1 z) = f.l
    · rw [w]
      rcases hy.2 with v | v
      · omega
      · exact v.2
    · refine pw_le hy (by omega) ?_
      have e : pw f (sin1 z) = sin1 z + 1 - f.b := by
        unfold pw at *
        omega
      have l1 : min (min z.2 (pw f (sin1 z))) (min y.2 0) ≤ z.2 := by omega
      have l2 : min (min z.2 (pw f (sin1 z))) (min y.2 0) ≤ pw f (sin1 z) := by omega
      have l3 : min (min z.2 (pw f (sin1 z))) (min y.2 0) ≤ y.2 := by omega
      have l0 : min (min z.2 (pw f (sin1 z))) (min y.2 0) ≤ 0 := by omega
      generalize min (min z.2 (pw f (sin1 z))) (min y.2 0) = F at *
      have s := (sin1_lt hn hz l1 (by omega)).1
      have g := cl_mul_ge z l1 l2
      have e2 : (sin1 z - F).toNat = (f.b - 1).toNat + (pw f (sin1 z) - F).toNat := by omega
      rw [e2, Int.pow_add] at s
      have P := pow_pos2 (pw f (sin1 z) - F).toNat
      have c1 : (2 : Int) ^ (f.b - 1).toNat < cl z (pw f (sin1 z)) := Int.lt_of_mul_lt_mul_right (Int.lt_of_lt_of_le s g) (Int.le_of_lt P)
      obtain ⟨s1, s2⟩ := nrm_scale (cl z (pw f (sin1 z)) - 1) l2 l0
      unfold nin at hc
      rw [ord_at l3 s1, s2] at hc
      have c2 : (2 : Int) ^ (f.b - 1).toNat * 2 ^ (pw f (sin1 z) - F).toNat ≤ (cl z (pw f (sin1 z)) - 1) * 2 ^ (pw f (sin1 z) - F).toNat := Int.mul_le_mul_of_nonneg_right (by omega) (Int.le_of_lt P)
      rw [← Int.pow_add, ← e2] at c2
      have hi := size_hi y0 l3
      have p2 := psize_le_exp (n := y) (by omega)
      have := pow_lt_inv (Int.lt_of_le_of_lt c2 (Int.lt_trans (Int.not_le.mp hc) hi))
      omega
  have l1 : min (min z.2 (pw f (sin1 z))) 0 ≤ z.2 := by omega
  have l2 : min (min z.2 (pw f (sin1 z))) 0 ≤ pw f (sin1 z) := by omega
  have l0 : min (min z.2 (pw f (sin1 z))) 0 ≤ 0 := by omega
  generalize min (min z.2 (pw f (sin1 z))) 0 = F at *
  obtain ⟨s1, s2⟩ := nrm_scale (cl z (pw f (sin1 z)) - 1) l2 l0
  unfold nin at hc
  rw [ord_at (E := F) (by omega) s1, s2, at_split (M := pw f (sin1 z)) l2 hp] at hc
  rw [ord_at (E := F) l1 (by omega), at_split (n := y) (M := pw f (sin1 z)) l2 hp] at hA
  have g := cl_mul_ge z l1 l2
  have P := pow_pos2 (pw f (sin1 z) - F).toNat
  have c1 := Int.lt_of_mul_lt_mul_right (Int.not_le.mp hc) (Int.le_of_lt P)
  have c2 : at_ y (pw f (sin1 z)) * 2 ^ (pw f (sin1 z) - F).toNat < cl z (pw f (sin1 z)) * 2 ^ (pw f (sin1 z) - F).toNat := by omega
  have c3 := Int.lt_of_mul_lt_mul_right c2 (Int.le_of_lt P)
  omega
/-! ### the greatest number -/
def pl (f : Fm) : Int := min f.b (f.o - f.l)
def topF (f : Fm) : Int × Int := nrm (2 ^ (pl f).toNat - 1) (f.o - pl f)
theorem topF_eq (ok : f.Ok) : topF f = (2 ^ (pl f).toNat - 1, f.o - pl f) := by
  refine nrm_self (odd_num ?_)
  have h1 := ok.b1
  have h2 := ok.o1
  rw [show (pl f).toNat = ((pl f).toNat - 1) + 1 by unfold pl; omega, Int.pow_succ]
  omega
theorem pl_pos (ok : f.Ok) : 1 ≤ pl f := by
  have h1 := ok.b1
  have h2 := ok.o1
  unfold pl
  omega
theorem top_pos (ok : f.Ok) : 0 < (topF f).1 := by
  rw [topF_eq ok]
  show (0 : Int) < 2 ^ (pl f).toNat - 1
  have h := pl_pos ok
  have : (2 : Int) ^ 1 ≤ 2 ^ (pl f).toNat := pow_mono (by omega)
  have e : (2 : Int) ^ 1 = 2 := rfl
  omega
theorem top_bt (ok : f.Ok) : bt (topF f) = pl f := by
  have h := pl_pos ok
  have P := pow_pos2 (pl f).toNat
  have c := pow_two_cast (pl f).toNat
  have t := top_pos ok
  have e1 : bt (topF f) ≤ pl f := by
    have : bt (topF f) ≤ ((pl f).toNat : Nat) := bt_le (by
      rw [topF_eq ok]
      show ((2 : Int) ^ (pl f).toNat - 1).natAbs < 2 ^ (pl f).toNat
      omega)
    omega
  have e2 := bt_lt (topF f)
  refine Decidable.byContradiction fun z => ?_
  have b0 := bt_pos (n := topF f) (by omega)
  have : 2 ^ (bt (topF f)).toNat ≤ 2 ^ ((pl f).toNat - 1) := Nat.pow_le_pow_right (by decide) (by omega)
  have e3 : (topF f).1.natAbs = 2 ^ (pl f).toNat - 1 := by
    rw [topF_eq ok]
    show ((2 : Int) ^ (pl f).toNat - 1).natAbs = _
    omega
  have e4 : 2 ^ (pl f).toNat = 2 ^ ((pl f).toNat - 1) * 2 := by
    rw [← Nat.pow_succ]
    congr 1
    omega
  have : 0 < 2 ^ ((pl f).toNat - 1) := Nat.pow_pos (by decide)
  omega
theorem top_size (ok : f.Ok) : psize (topF f) = f.o - 1 := by
  rw [psize_bt, top_bt ok, topF_eq ok]
  show pl f - 1 + (f.o - pl f) = _
  omega
theorem top_has (ok : f.Ok) : Has f (topF f) := by
  refine ⟨⟨nrm_num _ _, .inr ⟨?_, ?_⟩⟩, .inr ?_⟩
  · rw [top_bt ok]
    unfold pl
    omega
  · rw [topF_eq ok]
    show f.l ≤ f.o - pl f
    unfold pl
    omega
  · rw [top_size ok]
    omega
theorem top_max (ok : f.Ok) {n : Int × Int} (h : Has f n) : pord n (topF f) ≤ 0 := by
  have t0 := top_pos ok
  have b1 := ok.b1
  rcases Int.lt_or_le 0 n.1 with z | z
  · rcases h.2 with w | w
    · omega
    have p1 := psize_le_exp (n := n) (by omega)
    have l1 : min n.2 (f.o - pl f) ≤ n.2 := by omega
    have l2 : min n.2 (f.o - pl f) ≤ f.o - pl f := by omega
    have lt : (topF f).2 = f.o - pl f := by rw [topF_eq ok]
    have at2 : ∀ F : Int, at_ (topF f) F = (2 ^ (pl f).toNat - 1) * 2 ^ (f.o - pl f - F).toNat := fun F => by rw [topF_eq ok]; rfl
    by_cases y : f.o - pl f ≤ n.2
    · rw [ord_at (E := f.o - pl f) y (by omega), at2, show (f.o - pl f - (f.o - pl f)).toNat = 0 by omega, Int.pow_zero, Int.mul_one]
      have hi := size_hi z y
      have : (2 : Int) ^ (psize n + 1 - (f.o - pl f)).toNat ≤ 2 ^ (pl f).toNat := pow_mono (by omega)
      omega
    · rw [ord_at (E := n.2) (by omega) (by omega), at2]
      have hi := size_hi z (Int.le_refl n.2)
      have hb : bt n ≤ f.b := by
        rcases h.1.2 with v | v
        · omega
        · exact v.1
      have hl : f.l ≤ n.2 := by
        rcases h.1.2 with v | v
        · omega
        · exact v.2
      have e : pl f = f.b := by
        unfold pl at *
        omega
      rw [psize_bt] at hi
      have c1 : (2 : Int) ^ (bt n - 1 + n.2 + 1 - n.2).toNat ≤ 2 ^ (pl f).toNat := pow_mono (by omega)
      have c2 : (2 : Int) ^ 1 ≤ 2 ^ (f.o - pl f - n.2).toNat := pow_mono (by omega)
      have c3 : (2 : Int) ^ 1 = 2 := rfl
      have c4 : (2 : Int) ^ 1 ≤ 2 ^ (pl f).toNat := pow_mono (by omega)
      have c5 : (2 ^ (pl f).toNat - 1) * 2 ≤ ((2 : Int) ^ (pl f).toNat - 1) * 2 ^ (f.o - pl f - n.2).toNat := Int.mul_le_mul_of_nonneg_left (by omega) (by omega)
      omega
  · rw [ord_at (E := min n.2 (topF f).2) (by omega) (by omega)]
    exact Int.le_trans (at_nonpos z) (at_nonneg (Int.le_of_lt t0))
/-! ### turned about nought -/
theorem nrm_pp {m e : Int} (h : 0 < m) : 0 < (nrm m e).1 := by
  have s := sgn_nrm m e
  rw [sgn_pos h] at s
  exact sgn_of_pos s
theorem bits_neg (m : Int) : Builtin.Int.intBits (-m) = Builtin.Int.intBits m := by
  by_cases h : m = 0
  · rw [h]
    rfl
  · rw [bits_of h, bits_of (by omega), Int.natAbs_neg]
theorem bt_neg (n : Int × Int) : bt (pneg n) = bt n := by
  unfold bt
  show ((Builtin.Int.intBits (-n.1) : Nat) : Int) = _
  rw [bits_neg]
theorem psize_neg (n : Int × Int) : psize (pneg n) = psize n := by
  rw [psize_bt, psize_bt, bt_neg]
  rfl
theorem sp_neg (n : Int × Int) : sp f (pneg n) = sp f n := by
  unfold sp
  rw [psize_neg]
  by_cases h : n.1 = 0
  · rw [if_pos h, if_pos (by show -n.1 = 0; omega)]
  · rw [if_neg h, if_neg (by show ¬ -n.1 = 0; omega)]
theorem inF_neg {n : Int × Int} (h : InF f n) : InF f (pneg n) := by
  refine ⟨num_neg h.1, ?_⟩
  rcases h.2 with z | z
  · exact .inl (by show -n.1 = 0; omega)
  · right
    rw [bt_neg]
    exact z
theorem has_neg {n : Int × Int} (h : Has f n) : Has f (pneg n) := by
  refine ⟨inF_neg h.1, ?_⟩
  rw [psize_neg]
  rcases h.2 with z | z
  · exact .inl (by show -n.1 = 0; omega)
  · exact .inr z
theorem top_min (ok : f.Ok) {n : Int × Int} (h : Has f n) : pord (pneg (topF f)) n ≤ 0 := by
  have := top_max ok (has_neg h)
  rw [← pneg_pneg n, pord_neg]
  exact this
theorem has_of_le (ok : f.Ok) {n : Int × Int} (h : InF f n) (h0 : 0 ≤ n.1) (hl : pord n (topF f) ≤ 0) : Has f n := by
  refine ⟨h, ?_⟩
  rcases Int.lt_or_eq_of_le h0 with z | z
  · right
    have := (size_mono z hl).2
    rw [top_size ok] at this
    omega
  · exact .inl z.symm
/-! ### the next greater number -/
def aboveF (f : Fm) (n : Int × Int) : Option (Int × Int) := if 0 ≤ pord n (topF f) then none else if pord n (pneg (topF f)) < 0 then some (pneg (topF f)) else if n.1 < 0 then some (pneg (nin f (pneg n))) else some (nout f n)
def belowF (f : Fm) (n : Int × Int) : Option (Int × Int) := (aboveF f (pneg n)).map pneg
structure Up (f : Fm) (n m : Int × Int) : Prop where
  has : Has f m
  gt : pord n m < 0
  least : ∀ y, Has f y → pord n y < 0 → pord m y ≤ 0
structure Dn (f : Fm) (n m : Int × Int) : Prop where
  has : Has f m
  lt : pord m n < 0
  great : ∀ y, Has f y → pord y n < 0 → pord y m ≤ 0
theorem lt_neg {a b : Int × Int} (h : pord a b < 0) : pord (pneg b) (pneg a) < 0 := by rw [pord_neg]; exact h
theorem lt_of_not {a b : Int × Int} (h : ¬ pord a b ≤ 0) : pord b a < 0 := by rw [pord_swap a b]; omega
theorem not_of_lt {a b : Int × Int} (h : pord a b < 0) : ¬ pord b a ≤ 0 := by rw [pord_swap a b]; omega
theorem lt_le {a b c : Int × Int} (h1 : pord a b < 0) (h2 : pord b c ≤ 0) : pord a c < 0 := by
  refine Decidable.byContradiction fun z => ?_
  have h3 : pord c a ≤ 0 := by rw [pord_swap a c]; omega
  exact not_of_lt h1 (le_tr h2 h3)
theorem le_lt {a b c : Int × Int} (h1 : pord a b ≤ 0) (h2 : pord b c < 0) : pord a c < 0 := by
  refine Decidable.byContradiction fun z => ?_
  have h3 : pord c a ≤ 0 := by rw [pord_swap a c]; omega
  exact not_of_lt h2 (le_tr h3 h1)
theorem above_up (ok : f.Ok) {n m : Int × Int} (hn : isNumB n.1 n.2 = true) (h : aboveF f n = some m) : Up f n m := by
  unfold aboveF at h
  by_cases h1 : 0 ≤ pord n (topF f)
  · rw [if_pos h1] at h
    cases h
  rw [if_neg h1] at h
  have t1 : pord n (topF f) < 0 := by omega
  by_cases h2 : pord n (pneg (topF f)) < 0
  · rw [if_pos h2] at h
    cases h
    exact ⟨has_neg (top_has ok), h2, fun y hy _ => top_min ok hy⟩
  rw [if_neg h2] at h
  have t2 : pord (pneg (topF f)) n ≤ 0 := by rw [pord_swap n]; omega
  by_cases h3 : n.1 < 0
  · rw [if_pos h3] at h
    cases h
    have z0 : 0 < (pneg n).1 := by show 0 < -n.1; omega
    have zn := num_neg hn
    have lt := nin_lt (f := f) (pneg n)
    have tz : pord (pneg n) (topF f) ≤ 0 := by
      rw [← pneg_pneg (topF f), pord_neg]
      exact t2
    have hw : Has f (nin f (pneg n)) := has_of_le ok (nin_in ok zn z0) (nin_nn z0) (le_tr (by omega) tz)
    refine ⟨has_neg hw, ?_, fun y hy hy2 => ?_⟩
    · rw [← pneg_pneg n, pord_neg, pneg_pneg]
      exact lt
    · have := nin_great ok zn z0 (inF_neg hy.1) (lt_neg hy2)
      rw [← pneg_pneg y, pord_neg]
      exact this
  · rw [if_neg h3] at h
    cases h
    have z0 : 0 ≤ n.1 := by omega
    have l := nout_least z0 (top_has ok).1 t1
    have n0 : 0 ≤ (nout f n).1 := by
      have := fl_nn z0 (sp f n)
      exact Int.le_of_lt (nrm_pp (e := sp f n) (show 0 < fl n (sp f n) + 1 by omega))
    exact ⟨has_of_le ok (nout_in ok z0) n0 l, nout_gt n, fun y hy hy2 => nout_least z0 hy.1 hy2⟩
theorem up_one {n m m' : Int × Int} (h : Up f n m) (h' : Up f n m') : m = m' := pord_anti h.has.1.1 h'.has.1.1 (h.least m' h'.has h'.gt) (h'.least m h.has h.gt)
theorem dn_one {n m m' : Int × Int} (h : Dn f n m) (h' : Dn f n m') : m = m' := pord_anti h.has.1.1 h'.has.1.1 (h'.great m h.has h.lt) (h.great m' h'.has h'.lt)
theorem up_dn {n m : Int × Int} (h : Up f (pneg n) m) : Dn f n (pneg m) := by
  refine ⟨has_neg h.has, ?_, fun y hy hy2 => ?_⟩
  · have := lt_neg h.gt
    rw [pneg_pneg] at this
    exact this
  · have := h.least (pneg y) (has_neg hy) (lt_neg hy2)
    rw [← pneg_pneg y, pord_neg]
    exact this
theorem dn_up {n m : Int × Int} (h : Dn f n m) : Up f (pneg n) (pneg m) := by
  refine ⟨has_neg h.has, lt_neg h.lt, fun y hy hy2 => ?_⟩
  have := h.great (pneg y) (has_neg hy) (by have := lt_neg hy2; rw [pneg_pneg] at this; exact this)
  rw [← pneg_pneg y, pord_neg]
  exact this
theorem below_dn (ok : f.Ok) {n m : Int × Int} (hn : isNumB n.1 n.2 = true) (h : belowF f n = some m) : Dn f n m := by
  unfold belowF at h
  cases ha : aboveF f (pneg n) with
  | none =>
    rw [ha] at h
    cases h
  | some u =>
    rw [ha] at h
    have e : pneg u = m := Option.some.inj h
    rw [← e]
    exact up_dn (above_up ok (num_neg hn) ha)
theorem above_eq (ok : f.Ok) {n u : Int × Int} (hn : isNumB n.1 n.2 = true) (h : Up f n u) : aboveF f n = some u := by
  cases ha : aboveF f n with
  | none =>
    exfalso
    unfold aboveF at ha
    by_cases h1 : 0 ≤ pord n (topF f)
    · have := top_max ok h.has
      have := lt_le h.gt this
      omega
    · rw [if_neg h1] at ha
      split at ha
      · cases ha
      · split at ha <;> cases ha
  | some m => rw [up_one (above_up ok hn ha) h]
theorem below_eq (ok : f.Ok) {n d : Int × Int} (hn : isNumB n.1 n.2 = true) (h : Dn f n d) : belowF f n = some d := by
  unfold belowF
  rw [above_eq ok (num_neg hn) (dn_up h)]
  show some (pneg (pneg d)) = some d
  rw [pneg_pneg]
theorem above_none {n : Int × Int} (h : aboveF f n = none) : 0 ≤ pord n (topF f) := by
  unfold aboveF at h
  by_cases h1 : 0 ≤ pord n (topF f)
  · exact h1
  · rw [if_neg h1] at h
    split at h
    · cases h
    · split at h <;> cases h
/-- back from the next one -/
theorem back_in {v u : Int × Int} (hv : Has f v) (h : Up f v u) : Dn f u v := ⟨hv, h.gt, fun y hy hy2 => Decidable.byContradiction fun z => not_of_lt hy2 (h.least y hy (lt_of_not z))⟩
theorem fwd_in {v d : Int × Int} (hv : Has f v) (h : Dn f v d) : Up f d v := ⟨hv, h.lt, fun y hy hy2 => Decidable.byContradiction fun z => not_of_lt hy2 (h.great y hy (lt_of_not z))⟩
theorem ne_lt {y v : Int × Int} (hy : Has f y) (hn : isNumB v.1 v.2 = true) (hv : ¬ Has f v) (h : pord y v ≤ 0) : pord y v < 0 := by
  rcases Int.lt_or_eq_of_le h with z | z
  · exact z
  · exact absurd ((ord_zero hy.1.1 hn).mp z ▸ hy) hv
theorem back_out {v u d : Int × Int} (hn : isNumB v.1 v.2 = true) (hv : ¬ Has f v) (h : Up f v u) (hd : Dn f v d) : Dn f u d :=
  ⟨hd.has, lt_le hd.lt (by have := h.gt; omega), fun y hy hy2 => by
    by_cases z : pord y v ≤ 0
    · exact hd.great y hy (ne_lt hy hn hv z)
    · exact absurd (h.least y hy (lt_of_not z)) (not_of_lt hy2)⟩
theorem fwd_out {v u d : Int × Int} (hn : isNumB v.1 v.2 = true) (hv : ¬ Has f v) (h : Up f v u) (hd : Dn f v d) : Up f d u :=
  ⟨h.has, lt_le hd.lt (by have := h.gt; omega), fun y hy hy2 => by
    by_cases z : pord y v ≤ 0
    · exact absurd (hd.great y hy (ne_lt hy hn hv z)) (not_of_lt hy2)
    · exact h.least y hy (lt_of_not z)⟩
theorem above_top (ok : f.Ok) {v : Int × Int} (hn : isNumB v.1 v.2 = true) (h : aboveF f v = none) : belowF f v = some (topF f) ∨ v = topF f := by
  have h1 := above_none h
  by_cases z : pord v (topF f) = 0
  · exact .inr ((ord_zero hn (top_has ok).1.1).mp z)
  · left
    refine below_eq ok hn ⟨top_has ok, by rw [pord_swap v]; omega, fun y hy _ => top_max ok hy⟩
theorem below_top (ok : f.Ok) {v : Int × Int} (hn : isNumB v.1 v.2 = true) (h : belowF f v = none) : aboveF f v = some (pneg (topF f)) ∨ v = pneg (topF f) := by
  unfold belowF at h
  have h0 : aboveF f (pneg v) = none := by
    cases ha : aboveF f (pneg v) with
    | none => rfl
    | some m =>
      rw [ha] at h
      cases h
  rcases above_top ok (num_neg hn) h0 with z | z
  · left
    unfold belowF at z
    rw [pneg_pneg] at z
    cases ha : aboveF f v with
    | none =>
      rw [ha] at z
      cases z
    | some m =>
      rw [ha] at z
      have e : pneg m = topF f := Option.some.inj z
      rw [← e, pneg_pneg]
  · exact .inr (by rw [← z, pneg_pneg])
/-! ### steps -/
def stepF (f : Fm) (n : Int × Int) : Int × Int := (1, sp f n)
theorem padd_step {q p : Int} (F : Int) (hF : F ≤ p) (h0 : F ≤ 0) : padd (nrm q p) (1, p) = nrm (q + 1) p := by
  obtain ⟨s1, s2⟩ := nrm_scale q hF h0
  rw [padd_at (b := (1, p)) s1 hF, s2]
  have e : at_ (1, p) F = 2 ^ (p - F).toNat := by
    unfold at_
    rw [Int.one_mul]
  have e2 : q * 2 ^ (p - F).toNat + 2 ^ (p - F).toNat = (q + 1) * 2 ^ (p - F).toNat := by rw [Int.add_mul, Int.one_mul]
  rw [e, e2, nrm_shift, show F + ((p - F).toNat : Int) = p by omega]
theorem exact_at {n : Int × Int} (hn : isNumB n.1 n.2 = true) {p : Int} (h : p ≤ n.2) : n = nrm (at_ n p) p ∧ fl n p = at_ n p ∧ cl n p = at_ n p := by
  refine ⟨(num_at hn h).symm, ?_, ?_⟩
  · unfold fl
    rw [if_pos h]
    rfl
  · unfold cl fl
    rw [if_pos (show p ≤ (pneg n).2 from h)]
    show -(-n.1 * 2 ^ (n.2 - p).toNat) = n.1 * 2 ^ (n.2 - p).toNat
    rw [Int.neg_mul, Int.neg_neg]
theorem sp_le {n : Int × Int} (h : InF f n) : n.1 = 0 ∨ sp f n ≤ n.2 := by
  by_cases z : n.1 = 0
  · exact .inl z
  · right
    unfold sp
    rw [if_neg z]
    exact pw_le h z (Int.le_refl _)
/-- both neighbours of a number that isn't of the form lie a step apart or less -/
theorem gap_out (ok : f.Ok) {z : Int × Int} (hn : isNumB z.1 z.2 = true) (h0 : 0 < z.1) (hz : ¬ InF f z) : pord (nout f z) (padd (nin f z) (1, sp f z)) ≤ 0 := by
  have b1 := ok.b1
  have ep : pw f (sin1 z) = sp f z := by
    unfold sp
    rw [if_neg (show ¬ z.1 = 0 by omega)]
    unfold sin1
    by_cases y : z.1 = 1
    · rw [if_pos y]
      have bz : bt z = 1 := by
        unfold bt
        rw [y]
        decide
      have : z.2 < f.l := by
        refine Decidable.byContradiction fun w => hz ⟨hn, .inr ⟨by omega, by omega⟩⟩
      unfold pw
      rw [psize_bt, bz]
      omega
    · rw [if_neg y]
  unfold nin
  rw [ep, padd_step (min (sp f z) 0) (by omega) (by omega), show cl z (sp f z) - 1 + 1 = cl z (sp f z) by omega]
  have hin : InF f (nrm (cl z (sp f z)) (sp f z)) := by
    have c := cl_pos h0 (sp f z)
    refine inF_nrm (by omega) ?_ b1 (by unfold sp pw; split <;> omega)
    refine cl_le ?_
    have l1 : min z.2 (sp f z) ≤ z.2 := by omega
    have hi := size_hi h0 l1
    refine Int.le_trans (Int.le_of_lt hi) (pow_mono ?_)
    have p1 := psize_le_exp (n := z) (by omega)
    unfold sp pw at *
    rw [if_neg (by omega)] at *
    omega
  refine nout_least (by omega) hin ?_
  have l1 : min (min z.2 (sp f z)) 0 ≤ z.2 := by omega
  have l2 : min (min z.2 (sp f z)) 0 ≤ sp f z := by omega
  have l0 : min (min z.2 (sp f z)) 0 ≤ 0 := by omega
  have hle : pord z (nrm (cl z (sp f z)) (sp f z)) ≤ 0 := by
    generalize min (min z.2 (sp f z)) 0 = F at *
    obtain ⟨s1, s2⟩ := nrm_scale (cl z (sp f z)) l2 l0
    rw [ord_at l1 s1, s2]
    exact cl_mul_ge z l1 l2
  rcases Int.lt_or_eq_of_le hle with w | w
  · exact w
  · exact absurd ((ord_zero hn (nrm_num _ _)).mp w ▸ hin) hz
theorem step_in (ok : f.Ok) {v u : Int × Int} (hv : Has f v) (h : aboveF f v = some u) : pord u (padd v (stepF f v)) ≤ 0 := by
  have up := above_up ok hv.1.1 h
  have b1 := ok.b1
  by_cases h3 : v.1 < 0
  · have z0 : 0 < (pneg v).1 := by show 0 < -v.1; omega
    have hz := inF_neg hv.1
    have hp : sp f v ≤ (pneg v).2 := by
      rcases sp_le hv.1 with w | w
      · omega
      · exact w
    obtain ⟨e1, e2, e3⟩ := exact_at (num_neg hv.1.1) hp
    have N1 : 1 ≤ at_ (pneg v) (sp f v) := by rw [← e3]; exact cl_pos z0 _
    have N2 : at_ (pneg v) (sp f v) ≤ 2 ^ f.b.toNat := by
      have hi := size_hi z0 hp
      refine Int.le_trans (Int.le_of_lt hi) (pow_mono ?_)
      rw [psize_neg]
      unfold sp pw at *
      rw [if_neg (by omega)] at *
      omega
    have hy : InF f (nrm (at_ (pneg v) (sp f v) - 1) (sp f v)) := inF_nrm (by omega) (by omega) b1 (by unfold sp pw; split <;> omega)
    have ey : padd v (stepF f v) = pneg (nrm (at_ (pneg v) (sp f v) - 1) (sp f v)) := by
      have l2 : min (sp f v) 0 ≤ sp f v := by omega
      have l0 : min (sp f v) 0 ≤ 0 := by omega
      generalize min (sp f v) 0 = F at *
      unfold stepF
      have hv2 : sp f v ≤ v.2 := hp
      rw [padd_at (b := (1, sp f v)) (E := F) (by omega) l2]
      have e4 : at_ (1, sp f v) F = 2 ^ (sp f v - F).toNat := by
        unfold at_
        rw [Int.one_mul]
      rw [e4, at_split (M := sp f v) l2 hv2, ← nrm_negate]
      have e5 : at_ v (sp f v) = -at_ (pneg v) (sp f v) := by rw [at_neg]; omega
      rw [e5]
      generalize at_ (pneg v) (sp f v) = N
      have e6 : -N * 2 ^ (sp f v - F).toNat + 2 ^ (sp f v - F).toNat = -(N - 1) * 2 ^ (sp f v - F).toNat := by
        rw [show -(N - 1) = -N + 1 by omega, Int.add_mul, Int.one_mul]
      rw [e6, nrm_shift, show F + ((sp f v - F).toNat : Int) = sp f v by omega]
    rw [ey]
    have ylt : pord (nrm (at_ (pneg v) (sp f v) - 1) (sp f v)) (pneg v) < 0 := by
      have l2 : min (sp f v) 0 ≤ sp f v := by omega
      have l0 : min (sp f v) 0 ≤ 0 := by omega
      generalize min (sp f v) 0 = F at *
      obtain ⟨s1, s2⟩ := nrm_scale (at_ (pneg v) (sp f v) - 1) l2 l0
      refine lt_of_not ?_
      rw [ord_at (E := F) (by omega) s1, s2, at_split (n := pneg v) (M := sp f v) l2 hp]
      have P := pow_pos2 (sp f v - F).toNat
      rw [Int.sub_mul, Int.one_mul]
      omega
    have ynn : 0 ≤ (nrm (at_ (pneg v) (sp f v) - 1) (sp f v)).1 := by
      rcases Int.lt_or_eq_of_le N1 with w | w
      · exact Int.le_of_lt (nrm_pp (e := sp f v) (show 0 < at_ (pneg v) (sp f v) - 1 by omega))
      · rw [← w]
        exact Int.le_refl 0
    have yh : Has f (nrm (at_ (pneg v) (sp f v) - 1) (sp f v)) := has_of_le ok hy ynn (le_tr (by omega) (top_max ok (has_neg hv)))
    refine up.least _ (has_neg yh) ?_
    have := lt_neg ylt
    rw [pneg_pneg] at this
    exact this
  · have e : u = nout f v := by
      unfold aboveF at h
      by_cases h1 : 0 ≤ pord v (topF f)
      · rw [if_pos h1] at h
        cases h
      · have h2 : ¬ pord v (pneg (topF f)) < 0 := fun z => not_of_lt z (top_min ok hv)
        rw [if_neg h1, if_neg h2, if_neg h3] at h
        exact (Option.some.inj h).symm
    rw [e]
    unfold nout stepF
    rcases sp_le hv.1 with w | w
    · have ev := num_zero hv.1.1 w
      rw [ev]
      have e2 : fl (0, 0) (sp f (0, 0)) = 0 := by
        unfold fl
        split
        · exact Int.zero_mul _
        · exact Int.zero_ediv _
      have e3 := padd_step (q := 0) (p := sp f (0, 0)) (min (sp f (0, 0)) 0) (by omega) (by omega)
      rw [nrm_zero] at e3
      rw [e2, e3]
      exact le_rfl' _
    · obtain ⟨e1, e2, e3⟩ := exact_at hv.1.1 w
      have e4 := padd_step (q := at_ v (sp f v)) (p := sp f v) (min (sp f v) 0) (by omega) (by omega)
      rw [← e1] at e4
      rw [e2, e4]
      exact le_rfl' _
theorem step_out (ok : f.Ok) {v u d : Int × Int} (hn : isNumB v.1 v.2 = true) (hv : ¬ Has f v) (h : aboveF f v = some u) (hd : belowF f v = some d) : pord u (padd d (stepF f v)) ≤ 0 := by
  have up := above_up ok hn h
  have dn := below_dn ok hn hd
  have v0 : v.1 ≠ 0 := fun z => hv ⟨⟨hn, .inl z⟩, .inl z⟩
  have lt1 : pord v (topF f) < 0 := lt_le up.gt (top_max ok up.has)
  have lt2 : pord (pneg (topF f)) v < 0 := le_lt (top_min ok dn.has) dn.lt
  have a1 : ¬ 0 ≤ pord v (topF f) := by omega
  have a2 : ¬ pord v (pneg (topF f)) < 0 := by rw [pord_swap (pneg (topF f))]; omega
  have a3 : ¬ 0 ≤ pord (pneg v) (topF f) := by
    have := lt_neg lt2
    rw [pneg_pneg] at this
    omega
  have a4 : ¬ pord (pneg v) (pneg (topF f)) < 0 := by
    rw [pord_neg, pord_swap v]
    omega
  unfold belowF at hd
  unfold aboveF at h hd
  rw [if_neg a1, if_neg a2] at h
  rw [if_neg a3, if_neg a4] at hd
  rcases Int.lt_or_gt_of_ne v0 with z | z
  · rw [if_pos z] at h
    rw [if_neg (by show ¬ -v.1 < 0; omega)] at hd
    have eu : pneg (nin f (pneg v)) = u := Option.some.inj h
    have ed : pneg (nout f (pneg v)) = d := Option.some.inj hd
    rw [← eu, ← ed]
    have hz : ¬ InF f (pneg v) := fun y => hv (by
      have := has_neg (has_of_le ok y (by show 0 ≤ -v.1; omega) (by omega))
      rw [pneg_pneg] at this
      exact this)
    have g := gap_out ok (num_neg hn) (by show 0 < -v.1; omega) hz
    rw [sp_neg] at g
    unfold stepF
    obtain ⟨E, l1, l2, l3, l0⟩ := low3 (nout f (pneg v)) (nin f (pneg v)) (1, sp f v)
    have l3 : E ≤ ((1, sp f v) : Int × Int).2 := l3
    rw [ord_at l1 (le_add l2 l3 l0), at_add l2 l3] at g
    rw [ord_at (a := pneg (nin f (pneg v))) l2 (le_add (a := pneg (nout f (pneg v))) l1 l3 l0), at_add (a := pneg (nout f (pneg v))) l1 l3, at_neg, at_neg]
    omega
  · rw [if_neg (by omega)] at h
    rw [if_pos (by show -v.1 < 0; omega)] at hd
    have eu : nout f v = u := Option.some.inj h
    have ed : pneg (pneg (nin f (pneg (pneg v)))) = d := Option.some.inj hd
    rw [pneg_pneg, pneg_pneg] at ed
    rw [← eu, ← ed]
    have hz : ¬ InF f v := fun y => hv (has_of_le ok y (by omega) (by omega))
    exact gap_out ok hn z hz
/-! ### places in the row -/
def rk (f : Fm) (n : Int × Int) : Int := at_ n (sp f n) + (sp f n - f.l) * 2 ^ (f.b - 1).toNat
theorem sp_ge (n : Int × Int) : f.l ≤ sp f n := by
  unfold sp pw
  split <;> omega
theorem at_zero (p : Int) : at_ (0, 0) p = 0 := Int.zero_mul _
theorem sp_zero : sp f (0, 0) = f.l := rfl
theorem rk_zero : rk f (0, 0) = 0 := by
  unfold rk
  rw [at_zero, sp_zero, Int.sub_self, Int.zero_mul]
  rfl
/-- within a form a number is less than 2 ** bits steps -/
theorem at_sp_lt (ok : f.Ok) {n : Int × Int} (h : InF f n) (h0 : 0 ≤ n.1) : 0 ≤ at_ n (sp f n) ∧ at_ n (sp f n) < 2 ^ f.b.toNat := by
  have b1 := ok.b1
  refine ⟨at_nonneg h0, ?_⟩
  rcases sp_le h with w | w
  · have e : at_ n (sp f n) = 0 := by
      unfold at_
      rw [w, Int.zero_mul]
    rw [e]
    exact pow_pos2 _
  · by_cases z : n.1 = 0
    · have e : at_ n (sp f n) = 0 := by
        unfold at_
        rw [z, Int.zero_mul]
      rw [e]
      exact pow_pos2 _
    · have hi := size_hi (show 0 < n.1 by omega) w
      refine Int.lt_of_lt_of_le hi (pow_mono ?_)
      unfold sp pw at *
      rw [if_neg z] at *
      omega
theorem nout_at {n : Int × Int} (h : InF f n) : nout f n = nrm (at_ n (sp f n) + 1) (sp f n) := by
  unfold nout
  rcases sp_le h with w | w
  · have e1 : at_ n (sp f n) = 0 := by
      unfold at_
      rw [w, Int.zero_mul]
    have e2 : fl n (sp f n) = 0 := by
      unfold fl
      rw [w]
      split
      · exact Int.zero_mul _
      · exact Int.zero_ediv _
    rw [e1, e2]
  · rw [(exact_at h.1 w).2.1]
theorem rk_next (ok : f.Ok) {n : Int × Int} (h : InF f n) (h0 : 0 ≤ n.1) : rk f (nout f n) = rk f n + 1 := by
  have b1 := ok.b1
  obtain ⟨N0, N1⟩ := at_sp_lt ok h h0
  have e := nout_at h
  have hp := sp_ge (f := f) n
  obtain ⟨N, hN⟩ : ∃ N, N = at_ n (sp f n) := ⟨_, rfl⟩
  rw [← hN] at e N0 N1
  have m0 : (nout f n).1 ≠ 0 := by
    rw [e]
    have := nrm_pp (e := sp f n) (show 0 < N + 1 by omega)
    omega
  have mp : 0 < (nout f n).1 := by
    rw [e]
    exact nrm_pp (show 0 < N + 1 by omega)
  have ep : sp f n ≤ (nout f n).2 := by
    rw [e]
    unfold nrm
    rw [if_neg (by omega)]
    show sp f n ≤ sp f n + (v2 (N + 1) : Int)
    omega
  have ea : at_ (nout f n) (sp f n) = N + 1 := by rw [e, at_same]
  have sm : n.1 ≠ 0 → psize n ≤ psize (nout f n) := fun z => (size_mono (by omega) (by have := nout_gt (f := f) n; omega)).2
  by_cases y : N + 1 < 2 ^ f.b.toNat
  · have es : sp f (nout f n) = sp f n := by
      have p2 := psize_le_exp m0
      have lo := size_lo mp ep (by omega)
      rw [ea] at lo
      have hk := pow_lt_inv (Int.lt_of_le_of_lt lo y)
      have hk2 : psize (nout f n) + 1 - f.b ≤ sp f n := by omega
      have e4 : sp f (nout f n) = pw f (psize (nout f n)) := by
        unfold sp
        rw [if_neg m0]
      have g1 : pw f (psize (nout f n)) ≤ sp f n := by
        unfold pw
        omega
      have g2 : sp f n ≤ pw f (psize (nout f n)) := by
        by_cases z : n.1 = 0
        · have e9 : sp f n = f.l := by
            unfold sp
            rw [if_pos z]
          rw [e9]
          unfold pw
          omega
        · have s9 := sm z
          have e9 : sp f n = pw f (psize n) := by
            unfold sp
            rw [if_neg z]
          rw [e9]
          unfold pw
          omega
      omega
    unfold rk
    rw [es, ea, ← hN]
    omega
  · have y2 : N + 1 = 2 ^ f.b.toNat := by omega
    have e5 : nout f n = (1, sp f n + f.b.toNat) := by
      rw [e, nrm_of (a := 0) (k := f.b.toNat) (sp f n) (by rw [y2]; omega)]
      rfl
    have e6 : sp f (nout f n) = sp f n + 1 := by
      rw [e5]
      unfold sp
      rw [if_neg (by show ¬ (1 : Int) = 0; decide)]
      have : psize (1, (if n.1 = 0 then f.l else pw f (psize n)) + (f.b.toNat : Int)) = (if n.1 = 0 then f.l else pw f (psize n)) + f.b := by
        rw [psize_bt]
        have : bt (1, (if n.1 = 0 then f.l else pw f (psize n)) + (f.b.toNat : Int)) = 1 := by
          show ((Builtin.Int.intBits 1 : Nat) : Int) = 1
          decide
        rw [this]
        show 1 - 1 + ((if n.1 = 0 then f.l else pw f (psize n)) + (f.b.toNat : Int)) = _
        omega
      rw [this]
      have hp2 : f.l ≤ (if n.1 = 0 then f.l else pw f (psize n)) := hp
      generalize (if n.1 = 0 then f.l else pw f (psize n)) = p at *
      unfold pw
      omega
    unfold rk
    rw [e6, ← hN, e5]
    have e7 : at_ (1, sp f n + (f.b.toNat : Int)) (sp f n + 1) = 2 ^ (f.b - 1).toNat := by
      unfold at_
      rw [Int.one_mul]
      congr 1
      show (sp f n + (f.b.toNat : Int) - (sp f n + 1)).toNat = _
      omega
    have e8 : (2 : Int) ^ f.b.toNat = 2 ^ (f.b - 1).toNat * 2 := by
      rw [← Int.pow_succ]
      congr 1
      omega
    rw [e7, show sp f n + 1 - f.l = (sp f n - f.l) + 1 by omega, Int.add_mul, Int.one_mul]
    omega
theorem nout_nin (ok : f.Ok) {z : Int × Int} (h : InF f z) (h0 : 0 < z.1) : nout f (nin f z) = z := by
  have w0 := nin_nn (f := f) h0
  have lt := nin_lt (f := f) z
  have a := nout_least w0 h lt
  refine pord_anti (nout_in ok w0).1 h.1 a ?_
  refine Decidable.byContradiction fun y => ?_
  have := nin_great ok h.1 h0 (nout_in ok w0) (lt_of_not y)
  have g := nout_gt (f := f) (nin f z)
  rw [pord_swap] at g
  omega
theorem rk_prev (ok : f.Ok) {z : Int × Int} (h : InF f z) (h0 : 0 < z.1) : rk f (nin f z) = rk f z - 1 := by
  have e := rk_next ok (nin_in ok h.1 h0) (nin_nn (f := f) h0)
  rw [nout_nin ok h h0] at e
  omega
/-- the place in the row of all, nought's being 0 -/
def ix (f : Fm) (n : Int × Int) : Int := if n.1 < 0 then -rk f (pneg n) else rk f n
theorem ix_up (ok : f.Ok) {n u : Int × Int} (h : Has f n) (hu : aboveF f n = some u) : ix f u = ix f n + 1 := by
  unfold aboveF at hu
  by_cases h1 : 0 ≤ pord n (topF f)
  · rw [if_pos h1] at hu
    cases hu
  have h2 : ¬ pord n (pneg (topF f)) < 0 := fun z => not_of_lt z (top_min ok h)
  rw [if_neg h1, if_neg h2] at hu
  by_cases h3 : n.1 < 0
  · rw [if_pos h3] at hu
    have e : pneg (nin f (pneg n)) = u := Option.some.inj hu
    have z0 : 0 < (pneg n).1 := by show 0 < -n.1; omega
    have r := rk_prev ok (inF_neg h.1) z0
    have w0 := nin_nn (f := f) z0
    have e1 : ix f n = -rk f (pneg n) := if_pos h3
    rw [e1, ← e]
    rcases Int.lt_or_eq_of_le w0 with y | y
    · have : ix f (pneg (nin f (pneg n))) = -rk f (nin f (pneg n)) := by
        unfold ix
        rw [if_pos (by show -(nin f (pneg n)).1 < 0; omega), pneg_pneg]
      omega
    · have ez := num_zero (nin_in ok (num_neg h.1.1) z0).1 y.symm
      rw [ez] at r ⊢
      have : ix f (pneg (0, 0)) = 0 := by
        show ix f (-0, 0) = 0
        unfold ix
        rw [if_neg (by decide)]
        exact rk_zero
      rw [rk_zero] at r
      omega
  · rw [if_neg h3] at hu
    have e : nout f n = u := Option.some.inj hu
    have z0 : 0 ≤ n.1 := by omega
    have r := rk_next ok h.1 z0
    have e1 : ix f n = rk f n := if_neg h3
    have e2 : ix f (nout f n) = rk f (nout f n) := by
      unfold ix
      have : 0 < (nout f n).1 := by
        have := fl_nn z0 (sp f n)
        exact nrm_pp (show 0 < fl n (sp f n) + 1 by omega)
      rw [if_neg (by omega)]
    rw [e1, ← e, e2]
    exact r
theorem rk_top (ok : f.Ok) : rk f (topF f) = 2 ^ (pl f).toNat - 1 + (f.o - f.l - pl f) * 2 ^ (f.b - 1).toNat := by
  have t := top_pos ok
  have e : sp f (topF f) = f.o - pl f := by
    unfold sp
    rw [if_neg (by omega), top_size ok]
    unfold pw pl
    have := ok.b1
    have := ok.o1
    omega
  unfold rk
  rw [e, topF_eq ok]
  have e2 : at_ (2 ^ (pl f).toNat - 1, f.o - pl f) (f.o - pl f) = 2 ^ (pl f).toNat - 1 := by
    unfold at_
    rw [show ((2 ^ (pl f).toNat - 1, f.o - pl f) : Int × Int).2 - (f.o - pl f) = 0 by show f.o - pl f - (f.o - pl f) = 0; omega]
    show (2 ^ (pl f).toNat - 1) * (2 : Int) ^ 0 = _
    rw [Int.pow_zero, Int.mul_one]
  rw [e2, show f.o - pl f - f.l = f.o - f.l - pl f by omega]
theorem rk_small (ok : f.Ok) (hb : f.b ≤ 5) (ho : f.o ≤ f.l + 8) {n : Int × Int} (h : Has f n) (h0 : 0 ≤ n.1) : 0 ≤ rk f n ∧ rk f n ≤ 200 := by
  have b1 := ok.b1
  obtain ⟨N0, N1⟩ := at_sp_lt ok h.1 h0
  have c1 : (2 : Int) ^ f.b.toNat ≤ 2 ^ 5 := pow_mono (by omega)
  have c2 : (2 : Int) ^ (f.b - 1).toNat ≤ 2 ^ 4 := pow_mono (by omega)
  have c3 : (2 : Int) ^ 5 = 32 := by decide
  have c4 : (2 : Int) ^ 4 = 16 := by decide
  have p0 := sp_ge (f := f) n
  have p1 : sp f n - f.l ≤ 8 := by
    unfold sp
    by_cases z : n.1 = 0
    · rw [if_pos z]
      omega
    · rw [if_neg z]
      rcases h.2 with w | w
      · exact absurd w z
      · unfold pw
        omega
  have P := pow_pos2 (f.b - 1).toNat
  unfold rk
  have d1 : 0 ≤ (sp f n - f.l) * 2 ^ (f.b - 1).toNat := Int.mul_nonneg (by omega) (by omega)
  have d2 : (sp f n - f.l) * 2 ^ (f.b - 1).toNat ≤ 8 * 16 := Int.mul_le_mul p1 (by omega) (by omega) (by decide)
  omega
theorem ix_small (ok : f.Ok) (hb : f.b ≤ 5) (ho : f.o ≤ f.l + 8) {n : Int × Int} (h : Has f n) : -200 ≤ ix f n ∧ ix f n ≤ 200 := by
  unfold ix
  by_cases z : n.1 < 0
  · rw [if_pos z]
    have := rk_small ok hb ho (has_neg h) (by show 0 ≤ -n.1; omega)
    omega
  · rw [if_neg z]
    have := rk_small ok hb ho h (by omega)
    omega
theorem ix_bottom (ok : f.Ok) : ix f (pneg (topF f)) = -rk f (topF f) := by
  unfold ix
  have t := top_pos ok
  rw [if_pos (by show -(topF f).1 < 0; omega), pneg_pneg]
theorem ix_top (ok : f.Ok) : ix f (topF f) = rk f (topF f) := by
  unfold ix
  have t := top_pos ok
  rw [if_neg (by omega)]
end Onc

namespace Onc
open PySem PySem.Spec PyProof.Rows L2 Evl
def topS (i : Nat) : Stmt := PySem.Challenge.pw_oncenear_k09_whole_forms_numbers_go_on.main.body.getD i (.Pass ⟨0, 0, 0, 0⟩)
structure Top (mg : Str → Option Value) : Prop where
  isinstance : mg "isinstance" = none
  len : mg "len" = none
  range : mg "range" = none
  ty_int : mg "int" = none
  ty_bool : mg "bool" = none
  ty_tuple : mg "tuple" = none
  ty_str : mg "str" = none
  min : mg "min" = none
  max : mg "max" = none
  abs : mg "abs" = none
  all : mg "all" = none
abbrev FnP (K : PySem.W.Frag) (x : Str) (st : Stmt) (f : Addr) (fd : FuncData) : Prop := FunD K x x (defArgs st) (defBody st) (defScope st) [] [] f fd
/-! ### promises -/
def spWhole (K : PySem.W.Frag) : Sp := fun vs H Q _ => ∃ v b, vs = [v] ∧ WholeIs K H v b ∧ Q (.bl b) H
def spNum (K : PySem.W.Frag) : Sp := fun vs H Q _ => ∃ v b, vs = [v] ∧ NumIs K H v b ∧ ∀ H', Ex H H' → Q (.bl b) H'
def spNof : Sp := fun vs H Q _ => ∃ m e : Int, vs = [.int m, .int e] ∧ ∀ H' p, Ex H H' → H p = none → H' p = some (.tup [.int (nrm m e).1, .int (nrm m e).2]) → Q (.ref p) H'
def spTens : Sp := fun vs H Q _ => ∃ k : Int, vs = [.int k] ∧ 0 ≤ k ∧ k ≤ 10000 ∧ ∀ z : Int, Q (.int z) H
def spMix : Sp := fun vs H Q _ => ∃ a k : Int, vs = [.int a, .int k] ∧ ∀ z : Int, Q (.int z) H
def spCel (K : PySem.W.Frag) : Sp := fun vs H Q _ => ∃ (a : Addr) (ns : List Int) (k : Int), vs = [.ref a, .int k] ∧ SqL K H a (ns.map V.int) ∧ 0 ≤ k ∧ k < 1000 ∧ ∀ z : Int, Q (.int z) H
def spTake : Sp := fun vs H Q _ => ∃ (p : Addr) (x n : Int), vs = [.ref p, .int n] ∧ H p = some (.lst [.int x]) ∧ 0 < n ∧ n.natAbs.log2 < 9000 ∧ Q (.int (x % n)) (upd H p (.lst [.int (x / n)]))
def spNumber : Sp := fun vs H Q _ => ∃ (p : Addr) (x : Int), vs = [.ref p] ∧ H p = some (.lst [.int x]) ∧
  ∀ H' q (x' m e : Int), (∀ b o, H b = some o → b ≠ p → H' b = some o) → H' p = some (.lst [.int x']) → H q = none → H' q = some (.tup [.int m, .int e]) → isNumB m e = true → m.natAbs < 2 ^ 201 → e.natAbs < 2000 → Q (.ref q) H'
theorem log_small {z : Int} {k : Nat} (h0 : 0 < z) (h : z ≤ 2 ^ k) (hk : k < 9000) : z.natAbs.log2 < 9000 := by
  have h1 : z.natAbs < 2 ^ (k + 1) := by
    have e : (2 : Int) ^ (k + 1) = 2 ^ k * 2 := Int.pow_succ ..
    have e2 : ((2 ^ (k + 1) : Nat) : Int) = 2 ^ (k + 1) := pow_two_cast _
    omega
  have h2 : z.natAbs.log2 < k + 1 := PySem.Flt.log2_lt_of (Nat.succ_pos k) h1
  omega
/-! ### evaluation beside a pile: all is kept but the pile p -/
def Pl (p : Addr) (H : Hp) : Prop := ∃ x : Int, H p = some (.lst [.int x])
def EvK (p : Addr) (P : Hp → V → Prop) (te : TE) (σ : L2.St) (H : Hp) : Prop := ∀ H1, Keeps p H H1 → Pl p H1 → ∀ Q : VK, (∀ v H2, Keeps p H1 H2 → Pl p H2 → P H2 v → Q v H2) → te σ H1 Q
abbrev EvI (p : Addr) (S : Int → Prop) (te : TE) (σ : L2.St) (H : Hp) : Prop := EvK p (fun _ v => ∃ z, v = .int z ∧ S z) te σ H
section
variable {K : PySem.W.Frag} {p : Addr} {σ : L2.St} {H H' : Hp} {ta tb te : TE} {S T U : Int → Prop}
theorem Keeps.refl (p : Addr) (H : Hp) : Keeps p H H := fun _ _ h _ => h
theorem EvK.mono {P : Hp → V → Prop} (h : EvK p P te σ H) (k : Keeps p H H') : EvK p P te σ H' := fun H1 k1 l Q q => h H1 (k.trans k1) l Q q
theorem EvK.imp {P P' : Hp → V → Prop} (h : EvK p P te σ H) (i : ∀ H v, P H v → P' H v) : EvK p P' te σ H := fun H1 k l Q q => h H1 k l Q fun v H2 k2 l2 hv => q v H2 k2 l2 (i H2 v hv)
theorem evi_imp (h : EvI p S te σ H) (i : ∀ z, S z → T z) : EvI p T te σ H := h.imp fun _ _ ⟨z, e, s⟩ => ⟨z, e, i z s⟩
theorem evi_c {z : Int} (h : S z) : EvI p S (tC (.int z)) σ H := fun H1 k l Q q => q (.int z) H1 (Keeps.refl p H1) l ⟨z, rfl, h⟩
theorem evi_var {i : Nat} {z : Int} (hi : σ[i]? = some (some (.int z))) (h : S z) : EvI p S (tVar i) σ H := fun H1 k l Q q => ⟨.int z, hi, q (.int z) H1 (Keeps.refl p H1) l ⟨z, rfl, h⟩⟩
theorem evi_op {g : Int → Int → Int} (ha : EvI p S ta σ H) (hb : EvI p T tb σ H) (h : ∀ a b, S a → T b → U (g a b)) : EvI p U (tOp (rI0 fun i j => .int (g i j)) ta tb) σ H := fun H1 k l Q q =>
  ha H1 k l _ fun v H2 k2 l2 ⟨a, e, sa⟩ => hb H2 (k.trans k2) l2 _ fun w H3 k3 l3 ⟨b, e2, sb⟩ => by
    subst e e2
    exact ⟨a, b, rfl, rfl, q _ H3 (k2.trans k3) l3 ⟨_, rfl, h a b sa sb⟩⟩
theorem evi_opC {C : Int → Int → Prop} {g : Int → Int → Int} (ha : EvI p S ta σ H) (hb : EvI p T tb σ H) (hc : ∀ a b, S a → T b → C a b) (h : ∀ a b, S a → T b → U (g a b)) : EvI p U (tOp (rI C fun i j => .int (g i j)) ta tb) σ H := fun H1 k l Q q =>
  ha H1 k l _ fun v H2 k2 l2 ⟨a, e, sa⟩ => hb H2 (k.trans k2) l2 _ fun w H3 k3 l3 ⟨b, e2, sb⟩ => by
    subst e e2
    exact ⟨a, b, rfl, rfl, hc a b sa sb, q _ H3 (k2.trans k3) l3 ⟨_, rfl, h a b sa sb⟩⟩
theorem pl_upd {x : Int} : Pl p (upd H p (.lst [.int x])) := ⟨x, upd_same⟩
theorem pl_new {q : Addr} {o : HO} (l : Pl p H) (hq : H q = none) : Pl p (upd H q o) := by
  obtain ⟨x, h⟩ := l
  exact ⟨x, by rw [upd_ne (ne_of_none h hq)]; exact h⟩
theorem pl_ex (l : Pl p H) (e : Ex H H') : Pl p H' := by
  obtain ⟨x, h⟩ := l
  exact ⟨x, e _ _ h⟩
theorem evi_take {i : Nat} {N : Int → Prop} (hi : σ[i]? = some (some (.ref p))) (hn : EvI p N te σ H) (h : ∀ n, N n → 0 < n ∧ n.natAbs.log2 < 9000) (hT : ∀ n z, N n → 0 ≤ z → z < n → T z) : EvI p T (tCall spTake [] E0 (tCons (tVar i) (tCons te tNil))) σ H := fun H1 k l Q q =>
  ⟨.ref p, hi, hn H1 k l _ fun v H2 k2 l2 ⟨n, e, sn⟩ => by
    subst e
    obtain ⟨x, hx⟩ := l2
    obtain ⟨h0, h1⟩ := h n sn
    exact ⟨p, x, n, rfl, hx, h0, h1, q _ _ (k2.trans keeps_upd) pl_upd ⟨_, rfl, hT n _ sn (Int.emod_nonneg _ (by omega)) (Int.emod_lt_of_pos _ h0)⟩⟩⟩
/-- several, each of its own set -/
def All2 : List (Int → Prop) → List Int → Prop
  | [], [] => True
  | S :: Ss, z :: zs => S z ∧ All2 Ss zs
  | _, _ => False
theorem all2_len : ∀ {Ss : List (Int → Prop)} {zs : List Int}, All2 Ss zs → zs.length = Ss.length
  | [], [], _ => rfl
  | _ :: _, _ :: _, h => congrArg Nat.succ (all2_len h.2)
theorem all2_app : ∀ {Ss Ts : List (Int → Prop)} {zs ys : List Int}, All2 Ss zs → All2 Ts ys → All2 (Ss ++ Ts) (zs ++ ys)
  | [], _, [], _, _, h => h
  | _ :: _, _, _ :: _, _, h1, h => ⟨h1.1, all2_app h1.2 h⟩
theorem all2_at : ∀ {Ss : List (Int → Prop)} {zs : List Int}, All2 Ss zs → ∀ {i : Nat} {S : Int → Prop}, Ss[i]? = some S → ∃ z, (zs.map V.int)[i]? = some (.int z) ∧ S z
  | [], [], _, i, S, h => by simp at h
  | T :: _, z :: _, g, 0, S, h => by
    have e : T = S := Option.some.inj h
    subst e
    exact ⟨z, rfl, g.1⟩
  | _ :: _, _ :: _, g, i + 1, S, h => all2_at g.2 (i := i) h
def EvIs (p : Addr) (Ss : List (Int → Prop)) (ta : TA) (σ : L2.St) (H : Hp) : Prop := ∀ H1, Keeps p H H1 → Pl p H1 → ∀ Q : List V → Hp → Prop, (∀ zs H2, Keeps p H1 H2 → Pl p H2 → All2 Ss zs → Q (zs.map V.int) H2) → ta σ H1 Q
theorem evis_nil : EvIs p [] tNil σ H := fun H1 k l Q q => q [] H1 (Keeps.refl p H1) l trivial
theorem evis_cons {tr : TA} {Ss : List (Int → Prop)} (h : EvI p S ta σ H) (hr : EvIs p Ss tr σ H) : EvIs p (S :: Ss) (tCons ta tr) σ H := fun H1 k l Q q =>
  h H1 k l _ fun v H2 k2 l2 ⟨z, e, s⟩ => hr H2 (k.trans k2) l2 _ fun zs H3 k3 l3 hz => by
    subst e
    exact q (z :: zs) H3 (k2.trans k3) l3 ⟨s, hz⟩
/-- a list of ints, elsewhere than the pile -/
def LiAt (p : Addr) (Ss : List (Int → Prop)) (H : Hp) (v : V) : Prop := ∃ l zs, v = .ref l ∧ l ≠ p ∧ H l = some (.lst (zs.map V.int)) ∧ All2 Ss zs
theorem li_keep {Ss : List (Int → Prop)} {v : V} (h : LiAt p Ss H v) (k : Keeps p H H') : LiAt p Ss H' v := by
  obtain ⟨l, zs, e, ne, hl, ha⟩ := h
  exact ⟨l, zs, e, ne, k _ _ hl ne, ha⟩
theorem keeps_new {q : Addr} {o : HO} (hq : H q = none) : Keeps p H (upd H q o) := keeps_ex (Ex.new hq)
theorem evk_lst {tr : TA} {Ss : List (Int → Prop)} (h : EvIs p Ss tr σ H) (hl : Ss.length ≤ 1000 := by decide) : EvK p (LiAt p Ss) (tLst tr) σ H := fun H1 k l Q q =>
  h H1 k l _ fun zs H2 k2 l2 hz => ⟨sz_of (by rw [List.length_map, all2_len hz]; omega), fun r hr => q (.ref r) _ (k2.trans (keeps_new hr)) (pl_new l2 hr) ⟨r, zs, rfl, (fun e => by obtain ⟨x, hx⟩ := l2; rw [e, hx] at hr; cases hr), upd_same, hz⟩⟩
theorem evk_var {P : Hp → V → Prop} {i : Nat} {v : V} (hi : σ[i]? = some (some v)) (h : ∀ H1, Keeps p H H1 → Pl p H1 → P H1 v) : EvK p P (tVar i) σ H := fun H1 k l Q q => ⟨v, hi, q v H1 (Keeps.refl p H1) l (h H1 k l)⟩
theorem evk_cat {Ss Ts : List (Int → Prop)} (ha : EvK p (LiAt p Ss) ta σ H) (hb : EvK p (LiAt p Ts) tb σ H) (hl : Ss.length + Ts.length ≤ 1000 := by decide) : EvK p (LiAt p (Ss ++ Ts)) (tOp rCat ta tb) σ H := fun H1 k l Q q =>
  ha H1 k l _ fun v H2 k2 l2 hv => hb H2 (k.trans k2) l2 _ fun w H3 k3 l3 hw => by
    obtain ⟨a, zs, rfl, na, hza, aa⟩ := li_keep hv k3
    obtain ⟨b, ys, rfl, nb, hyb, ab⟩ := hw
    refine ⟨a, b, _, _, rfl, rfl, hza, hyb, sz_of (by rw [List.length_map, List.length_map, all2_len aa, all2_len ab]; omega), fun r hr => q (.ref r) _ ((k2.trans k3).trans (keeps_new hr)) (pl_new l3 hr) ⟨r, zs ++ ys, rfl, (fun e => by obtain ⟨x, hx⟩ := l3; rw [e, hx] at hr; cases hr), by rw [List.map_append]; exact upd_same, all2_app aa ab⟩⟩
/-- an item of a list of ints, by an int that is known to be one of a set -/
theorem evi_ix {Ss : List (Int → Prop)} {W : Int → Prop} (ha : EvK p (LiAt p Ss) ta σ H) (hb : EvI p W tb σ H) (h : ∀ w, W w → 0 ≤ w ∧ ∃ R, Ss[w.toNat]? = some R ∧ ∀ z, R z → U z) : EvI p U (tOp (rIxL K) ta tb) σ H := fun H1 k l Q q =>
  ha H1 k l _ fun v H2 k2 l2 hv => hb H2 (k.trans k2) l2 _ fun w H3 k3 l3 ⟨i, e, hi⟩ => by
    subst e
    obtain ⟨a, zs, rfl, na, hza, aa⟩ := li_keep hv k3
    obtain ⟨i0, R, hR, hU⟩ := h i hi
    obtain ⟨z, hz, sz⟩ := all2_at aa hR
    obtain ⟨j, rfl⟩ : ∃ j : Nat, i = (j : Int) := ⟨i.toNat, by omega⟩
    rw [Int.toNat_natCast] at hz
    exact ⟨a, _, _, _, rfl, rfl, sq_of hza, atI_nat hz, q _ H3 (k2.trans k3) l3 ⟨z, rfl, hU z sz⟩⟩
theorem k_asg {P : Hp → V → Prop} {i : Nat} {tz : TS} {D : Ends} (h : EvK p P te σ H) (l : Pl p H) (k : ∀ v H1, Keeps p H H1 → Pl p H1 → P H1 v → tz D (σ.set i (some v)) H1) : tSeq (tAsg te (gName i)) tz D σ H := h H (Keeps.refl p H) l _ fun v H2 k2 l2 hv => k v H2 k2 l2 hv
theorem k_asg1 {P : Hp → V → Prop} {i : Nat} {D : Ends} (h : EvK p P te σ H) (l : Pl p H) (k : ∀ v H1, Keeps p H H1 → Pl p H1 → P H1 v → D.nx (σ.set i (some v)) H1) : tAsg te (gName i) D σ H := h H (Keeps.refl p H) l _ fun v H2 k2 l2 hv => k v H2 k2 l2 hv
theorem k_ret {P : Hp → V → Prop} {D : Ends} (h : EvK p P te σ H) (l : Pl p H) (k : ∀ v H1, Keeps p H H1 → Pl p H1 → P H1 v → D.rt v H1) : tRet te D σ H := h H (Keeps.refl p H) l _ fun v H2 k2 l2 hv => k v H2 k2 l2 hv
theorem k_asgL {tr : TA} {Ss : List (Int → Prop)} {i : Nat} {tz : TS} {D : Ends} (h : EvIs p Ss tr σ H) (l : Pl p H) (hl : Ss.length ≤ 1000) (k : ∀ r zs H1, Keeps p H H1 → Pl p H1 → H r = none → r ≠ p → H1 r = some (.lst (zs.map V.int)) → All2 Ss zs → tz D (σ.set i (some (.ref r))) H1) : tSeq (tAsg (tLst tr) (gName i)) tz D σ H :=
  h H (Keeps.refl p H) l _ fun zs H2 k2 l2 hz => ⟨sz_of (by rw [List.length_map, all2_len hz]; omega), fun r hr => by
    have rp : r ≠ p := fun e => by
      obtain ⟨x, hx⟩ := l2
      rw [e, hx] at hr
      cases hr
    refine k r zs _ (k2.trans (keeps_new hr)) (pl_new l2 hr) ?_ rp upd_same hz
    cases hH : H r with
    | none => rfl
    | some o =>
      rw [k2 _ _ hH rp] at hr
      cases hr⟩
theorem fresh_keep {r : Addr} (k : Keeps p H H') (hr : H' r = none) (rp : r ≠ p) : H r = none := by
  cases hH : H r with
  | none => rfl
  | some o =>
    rw [k _ _ hH rp] at hr
    cases hr
theorem keeps_mut {r : Addr} {o : HO} (k : Keeps p H H') (hr : H r = none) : Keeps p H (upd H' r o) := fun b u hb hbp => by
  rw [upd_ne (ne_of_none hb hr)]
  exact k b u hb hbp
/-- a number made of two ints -/
theorem evk_nof {R : Int → Int → Prop} {B : Nat} (ha : EvI p S ta σ H) (hb : EvI p T tb σ H) (h : ∀ a b, S a → T b → R a b ∧ Bd (nrm a b) B) : EvK p (fun H v => ∃ a b, R a b ∧ Gn K H v (nrm a b) B) (tCall spNof [] E0 (tCons ta (tCons tb tNil))) σ H := fun H1 k l Q q =>
  ha H1 k l _ fun v H2 k2 l2 ⟨a, e, sa⟩ => hb H2 (k.trans k2) l2 _ fun w H3 k3 l3 ⟨b, e2, sb⟩ => by
    subst e e2
    obtain ⟨h1, h2⟩ := h a b sa sb
    exact ⟨a, b, rfl, fun H4 r e4 _ hr => q (.ref r) H4 ((k2.trans k3).trans (keeps_ex e4)) (pl_ex l3 e4) ⟨a, b, h1, numAt_of hr, nrm_num a b, h2⟩⟩
end
/-! ### a number, or None -/
def OptAt (K : PySem.W.Frag) (H : Hp) (v : V) : Option (Int × Int) → Prop
  | none => v = .non
  | some n => NumAt K H v n
theorem optAt_ex {K : PySem.W.Frag} {H H' : Hp} {v : V} {o : Option (Int × Int)} (e : Ex H H') (h : OptAt K H v o) : OptAt K H' v o := by
  cases o with
  | none => exact h
  | some n => exact numAt_ex e h
def optD : Option (Int × Int) → PyData
  | none => .none
  | some n => pairD n
theorem optAt_dp {K : PySem.W.Frag} {H : Hp} {v : V} {o : Option (Int × Int)} (h : OptAt K H v o) : Dp K H v (optD o) := by
  cases o with
  | none =>
    rw [show v = .non from h]
    exact .non
  | some n => exact numAt_dp h
theorem opt_shaped (o : Option (Int × Int)) : SeqAt.shaped (optD o) = true := by
  cases o <;> rfl
theorem opt_lay (o : Option (Int × Int)) : PyData.canLay0 (optD o) = true := by
  cases o <;> rfl
/-! ### the class Form -/
structure FormC (K : PySem.W.Frag) (mg : Str → Option Value) (C : Addr) : Prop where
  m : mg "Form" = some (.ref C)
  cl : Cls K C
  nb : NoAttr K C "bits"
  nl : NoAttr K C "least"
  no : NoAttr K C "most"
  ha : PySem.W.findIn K (.ref C) "__class__" = some (some (.builtin "object.__class__"))
  hn : PySem.W.specialIn K (.builtin "object.__class__") "__get__" = some (some (.builtin "getset_descriptor.__get__"))
  htk : PySem.W.takesIn K (.builtin "object.__class__") = some true
  hm : PySem.W.mroIn K C (.type "object") = some true
def FmAt (K : PySem.W.Frag) (C : Addr) (f : Fm) (H : Hp) (v : V) : Prop := ∃ x dx, v = .ref x ∧ H x = some (.ins C dx [("bits", .int f.b), ("least", .int f.l), ("most", .int f.o)]) ∧ f.Ok
section
variable {K : PySem.W.Frag} {mg : Str → Option Value} {C : Addr} {σ : L2.St} {H H' : Hp} {ta tb te : TE} {f : Fm}
theorem fm_mono : Mono (FmAt K C f) := fun _ _ _ e ⟨x, dx, e1, h, ok⟩ => ⟨x, dx, e1, e _ _ h, ok⟩
theorem fm_ok {v : V} (h : FmAt K C f H v) : f.Ok := by
  obtain ⟨_, _, _, _, ok⟩ := h
  exact ok
theorem fm_keep {p : Addr} {v : V} (h : FmAt K C f H v) (l : Pl p H) (k : Keeps p H H') : FmAt K C f H' v := by
  obtain ⟨q, hq⟩ := l
  obtain ⟨x, dx, rfl, hx, ok⟩ := h
  exact ⟨x, dx, rfl, k _ _ hx (fun z => by rw [z, hq] at hx; cases hx), ok⟩
theorem evf_var {i : Nat} {v : V} (hv : σ[i]? = some (some v)) (h : FmAt K C f H v) : EvP (FmAt K C f) (tVar i) σ H := evp_of (ev_var hv) fm_mono h
theorem ev_bits (S : FormC K mg C) (h : EvP (FmAt K C f) ta σ H) : Ev (tFld K ta "bits") σ H (.int f.b) := fun H1 e Q q =>
  h H1 e _ fun v H2 e2 ⟨x, dx, e1, hx, _⟩ => ⟨x, C, dx, _, _, e1, hx, S.cl, S.nb, rfl, q H2 e2⟩
theorem ev_least (S : FormC K mg C) (h : EvP (FmAt K C f) ta σ H) : Ev (tFld K ta "least") σ H (.int f.l) := fun H1 e Q q =>
  h H1 e _ fun v H2 e2 ⟨x, dx, e1, hx, _⟩ => ⟨x, C, dx, _, _, e1, hx, S.cl, S.nl, by rfl, q H2 e2⟩
theorem ev_most (S : FormC K mg C) (h : EvP (FmAt K C f) ta σ H) : Ev (tFld K ta "most") σ H (.int f.o) := fun H1 e Q q =>
  h H1 e _ fun v H2 e2 ⟨x, dx, e1, hx, _⟩ => ⟨x, C, dx, _, _, e1, hx, S.cl, S.no, by rfl, q H2 e2⟩
theorem ev_mx {i j : Int} (ha : Ev ta σ H (.int i)) (hb : Ev tb σ H (.int j)) : Ev (tCB (fun xs H Q => ∃ i j, xs = [.int i, .int j] ∧ Q (.int (if j > i then j else i)) H) (tCons ta (tCons tb tNil))) σ H (.int (max i j)) := fun H1 e Q q =>
  ha H1 e _ fun H2 e2 => hb H2 (e.trans e2) _ fun H3 e3 => ⟨i, j, rfl, by
    have : (if j > i then j else i) = max i j := by split <;> omega
    rw [this]
    exact q H3 (e2.trans e3)⟩
theorem ev_mn {i j : Int} (ha : Ev ta σ H (.int i)) (hb : Ev tb σ H (.int j)) : Ev (tCB (fun xs H Q => ∃ i j, xs = [.int i, .int j] ∧ Q (.int (if j < i then j else i)) H) (tCons ta (tCons tb tNil))) σ H (.int (min i j)) := fun H1 e Q q =>
  ha H1 e _ fun H2 e2 => hb H2 (e.trans e2) _ fun H3 e3 => ⟨i, j, rfl, by
    have : (if j < i then j else i) = min i j := by split <;> omega
    rw [this]
    exact q H3 (e2.trans e3)⟩
theorem has_bd (ok : f.Ok) {n : Int × Int} (h : Has f n) : Bd n 500 := by
  have a1 := ok.b2
  have a2 := ok.l1
  have a3 := ok.o2
  by_cases z : n.1 = 0
  · rw [num_zero h.1.1 z]
    exact ⟨by decide +kernel, by decide⟩
  · rcases h.1.2 with w | w
    · exact absurd w z
    rcases h.2 with y | y
    · exact absurd y z
    have p := psize_le_exp z
    refine ⟨Nat.lt_of_lt_of_le (bt_lt n) (Nat.pow_le_pow_right (by decide) (by omega)), by omega⟩
def spFInit (C : Addr) : Sp := fun vs H Q _ => ∃ x dx, ∃ f : Fm, vs = [.ref x, .int f.b, .int f.l, .int f.o] ∧ H x = some (.ins C dx []) ∧ f.Ok ∧ ∀ H', (∀ c o, H c = some o → c ≠ x → H' c = some o) → H' x = some (.ins C dx [("bits", .int f.b), ("least", .int f.l), ("most", .int f.o)]) → Q .non H'
def spSP (K : PySem.W.Frag) (C : Addr) : Sp := fun vs H Q _ => ∃ v s, ∃ f : Fm, vs = [v, .int s] ∧ FmAt K C f H v ∧ ∀ H', Ex H H' → Q (.int (pw f s)) H'
def spSPO (K : PySem.W.Frag) (C : Addr) : Sp := fun vs H Q _ => ∃ v u n, ∃ f : Fm, vs = [v, u] ∧ FmAt K C f H v ∧ NumAt K H u n ∧ ∀ H', Ex H H' → Q (.int (sp f n)) H'
def spNext (K : PySem.W.Frag) (C : Addr) (g : Fm → Int × Int → Int × Int) : Sp := fun vs H Q _ => ∃ v u n, ∃ f : Fm, vs = [v, u] ∧ FmAt K C f H v ∧ NumAt K H u n ∧ Bd n 3000 ∧ ∀ H' z, Ex H H' → NumAt K H' z (g f n) → Q z H'
def spBM (K : PySem.W.Frag) (C : Addr) : Sp := fun vs H Q _ => ∃ v u n, ∃ f : Fm, vs = [v, u] ∧ FmAt K C f H v ∧ NumAt K H u n ∧ ∀ H', Ex H H' → Q (.bl (decide (n.1 = 0) || decide (psize n < f.o))) H'
def spHas (K : PySem.W.Frag) (C : Addr) : Sp := fun vs H Q _ => ∃ v u n, ∃ f : Fm, vs = [v, u] ∧ FmAt K C f H v ∧ Gn K H u n 3000 ∧ ∀ (c : Bool) H', Ex H H' → (c = true ↔ Has f n) → Q (.bl c) H'
def spOptF (K : PySem.W.Frag) (C : Addr) (g : Fm → Int × Int → Option (Int × Int)) : Sp := fun vs H Q _ => ∃ v u n, ∃ f : Fm, vs = [v, u] ∧ FmAt K C f H v ∧ Gn K H u n 3000 ∧ ∀ H' z, Ex H H' → OptAt K H' z (g f n) → Q z H'
def spTop (K : PySem.W.Frag) (C : Addr) : Sp := fun vs H Q _ => ∃ v, ∃ f : Fm, vs = [v] ∧ FmAt K C f H v ∧ ∀ H' z, Ex H H' → NumAt K H' z (topF f) → Q z H'
def spCnt (K : PySem.W.Frag) (C : Addr) : Sp := fun vs H Q _ => ∃ v, ∃ f : Fm, vs = [v] ∧ FmAt K C f H v ∧ ∀ H', Ex H H' → Q (.int (2 * rk f (topF f) + 1)) H'
def spStep (K : PySem.W.Frag) (C : Addr) : Sp := fun vs H Q _ => ∃ v u n, ∃ f : Fm, vs = [v, u] ∧ FmAt K C f H v ∧ Gn K H u n 3000 ∧ ∀ H' z, Ex H H' → NumAt K H' z (stepF f n) → Q z H'
theorem size_abs {n : Int × Int} (hb : Bd n 3000) : -6001 ≤ psize n ∧ psize n ≤ 6001 := by
  have h := hb.2
  have h2 : bt n ≤ ((3000 : Nat) : Int) := bt_le hb.1
  have h3 : 0 ≤ bt n := by unfold bt; omega
  rw [psize_bt]
  omega
theorem sin1_abs {n : Int × Int} (hb : Bd n 3000) : -6002 ≤ sin1 n ∧ sin1 n ≤ 6001 := by
  have := size_abs hb
  unfold sin1
  split <;> omega
theorem pw_abs {s : Int} (ok : f.Ok) (h : -6002 ≤ s ∧ s ≤ 6001) : (pw f s).natAbs ≤ 10000 := by
  have := ok.l1
  have := ok.l2
  have := ok.b1
  have := ok.b2
  unfold pw
  omega
theorem sp_abs {n : Int × Int} (ok : f.Ok) (hb : Bd n 3000) : (sp f n).natAbs ≤ 10000 := by
  have a1 := ok.l1
  have a2 := ok.l2
  have := size_abs hb
  unfold sp
  split
  · omega
  · exact pw_abs ok (by omega)
theorem evn_neg {n : Int × Int} {B : Nat} (h : EvN K ta σ H n B) : EvN K (tCall (spNeg K) [] E0 (tCons ta tNil)) σ H (pneg n) B := fun H1 e Q q =>
  h H1 e _ fun v H2 e2 g => ⟨v, n, rfl, g.at_, fun H3 p e3 _ hp => q (.ref p) H3 (e2.trans e3) ⟨numAt_of hp, num_neg g.nb, bd_neg g.bd⟩⟩
end
/-! ### forms by evaluation -/
instance {f : Fm} {n : Int × Int} : Decidable (Has f n) := by
  unfold Has InF
  infer_instance
abbrev EvO (K : PySem.W.Frag) (te : TE) (σ : L2.St) (H : Hp) (o : Option (Int × Int)) : Prop := EvP (fun H v => OptAt K H v o) te σ H
def spMin (K : PySem.W.Frag) : Sp := fun vs H Q _ => ∃ v n, vs = [v] ∧ Gn K H v n 3000 ∧ ∀ H' z, Ex H H' → NumAt K H' z (pneg n) → Q z H'
section
variable {K : PySem.W.Frag} {mg : Str → Option Value} {C : Addr} {σ : L2.St} {H H' : Hp} {ta tb te : TE} {f : Fm}
theorem opt_mono {o : Option (Int × Int)} : Mono (fun H v => OptAt K H v o) := fun _ _ _ e h => optAt_ex e h
theorem evo_of {n : Int × Int} {B : Nat} (h : EvN K te σ H n B) : EvO K te σ H (some n) := fun H1 e Q q => h H1 e Q fun v H2 e2 g => q v H2 e2 g.at_
theorem evo_var {i : Nat} {v : V} {o : Option (Int × Int)} (hv : σ[i]? = some (some v)) (h : OptAt K H v o) : EvO K (tVar i) σ H o := evp_of (ev_var hv) opt_mono h
theorem optD_eqv (a b : Option (Int × Int)) : PyData.eqv (optD a) (optD b) = decide (a = b) := by
  cases a with
  | none =>
    cases b with
    | none => rfl
    | some m => rfl
  | some n =>
    cases b with
    | none => rfl
    | some m =>
      show PyData.eqv (.tuple [.int n.1, .int n.2]) (.tuple [.int m.1, .int m.2]) = _
      rw [eqv_pairs, ← Bool.decide_and]
      exact decide_eq_decide.mpr ⟨fun z => congrArg some (Prod.ext z.1 z.2), fun z => by rw [Option.some.inj z]; exact ⟨rfl, rfl⟩⟩
theorem evo_ne {a b : Option (Int × Int)} (ha : EvO K ta σ H a) (hb : EvO K tb σ H b) : Ev (tOp (rNeD K) ta tb) σ H (.bl (!decide (a = b))) := fun H1 e Q q =>
  ha H1 e _ fun u H2 e2 gu => hb H2 (e.trans e2) _ fun v H3 e3 gv => by
    refine ⟨_, _, optAt_dp (optAt_ex e3 gu), optAt_dp gv, opt_shaped _, opt_shaped _, ?_⟩
    rw [optD_eqv]
    exact q H3 (e2.trans e3)
theorem evo_eq {a b : Option (Int × Int)} (ha : EvO K ta σ H a) (hb : EvO K tb σ H b) : Ev (tOp (rEqD K) ta tb) σ H (.bl (decide (a = b))) := fun H1 e Q q =>
  ha H1 e _ fun u H2 e2 gu => hb H2 (e.trans e2) _ fun v H3 e3 gv => by
    refine ⟨_, _, optAt_dp (optAt_ex e3 gu), optAt_dp gv, opt_shaped _, opt_shaped _, ?_⟩
    rw [optD_eqv]
    exact q H3 (e2.trans e3)
theorem evt_neO {a b : Option (Int × Int)} (ha : EvO K ta σ H a) (hb : EvO K tb σ H b) (h : a = b) : EvT (tTest (tOp (rNeD K) ta tb)) σ H false := by
  have := et_test (evo_ne ha hb)
  rw [decide_eq_true h] at this
  exact this
theorem evo_meth {m : Str} {g : Fm → Int × Int → Option (Int × Int)} {n : Int × Int} {B : Nat} (hm : ([("bits", .int f.b), ("least", .int f.l), ("most", .int f.o)] : List (Str × V)).lookup m = none) (h1 : EvP (FmAt K C f) ta σ H) (h2 : EvN K tb σ H n B) (l : B ≤ 3000) : EvO K (tMeth C m (spOptF K C g) [] E0 ta (tCons tb tNil)) σ H (g f n) := fun H1 e Q q =>
  h1 H1 e _ fun v H2 e2 hv => by
    obtain ⟨x, dx, rfl, hx, ok⟩ := id hv
    exact ⟨x, dx, _, rfl, hx, hm, h2 H2 (e.trans e2) _ fun u H3 e3 gu => ⟨.ref x, u, n, f, rfl, fm_mono _ _ _ e3 hv, gu.mono l, fun H4 z e4 hz => q z H4 ((e2.trans e3).trans e4) hz⟩⟩
theorem evn_top (h1 : EvP (FmAt K C f) ta σ H) : EvN K (tMeth C "top" (spTop K C) [] E0 ta tNil) σ H (topF f) 500 := fun H1 e Q q =>
  h1 H1 e _ fun v H2 e2 hv => by
    obtain ⟨x, dx, rfl, hx, ok⟩ := id hv
    exact ⟨x, dx, _, rfl, hx, rfl, .ref x, f, rfl, hv, fun H4 z e4 hz => q z H4 (e2.trans e4) ⟨hz, nrm_num _ _, has_bd ok (top_has ok)⟩⟩
theorem ev_count (h1 : EvP (FmAt K C f) ta σ H) : Ev (tMeth C "count" (spCnt K C) [] E0 ta tNil) σ H (.int (2 * rk f (topF f) + 1)) := fun H1 e Q q =>
  h1 H1 e _ fun v H2 e2 hv => by
    obtain ⟨x, dx, rfl, hx, ok⟩ := id hv
    exact ⟨x, dx, _, rfl, hx, rfl, .ref x, f, rfl, hv, fun H4 e4 => q H4 (e2.trans e4)⟩
theorem ev_has {n : Int × Int} {B : Nat} (h1 : EvP (FmAt K C f) ta σ H) (h2 : EvN K tb σ H n B) (l : B ≤ 3000) : Ev (tMeth C "has" (spHas K C) [] E0 ta (tCons tb tNil)) σ H (.bl (decide (Has f n))) := fun H1 e Q q =>
  h1 H1 e _ fun v H2 e2 hv => by
    obtain ⟨x, dx, rfl, hx, ok⟩ := id hv
    refine ⟨x, dx, _, rfl, hx, rfl, h2 H2 (e.trans e2) _ fun u H3 e3 gu => ⟨.ref x, u, n, f, rfl, fm_mono _ _ _ e3 hv, gu.mono l, fun c H4 e4 hc => ?_⟩⟩
    have hd : c = decide (Has f n) := by
      cases c with
      | true => exact (decide_eq_true (hc.mp rfl)).symm
      | false => exact (decide_eq_false (fun z => by cases hc.mpr z)).symm
    rw [hd]
    exact q H4 ((e2.trans e3).trans e4)
theorem step_gn {n : Int × Int} (ok : f.Ok) (hb : Bd n 3000) : isNumB (stepF f n).1 (stepF f n).2 = true ∧ Bd (stepF f n) 10000 :=
  ⟨rfl, by show (1 : Int).natAbs < 2 ^ 10000; exact Nat.one_lt_two_pow (by decide), sp_abs ok hb⟩
theorem evn_step {n : Int × Int} {B : Nat} (h1 : EvP (FmAt K C f) ta σ H) (h2 : EvN K tb σ H n B) (l : B ≤ 3000) : EvN K (tMeth C "step" (spStep K C) [] E0 ta (tCons tb tNil)) σ H (stepF f n) 10000 := fun H1 e Q q =>
  h1 H1 e _ fun v H2 e2 hv => by
    obtain ⟨x, dx, rfl, hx, ok⟩ := id hv
    exact ⟨x, dx, _, rfl, hx, rfl, h2 H2 (e.trans e2) _ fun u H3 e3 gu => ⟨.ref x, u, n, f, rfl, fm_mono _ _ _ e3 hv, gu.mono l, fun H4 z e4 hz => q z H4 ((e2.trans e3).trans e4) ⟨hz, (step_gn ok (gu.mono l).bd).1, (step_gn ok (gu.mono l).bd).2⟩⟩⟩
theorem evn_minus {n : Int × Int} {B : Nat} (h : EvN K te σ H n B) (l : B ≤ 3000) : EvN K (tCall (spMin K) [] E0 (tCons te tNil)) σ H (pneg n) B := fun H1 e Q q =>
  h H1 e _ fun v H2 e2 g => ⟨v, n, rfl, g.mono l, fun H3 z e3 hz => q z H3 (e2.trans e3) ⟨hz, num_neg g.nb, bd_neg g.bd⟩⟩
end
def wid (f : Fm) : Fm := ⟨f.b + 1, f.l, f.o⟩
theorem has_wid {f : Fm} {n : Int × Int} (h : Has f n) : Has (wid f) n := by
  refine ⟨⟨h.1.1, ?_⟩, h.2⟩
  rcases h.1.2 with z | z
  · exact .inl z
  · exact .inr ⟨by show bt n ≤ f.b + 1; have := z.1; omega, z.2⟩
theorem below_bottom {f : Fm} : belowF f (pneg (topF f)) = none := by
  unfold belowF
  rw [pneg_pneg]
  unfold aboveF
  rw [pord_self, if_pos (Int.le_refl 0)]
  rfl
theorem above_last {f : Fm} : aboveF f (topF f) = none := by
  unfold aboveF
  rw [pord_self, if_pos (Int.le_refl 0)]
theorem back_all {f : Fm} (ok : f.Ok) {n u : Int × Int} (hn : isNumB n.1 n.2 = true) (hv : ¬ Has f n) (ha : aboveF f n = some u) : belowF f u = belowF f n := by
  have U := above_up ok hn ha
  cases hb : belowF f n with
  | some d => exact below_eq ok U.has.1.1 (back_out hn hv U (below_dn ok hn hb))
  | none =>
    rcases below_top ok hn hb with z | z
    · rw [ha] at z
      rw [Option.some.inj z]
      exact below_bottom
    · exact absurd (z ▸ has_neg (top_has ok)) hv
theorem below_neg {f : Fm} {n u : Int × Int} (ha : aboveF f n = some u) : belowF f (pneg n) = some (pneg u) := by
  unfold belowF
  rw [pneg_pneg, ha]
  rfl
theorem above_neg {f : Fm} {n d : Int × Int} (hb : belowF f n = some d) : aboveF f (pneg n) = some (pneg d) := by
  unfold belowF at hb
  cases h : aboveF f (pneg n) with
  | none =>
    rw [h] at hb
    cases hb
  | some x =>
    rw [h] at hb
    have e : pneg x = d := Option.some.inj hb
    rw [← e, pneg_pneg]
theorem lt_one {a b : Int × Int} (h : pord a b < 0) : pord a b = -1 ∧ pord b a = 1 := by
  have := pord_range a b
  have := pord_swap a b
  omega
theorem mul_neg1 {n : Int × Int} (h : isNumB n.1 n.2 = true) : pmul n (-1, 0) = pneg n := by
  have h2 := nrm_self (num_neg h)
  have e : pmul n (-1, 0) = nrm (pneg n).1 (pneg n).2 := by
    unfold pmul pneg
    dsimp only
    rw [Int.mul_neg, Int.mul_one, Int.add_zero]
  rw [e, h2]
def spGoodF (K : PySem.W.Frag) (C : Addr) : Sp := fun vs H Q _ => ∃ v v2 u n, ∃ f : Fm, vs = [v, v2, u] ∧ FmAt K C f H v ∧ FmAt K C (wid f) H v2 ∧ Gn K H u n 3000 ∧ ∀ H', Ex H H' → Q (.bl true) H'
section
variable {K : PySem.W.Frag} {C p : Addr} {σ : L2.St} {H H' : Hp} {ta tb tc te : TE} {S T U : Int → Prop}
def FT (K : PySem.W.Frag) (p : Addr) (f : Fm) (H : Hp) (v : V) : Prop := ∃ r, v = .ref r ∧ r ≠ p ∧ H r = some (.tup [.int f.b, .int f.l, .int f.o])
theorem ft_keep {f : Fm} {v : V} (h : FT K p f H v) (k : Keeps p H H') : FT K p f H' v := by
  obtain ⟨r, e, ne, h⟩ := h
  exact ⟨r, e, ne, k _ _ h ne⟩
def spForm (K : PySem.W.Frag) : Sp := fun vs H Q _ => ∃ p : Addr, vs = [.ref p] ∧ Pl p H ∧ ∀ z (f : Fm) H', f.Ok → Keeps p H H' → Pl p H' → FT K p f H' z → Q z H'
theorem evi_min (ha : EvI p S ta σ H) (hb : EvI p T tb σ H) (h : ∀ a b, S a → T b → U (min a b)) : EvI p U (tCB (fun xs H Q => ∃ i j, xs = [.int i, .int j] ∧ Q (.int (if j < i then j else i)) H) (tCons ta (tCons tb tNil))) σ H := fun H1 k l Q q =>
  ha H1 k l _ fun v H2 k2 l2 ⟨a, e, sa⟩ => hb H2 (k.trans k2) l2 _ fun w H3 k3 l3 ⟨b, e2, sb⟩ => by
    subst e e2
    refine ⟨a, b, rfl, ?_⟩
    have : (if b < a then b else a) = min a b := by split <;> omega
    rw [this]
    exact q _ H3 (k2.trans k3) l3 ⟨_, rfl, h a b sa sb⟩
theorem evk_make (h1 : EvI p S ta σ H) (h2 : EvI p T tb σ H) (h3 : EvI p U tc σ H) (hok : ∀ b l o, S b → T l → U o → Fm.Ok ⟨b, l, o⟩) : EvK p (fun H v => ∃ b l o, S b ∧ T l ∧ U o ∧ FmAt K C ⟨b, l, o⟩ H v) (tMakeK C 1 2 (spFInit C) (fun vs zs => vs ++ zs) E0 (tCons ta tNil) (tCons tb (tCons tc tNil))) σ H := fun H1 k l Q q =>
  h1 H1 k l _ fun v1 H2 k2 l2 ⟨b, e1, sb⟩ => h2 H2 (k.trans k2) l2 _ fun v2 H3 k3 l3 ⟨z, e2, sl⟩ => h3 H3 ((k.trans k2).trans k3) l3 _ fun v3 H4 k4 l4 ⟨o, e3, so⟩ => by
    subst e1 e2 e3
    have ok := hok b z o sb sl so
    refine ⟨rfl, rfl, fun x dx hx hdx ne => ⟨x, dx, ⟨b, z, o⟩, rfl, upd_same, ok, fun H5 hk hx5 => ⟨rfl, ?_⟩⟩⟩
    have ex : Ex H4 H5 := fun a w ha => hk a w (by rw [upd_ne (ne_of_none ha hx), upd_ne (ne_of_none ha hdx)]; exact ha) (ne_of_none ha hx)
    exact q (.ref x) H5 (((k2.trans k3).trans k4).trans (keeps_ex ex)) (pl_ex l4 ex) ⟨b, z, o, sb, sl, so, x, dx, rfl, hx5, ok⟩
theorem evi_ft {i : Nat} {v : V} {f : Fm} {j w : Int} (hi : σ[i]? = some (some v)) (h : FT K p f H v) (hj : atI [V.int f.b, V.int f.l, V.int f.o] j = some (V.int w)) (hS : S w) : EvI p S (tOp (rIxT K) (tVar i) (tC (.int j))) σ H := fun H1 k l Q q => by
  obtain ⟨r, rfl, ne, hr⟩ := ft_keep h k
  exact ⟨.ref r, hi, r, _, j, .int w, rfl, rfl, st_of hr, hj, q _ H1 (Keeps.refl p H1) l ⟨w, rfl, hS⟩⟩
theorem et_notN {o : Option (Int × Int)} (h : EvO K te σ H o) : EvT (tTest (tOp (fun x y H Q => y = .non ∧ Q (.bl (!decide (x = .non))) H) te (tC .non))) σ H o.isSome := fun H1 e Q q =>
  h H1 e _ fun v H2 e2 hv => by
    refine ⟨rfl, _, rfl, ?_⟩
    cases o with
    | none =>
      rw [show v = .non from hv]
      exact q H2 e2
    | some n =>
      obtain ⟨b, rfl, _⟩ := hv
      exact q H2 e2
theorem gn_keepP {v : V} {n : Int × Int} {B : Nat} (g : Gn K H v n B) (l : Pl p H) (k : Keeps p H H') : Gn K H' v n B := by
  obtain ⟨x, hx⟩ := l
  exact gn_keep g hx k
end
/-- what is called by keywords alone -/
structure CalJ (P : Program) (w : World) (K : PySem.W.Frag) (mg : Str → Option Value) (base : Heap) (k : Nat) (ps : List Str) (sp : Sp) (f : Addr) (fd : FuncData) : Prop where
  ok : FnOk P w K mg base CX0 k f fd ps sp
abbrev s_is_whole : Stmt := topS 5
theorem sc_is_whole : FnScope ["thing"] ["thing"] (defScope s_is_whole) := ⟨rfl, rfl, rfl, by decide +kernel, rfl, by decide +kernel, by decide +kernel⟩
abbrev s_is_whole_within : Stmt := topS 6
theorem sc_is_whole_within : FnScope ["thing", "least", "most"] ["thing", "least", "most"] (defScope s_is_whole_within) := ⟨rfl, rfl, rfl, by decide +kernel, rfl, by decide +kernel, by decide +kernel⟩
abbrev s_is_number : Stmt := topS 9
theorem sc_is_number : FnScope ["thing", "m", "e"] ["thing"] (defScope s_is_number) := ⟨rfl, rfl, rfl, by decide +kernel, rfl, by decide +kernel, by decide +kernel⟩
abbrev s_need_number : Stmt := topS 10
theorem sc_need_number : FnScope ["thing"] ["thing"] (defScope s_need_number) := ⟨rfl, rfl, rfl, by decide +kernel, rfl, by decide +kernel, by decide +kernel⟩
abbrev s_need_numbers : Stmt := topS 11
theorem sc_need_numbers : FnScope ["one", "other"] ["one", "other"] (defScope s_need_numbers) := ⟨rfl, rfl, rfl, by decide +kernel, rfl, by decide +kernel, by decide +kernel⟩
abbrev s_lowered : Stmt := topS 15
theorem sc_lowered : FnScope ["m", "e", "noughts"] ["m", "e"] (defScope s_lowered) := ⟨rfl, rfl, rfl, by decide +kernel, rfl, by decide +kernel, by decide +kernel⟩
abbrev s_negated : Stmt := topS 16
theorem sc_negated : FnScope ["number"] ["number"] (defScope s_negated) := ⟨rfl, rfl, rfl, by decide +kernel, rfl, by decide +kernel, by decide +kernel⟩
abbrev s_added : Stmt := topS 17
theorem sc_added : FnScope ["one", "other", "m", "e", "n", "f"] ["one", "other"] (defScope s_added) := ⟨rfl, rfl, rfl, by decide +kernel, rfl, by decide +kernel, by decide +kernel⟩
abbrev s_multiplied : Stmt := topS 18
theorem sc_multiplied : FnScope ["one", "other", "m"] ["one", "other"] (defScope s_multiplied) := ⟨rfl, rfl, rfl, by decide +kernel, rfl, by decide +kernel, by decide +kernel⟩
abbrev s_compared : Stmt := topS 19
theorem sc_compared : FnScope ["one", "other", "m", "e", "n", "f", "size", "other_size"] ["one", "other"] (defScope s_compared) := ⟨rfl, rfl, rfl, by decide +kernel, rfl, by decide +kernel, by decide +kernel⟩
abbrev s_size_of : Stmt := topS 20
theorem sc_size_of : FnScope ["number"] ["number"] (defScope s_size_of) := ⟨rfl, rfl, rfl, by decide +kernel, rfl, by decide +kernel, by decide +kernel⟩
abbrev s_floor_at : Stmt := topS 21
theorem sc_floor_at : FnScope ["number", "power", "m", "e"] ["number", "power"] (defScope s_floor_at) := ⟨rfl, rfl, rfl, by decide +kernel, rfl, by decide +kernel, by decide +kernel⟩
abbrev s_ceiling_at : Stmt := topS 22
theorem sc_ceiling_at : FnScope ["number", "power"] ["number", "power"] (defScope s_ceiling_at) := ⟨rfl, rfl, rfl, by decide +kernel, rfl, by decide +kernel, by decide +kernel⟩
abbrev s_plus : Stmt := topS 12
theorem sc_plus : FnScope ["one", "other"] ["one", "other"] (defScope s_plus) := ⟨rfl, rfl, rfl, by decide +kernel, rfl, by decide +kernel, by decide +kernel⟩
abbrev s_times : Stmt := topS 13
theorem sc_times : FnScope ["one", "other"] ["one", "other"] (defScope s_times) := ⟨rfl, rfl, rfl, by decide +kernel, rfl, by decide +kernel, by decide +kernel⟩
abbrev s_order_of : Stmt := topS 14
theorem sc_order_of : FnScope ["one", "other"] ["one", "other"] (defScope s_order_of) := ⟨rfl, rfl, rfl, by decide +kernel, rfl, by decide +kernel, by decide +kernel⟩
abbrev s_step_power : Stmt := topS 26
theorem sc_step_power : FnScope ["form", "size"] ["form", "size"] (defScope s_step_power) := ⟨rfl, rfl, rfl, by decide +kernel, rfl, by decide +kernel, by decide +kernel⟩
abbrev s_step_power_of : Stmt := topS 27
theorem sc_step_power_of : FnScope ["form", "number"] ["form", "number"] (defScope s_step_power_of) := ⟨rfl, rfl, rfl, by decide +kernel, rfl, by decide +kernel, by decide +kernel⟩
abbrev s_next_outward : Stmt := topS 29
theorem sc_next_outward : FnScope ["form", "number", "power"] ["form", "number"] (defScope s_next_outward) := ⟨rfl, rfl, rfl, by decide +kernel, rfl, by decide +kernel, by decide +kernel⟩
abbrev s_next_inward : Stmt := topS 30
theorem sc_next_inward : FnScope ["form", "number", "size", "power"] ["form", "number"] (defScope s_next_inward) := ⟨rfl, rfl, rfl, by decide +kernel, rfl, by decide +kernel, by decide +kernel⟩
abbrev s_next_above : Stmt := topS 28
theorem sc_next_above : FnScope ["form", "number"] ["form", "number"] (defScope s_next_above) := ⟨rfl, rfl, rfl, by decide +kernel, rfl, by decide +kernel, by decide +kernel⟩
abbrev s_is_below_most : Stmt := topS 31
theorem sc_is_below_most : FnScope ["form", "number"] ["form", "number"] (defScope s_is_below_most) := ⟨rfl, rfl, rfl, by decide +kernel, rfl, by decide +kernel, by decide +kernel⟩
abbrev s_Form_init : Stmt := inClass (topS 25) 0
theorem sc_Form_init : FnScope ["self", "bits", "least", "most"] ["self", "bits", "least", "most"] (defScope s_Form_init) := ⟨rfl, rfl, rfl, by decide +kernel, rfl, by decide +kernel, by decide +kernel⟩
abbrev s_Form_has : Stmt := inClass (topS 25) 3
theorem sc_Form_has : FnScope ["self", "number", "m", "e"] ["self", "number"] (defScope s_Form_has) := ⟨rfl, rfl, rfl, by decide +kernel, rfl, by decide +kernel, by decide +kernel⟩
abbrev s_Form_count : Stmt := inClass (topS 25) 4
theorem sc_Form_count : FnScope ["self", "places", "doublings", "above_nought"] ["self"] (defScope s_Form_count) := ⟨rfl, rfl, rfl, by decide +kernel, rfl, by decide +kernel, by decide +kernel⟩
abbrev s_Form_top : Stmt := inClass (topS 25) 5
theorem sc_Form_top : FnScope ["self", "places"] ["self"] (defScope s_Form_top) := ⟨rfl, rfl, rfl, by decide +kernel, rfl, by decide +kernel, by decide +kernel⟩
abbrev s_Form_above : Stmt := inClass (topS 25) 7
theorem sc_Form_above : FnScope ["self", "number", "top"] ["self", "number"] (defScope s_Form_above) := ⟨rfl, rfl, rfl, by decide +kernel, rfl, by decide +kernel, by decide +kernel⟩
abbrev s_Form_below : Stmt := inClass (topS 25) 8
theorem sc_Form_below : FnScope ["self", "number", "mirrored"] ["self", "number"] (defScope s_Form_below) := ⟨rfl, rfl, rfl, by decide +kernel, rfl, by decide +kernel, by decide +kernel⟩
abbrev s_Form_step : Stmt := inClass (topS 25) 9
theorem sc_Form_step : FnScope ["self", "number"] ["self", "number"] (defScope s_Form_step) := ⟨rfl, rfl, rfl, by decide +kernel, rfl, by decide +kernel, by decide +kernel⟩
abbrev s_law_minus : Stmt := topS 39
theorem sc_law_minus : FnScope ["_law_value"] ["_law_value"] (defScope s_law_minus) := ⟨rfl, rfl, rfl, by decide +kernel, rfl, by decide +kernel, by decide +kernel⟩
abbrev s_law_good : Stmt := topS 40
theorem sc_law_good : FnScope ["_law_made", "_law_wider", "_law_value", "_law_up", "_law_down", "_law_inside", "_law_back"] ["_law_made", "_law_wider", "_law_value"] (defScope s_law_good) := ⟨rfl, rfl, rfl, by decide +kernel, rfl, by decide +kernel, by decide +kernel⟩
abbrev s_law_mixed : Stmt := topS 33
theorem sc_law_mixed : FnScope ["_law_cell_here", "_law_k", "_law_mix"] ["_law_cell_here", "_law_k"] (defScope s_law_mixed) := ⟨rfl, rfl, rfl, by decide +kernel, rfl, by decide +kernel, by decide +kernel⟩
abbrev s_law_cell : Stmt := topS 34
theorem sc_law_cell : FnScope ["_law_script", "_law_k", "_law_cell_here", "_law_found", "_law_j"] ["_law_script", "_law_k"] (defScope s_law_cell) := ⟨rfl, rfl, rfl, by decide +kernel, rfl, by decide +kernel, by decide +kernel⟩
abbrev s_law_take : Stmt := topS 35
theorem sc_law_take : FnScope ["_law_pile", "_law_size", "_law_digit"] ["_law_pile", "_law_size"] (defScope s_law_take) := ⟨rfl, rfl, rfl, by decide +kernel, rfl, by decide +kernel, by decide +kernel⟩
abbrev s_law_odd : Stmt := topS 36
theorem sc_law_odd : FnScope ["_law_m", "_law_e"] ["_law_m", "_law_e"] (defScope s_law_odd) := ⟨rfl, rfl, rfl, by decide +kernel, rfl, by decide +kernel, by decide +kernel⟩
abbrev s_law_number : Stmt := topS 37
theorem sc_law_number : FnScope ["_law_pile", "_law_way", "_law_most_told", "_law_far", "_law_m"] ["_law_pile"] (defScope s_law_number) := ⟨rfl, rfl, rfl, by decide +kernel, rfl, by decide +kernel, by decide +kernel⟩
abbrev s_law_form : Stmt := topS 38
theorem sc_law_form : FnScope ["_law_pile", "_law_bits_own", "_law_least_own", "_law_most_own"] ["_law_pile"] (defScope s_law_form) := ⟨rfl, rfl, rfl, by decide +kernel, rfl, by decide +kernel, by decide +kernel⟩
abbrev s_law : Stmt := topS 41
theorem sc_law : FnScope ["_law_script", "_law_k", "_law_pile", "_law_bits_own", "_law_least_own", "_law_small", "_law_here", "_law_many", "_law_three", "_law_made", "_law_wider", "_law_turn", "_law_near", "_law_value"] ["_law_script"] (defScope s_law) := ⟨rfl, rfl, rfl, by decide +kernel, rfl, by decide +kernel, by decide +kernel⟩
section
variable {P : Program} {w : World} {K : PySem.W.Frag} {mg : Str → Option Value} {base : Heap}
theorem ok_is_whole {f : Addr} {fd : FuncData} (T : Top mg) (F : FnP K "is_whole" s_is_whole f fd) : FnOk P w K mg base CX0 1 f fd ["thing"] (spWhole K) := by
  have sc := sc_is_whole
  refine ok0 F sc (fun vs H Q E h => ?_) (fun cdv A outer s H vs Q E hr h => ?_)
  · obtain ⟨v, b, rfl, _⟩ := h
    rfl
  · obtain ⟨v, b, rfl, hw, q⟩ := h
    obtain ⟨t, b1, b2, ty, k1, k2, rfl⟩ := hw.kinds
    refine ⟨_, (pss_one (ps_ret (pe_and (pe_callB call_isi (by rfl) T.isinstance (by decide +kernel) (pa_cons (pv 0) (pa_cons (pe_bltn (v := .ty "int") (by rfl) T.ty_int (by decide +kernel) rfl) pa_nil))) (pe_one (pe_not (pe_callB call_isi (by rfl) T.isinstance (by decide +kernel) (pa_cons (pv 0) (pa_cons (pe_bltn (v := .ty "bool") (by rfl) T.ty_bool (by decide +kernel) rfl) pa_nil)))))))), ?_⟩
    refine rd_isi (i := 0) rfl ty k1 ⟨b1, rfl, ?_⟩
    cases b1 with
    | true => exact iteT (rd_isi (i := 0) rfl ty k2 ⟨b2, rfl, q⟩)
    | false => exact iteF q
theorem ok_is_whole_within {f f1 : Addr} {fd fd1 : FuncData} (T : Top mg) (F : FnP K "is_whole_within" s_is_whole_within f fd) (c_is_whole : Cal P w K mg base CX0 1 "is_whole" ["thing"] (spWhole K) f1 fd1) : FnOk P w K mg base CX0 2 f fd ["thing", "least", "most"] (spWithin K) := by
  have sc := sc_is_whole_within
  refine ok0 F sc (fun vs H Q E h => ?_) (fun cdv A outer s H vs Q E hr h => ?_)
  · obtain ⟨i, l, m, rfl, _⟩ := h
    rfl
  · obtain ⟨i, l, m, rfl, q⟩ := h
    refine ⟨_, (pss_one (ps_ret (pe_and (pe_call c_is_whole.ok (hr.mono (by decide)) (by rfl) c_is_whole.m c_is_whole.kp c_is_whole.b .nil pass0 (pa_cons (pv 0) pa_nil)) (pe_one (pe_chain op_le op_le (pv 1) (pv 0) (pv 2)))))), ?_⟩
    refine ⟨.int i, rfl, .int i, true, rfl, whole_int i, true, rfl, iteT ?_⟩
    refine ⟨.int l, rfl, .int i, rfl, l, i, rfl, rfl, _, rfl, ite2 (fun h => ?_) (fun h => ?_)⟩
    · rw [h] at q
      exact ⟨.int m, rfl, i, m, rfl, rfl, q⟩
    · rw [Bool.eq_false_iff.mpr h] at q
      exact q
theorem ok_is_number {f : Addr} {fd : FuncData} (T : Top mg) (F : FnP K "is_number" s_is_number f fd) : FnOk P w K mg base CX0 1 f fd ["thing"] (spNum K) := by
  have sc := sc_is_number
  refine ok0 F sc (fun vs H Q E h => ?_) (fun cdv A outer s H vs Q E hr h => ?_)
  · obtain ⟨v, b, rfl, _⟩ := h
    rfl
  · obtain ⟨v, b, rfl, hn, q0⟩ := h
    have q := q0 H (Ex.refl H)
    refine ⟨_, (pss_cons (ps_if (PW.pt (pw_or (pt_not (pt_val (pe_callB call_isi (by rfl) T.isinstance (by decide +kernel) (pa_cons (pv 0) (pa_cons (pe_bltn (v := .ty "tuple") (by rfl) T.ty_tuple (by decide +kernel) rfl) pa_nil))))) (pw_or1 (pt_cmpR op_ne (pe_callB call_len (by rfl) T.len (by decide +kernel) (pa_cons (pv 0) pa_nil)) pe_int (nomark _)))))
      (pss_one (ps_ret pe_bl)) pss_nil)
    (pss_cons (ps_asg (pv 0) (pg_tup rfl (pgs_cons (pg_name (i := 1) sc.nd rfl (.inl rfl)) (pgs_cons (pg_name (i := 2) sc.nd rfl (.inl rfl)) pgs_nil))))
    (pss_cons (ps_if (PW.pt (pw_or (pt_not (pt_val (pe_callB call_isi (by rfl) T.isinstance (by decide +kernel) (pa_cons (pv 1) (pa_cons (pe_bltn (v := .ty "int") (by rfl) T.ty_int (by decide +kernel) rfl) pa_nil))))) (pw_or (pt_not (pt_val (pe_callB call_isi (by rfl) T.isinstance (by decide +kernel) (pa_cons (pv 2) (pa_cons (pe_bltn (v := .ty "int") (by rfl) T.ty_int (by decide +kernel) rfl) pa_nil))))) (pw_or (pt_cmpR op_isT (pv 2) pe_bl (nomark _)) (pw_or1 (pt_cmpR op_isT (pv 2) pe_bl (nomark _)))))))
      (pss_one (ps_ret pe_bl)) pss_nil)
    (pss_cons (ps_if (pt_truth (pe_op op_and1 (pv 1) pe_int) (fun _ => rfl))
      (pss_one (ps_ret (pe_cmpR op_notT (pv 1) pe_bl (nomark _)))) pss_nil)
    (pss_one (ps_ret (pe_and (pe_cmpR (op_eqD hr.units) (pv 1) pe_int (nomark _)) (pe_and (pe_cmpR op_eq (pv 2) pe_int (nomark _)) (pe_one (pe_cmpR op_notT (pv 1) pe_bl (nomark _))))))))))), ?_⟩
    cases hn with
    | no ty k => exact rd_isi (i := 0) rfl ty k ⟨false, rfl, iteT (iteT q)⟩
    | @len a xs h l =>
      refine rd_tup (i := 0) rfl h ⟨true, rfl, iteF ?_⟩
      refine ⟨.ref a, rfl, .ref a, xs.length, rfl, .inr ⟨xs, h, rfl⟩, rfl, _, rfl, ite2 (fun _ => q) (fun hh => absurd ?_ hh)⟩
      have e : ¬ V.int ((xs.length : Nat) : Int) = V.int 2 := fun z => l (by have := V.int.inj z; omega)
      rw [decide_eq_false e]
      rfl
    | @fst a x y b h p1 p2 =>
      refine rd_tup (i := 0) rfl h ⟨true, rfl, iteF ?_⟩
      refine ⟨.ref a, rfl, .ref a, 2, rfl, .inr ⟨[x, y], h, rfl⟩, rfl, _, rfl, iteNS rfl ?_⟩
      refine ⟨.ref a, rfl, a, [x, y], rfl, h, rfl, x, [y], rfl, y, [], rfl, rfl, ?_⟩
      cases p1 with
      | no h1 k1 k2 => exact rd_isi (i := 1) (v := x) rfl h1 k1 ⟨false, rfl, iteT (iteT q)⟩
      | bl c =>
        refine rd_isi (i := 1) (v := .bl c) rfl (ty_bl c) kit_bi ⟨true, rfl, iteF ?_⟩
        cases p2 with
        | no h1 k1 k2 => exact rd_isi (i := 2) (v := y) rfl h1 k1 ⟨false, rfl, iteT (iteT q)⟩
        | bl d =>
          refine rd_isi (i := 2) (v := .bl d) rfl (ty_bl d) kit_bi ⟨true, rfl, iteF ?_⟩
          cases d with
          | true => exact ⟨.bl true, rfl, true, rfl, rfl, _, rfl, iteT (iteT q)⟩
          | false => exact ⟨.bl false, rfl, true, rfl, rfl, _, rfl, iteF ⟨.bl false, rfl, false, rfl, rfl, _, rfl, iteT q⟩⟩
        | int e =>
          refine rd_isi (i := 2) (v := .int e) rfl (ty_int e) kit_ii ⟨true, rfl, iteF ?_⟩
          refine ⟨.int e, rfl, true, rfl, rfl, _, rfl, iteF ⟨.int e, rfl, false, rfl, rfl, _, rfl, iteF ?_⟩⟩
          cases c with
          | true => exact ⟨.bl true, rfl, rfl, .inr ⟨true, rfl, true, rfl, iteT ⟨.bl true, rfl, true, rfl, rfl, q⟩⟩⟩
          | false => 
            refine ⟨.bl false, rfl, rfl, .inr ⟨false, rfl, false, rfl, iteF ?_⟩⟩
            refine ⟨.bl false, rfl, .bool false, .int 0, .bl false, .int 0, rfl, rfl, true, by decide +kernel, iteT ?_⟩
            refine ⟨.int e, rfl, rfl, _, rfl, ite2 (fun _ => ?_) (fun h2 => ?_)⟩
            · exact ⟨.bl false, rfl, false, rfl, rfl, q⟩
            · exact q
    | @snd a x y h p1 p2 =>
      refine rd_tup (i := 0) rfl h ⟨true, rfl, iteF ?_⟩
      refine ⟨.ref a, rfl, .ref a, 2, rfl, .inr ⟨[x, y], h, rfl⟩, rfl, _, rfl, iteNS rfl ?_⟩
      refine ⟨.ref a, rfl, a, [x, y], rfl, h, rfl, x, [y], rfl, y, [], rfl, rfl, ?_⟩
      cases p1 with
      | int m =>
        refine rd_isi (i := 1) (v := .int m) rfl (ty_int m) kit_ii ⟨true, rfl, iteF ?_⟩
        cases p2 with
        | no h1 k1 k2 => exact rd_isi (i := 2) (v := y) rfl h1 k1 ⟨false, rfl, iteT (iteT q)⟩
        | bl d =>
          refine rd_isi (i := 2) (v := .bl d) rfl (ty_bl d) kit_bi ⟨true, rfl, iteF ?_⟩
          cases d with
          | true => exact ⟨.bl true, rfl, true, rfl, rfl, _, rfl, iteT (iteT q)⟩
          | false => exact ⟨.bl false, rfl, true, rfl, rfl, _, rfl, iteF ⟨.bl false, rfl, false, rfl, rfl, _, rfl, iteT q⟩⟩
    | @num a m e h =>
      refine rd_tup (i := 0) rfl h ⟨true, rfl, iteF ?_⟩
      refine ⟨.ref a, rfl, .ref a, 2, rfl, .inr ⟨[.int m, .int e], h, rfl⟩, rfl, _, rfl, iteNS rfl ?_⟩
      refine ⟨.ref a, rfl, a, [.int m, .int e], rfl, h, rfl, .int m, [.int e], rfl, .int e, [], rfl, rfl, ?_⟩
      refine rd_isi (i := 1) (v := .int m) rfl (ty_int m) kit_ii ⟨true, rfl, iteF ?_⟩
      refine rd_isi (i := 2) (v := .int e) rfl (ty_int e) kit_ii ⟨true, rfl, iteF ?_⟩
      refine ⟨.int e, rfl, true, rfl, rfl, _, rfl, iteF ⟨.int e, rfl, false, rfl, rfl, _, rfl, iteF ?_⟩⟩
      refine ⟨.int m, rfl, rfl, .inl ⟨m, rfl, _, rfl, ite2 (fun h1 => ?_) (fun h1 => ?_)⟩⟩
      · have e1 : m % 2 = 1 := by
          have : m % 2 ≠ 0 := by simpa using h1
          omega
        have e2 : isNumB m e = true := by
          unfold isNumB
          rw [decide_eq_true e1]
          rfl
        rw [e2] at q
        exact ⟨.int m, rfl, true, rfl, rfl, q⟩
      · have e1 : ¬ m % 2 = 1 := fun z => h1 (by rw [z]; rfl)
        have e2 : isNumB m e = (decide (m = 0) && decide (e = 0)) := by
          unfold isNumB
          rw [decide_eq_false e1]
          rfl
        rw [e2] at q
        refine ⟨.int m, rfl, .int m, .int 0, .int m, .int 0, rfl, rfl, decide (m = 0), by simp [PyData.eqv]; rfl, ite2 (fun h2 => ?_) (fun h2 => ?_)⟩
        · rw [h2] at q
          refine ⟨.int e, rfl, rfl, _, rfl, ite2 (fun h3 => ?_) (fun h3 => ?_)⟩
          · have e4 : e = 0 := V.int.inj (of_decide_eq_true h3)
            rw [decide_eq_true e4] at q
            exact ⟨.int m, rfl, false, rfl, rfl, q⟩
          · have e4 : ¬ e = 0 := fun z => h3 (decide_eq_true (congrArg V.int z))
            rw [decide_eq_false e4] at q
            exact q
        · rw [Bool.eq_false_iff.mpr h2] at q
          exact q
theorem ok_need_number {f f1 : Addr} {fd fd1 : FuncData} (T : Top mg) (F : FnP K "need_number" s_need_number f fd) (c_is_number : Cal P w K mg base CX0 1 "is_number" ["thing"] (spNum K) f1 fd1) : FnOk P w K mg base CX0 2 f fd ["thing"] (spNeed K) := by
  have sc := sc_need_number
  refine ok0 F sc (fun vs H Q E h => ?_) (fun cdv A outer s H vs Q E hr h => ?_)
  · obtain ⟨v, rfl, _⟩ := h
    rfl
  · obtain ⟨v, rfl, hn, q⟩ := h
    refine ⟨_, (pss_one (ps_if (pt_not (pt_val (pe_call c_is_number.ok (hr.mono (by decide)) (by rfl) c_is_number.m c_is_number.kp c_is_number.b .nil pass0 (pa_cons (pv 0) pa_nil))))
      (pss_one ps_never) pss_nil)), ?_⟩
    exact ⟨v, rfl, v, true, rfl, hn, fun H' e => ⟨true, rfl, iteF (q H' e)⟩⟩
theorem ok_need_numbers {f f1 : Addr} {fd fd1 : FuncData} (T : Top mg) (F : FnP K "need_numbers" s_need_numbers f fd) (c_is_number : Cal P w K mg base CX0 1 "is_number" ["thing"] (spNum K) f1 fd1) : FnOk P w K mg base CX0 2 f fd ["one", "other"] (spNeed2 K) := by
  have sc := sc_need_numbers
  refine ok0 F sc (fun vs H Q E h => ?_) (fun cdv A outer s H vs Q E hr h => ?_)
  · obtain ⟨u, v, rfl, _⟩ := h
    rfl
  · obtain ⟨u, v, rfl, hn, hm, q⟩ := h
    refine ⟨_, (pss_one (ps_if (PW.pt (pw_or (pt_not (pt_val (pe_call c_is_number.ok (hr.mono (by decide)) (by rfl) c_is_number.m c_is_number.kp c_is_number.b .nil pass0 (pa_cons (pv 0) pa_nil)))) (pw_or1 (pt_not (pt_val (pe_call c_is_number.ok (hr.mono (by decide)) (by rfl) c_is_number.m c_is_number.kp c_is_number.b .nil pass0 (pa_cons (pv 1) pa_nil)))))))
      (pss_one ps_never) pss_nil)), ?_⟩
    exact ⟨u, rfl, u, true, rfl, hn, fun H1 e1 => ⟨true, rfl, iteF ⟨v, rfl, v, true, rfl, num_ex e1 hm, fun H2 e2 => ⟨true, rfl, iteF (q H2 (e1.trans e2))⟩⟩⟩⟩
theorem ok_lowered {f : Addr} {fd : FuncData} (T : Top mg) (F : FnP K "lowered" s_lowered f fd) : FnOk P w K mg base CX0 1 f fd ["m", "e"] spNof := by
  have sc := sc_lowered
  refine ok0 F sc (fun vs H Q E h => ?_) (fun cdv A outer s H vs Q E hr h => ?_)
  · obtain ⟨m, e, rfl, _⟩ := h
    rfl
  · obtain ⟨m, e, rfl, q⟩ := h
    refine ⟨_, (pss_cons (ps_if (pt_truth (pe_op op_and1 (pv 0) pe_int) (fun _ => rfl))
      (pss_one (ps_ret (pe_tup (pa_cons (pv 0) (pa_cons (pv 1) pa_nil))))) pss_nil)
    (pss_cons (ps_if (pt_cmpR op_eq (pv 0) pe_int (nomark _))
      (pss_one (ps_ret (pe_tup (pa_cons pe_int (pa_cons pe_int pa_nil))))) pss_nil)
    (pss_cons (ps_set (i := 2) sc.nd rfl (.inl rfl) (pe_op op_sub (pe_bits (pe_op op_and (pv 0) (pe_un un_neg (pv 0)))) pe_int))
    (pss_one (ps_ret (pe_tup (pa_cons (pe_op op_shrN (pv 0) (pv 2)) (pa_cons (pe_op op_add (pv 1) (pv 2)) pa_nil)))))))), ?_⟩
    refine ⟨.int m, rfl, rfl, .inl ⟨m, rfl, _, rfl, ite2 (fun h1 => ?_) (fun h1 => ?_)⟩⟩
    · have e1 : m % 2 = 1 := by
        have : m % 2 ≠ 0 := by simpa using h1
        omega
      have e2 : isNumB m e = true := by
        unfold isNumB
        rw [decide_eq_true e1]
        rfl
      rw [nrm_self e2] at q
      exact ⟨.int m, rfl, .int e, rfl, by show 2 ≤ sizeLine; decide, fun p hp => q _ p (Ex.new hp) hp upd_same⟩
    · refine ⟨.int m, rfl, rfl, _, rfl, ite2 (fun h0 => ?_) (fun h0 => ?_)⟩
      · have e0 : m = 0 := V.int.inj (of_decide_eq_true h0)
        subst e0
        exact ⟨by show 2 ≤ sizeLine; decide, fun p hp => q _ p (Ex.new hp) hp upd_same⟩
      · have e0 : m ≠ 0 := fun z => h0 (decide_eq_true (congrArg V.int z))
        obtain ⟨a, ha⟩ := v2_spec e0
        have en := nrm_of e ha
        have eb : Builtin.bitAnd m (-m) = 2 ^ v2 m := by
          have h1 := PySem.W.kbt_low (v2 m) a
          rw [← ha] at h1
          exact h1
        have ev : ((Builtin.Int.intBits (Builtin.bitAnd m (-m)) : Nat) : Int) - 1 = ((v2 m : Nat) : Int) := by
          rw [eb, bits_two]
          omega
        have ed : m / 2 ^ v2 m = 2 * a + 1 := by
          have := nrm_of 0 ha
          unfold nrm at this
          rw [if_neg e0] at this
          exact (Prod.mk.inj this).1
        refine ⟨.int m, rfl, .int m, rfl, m, rfl, m, -m, rfl, rfl, _, rfl, _, 1, rfl, rfl, ?_⟩
        refine ⟨.int m, rfl, _, rfl, m, v2 m, rfl, congrArg V.int ev, .int e, rfl, _, rfl, e, _, rfl, rfl, by show 2 ≤ sizeLine; decide, fun p hp => q _ p (Ex.new hp) hp ?_⟩
        rw [upd_same, en, ed, ev]
theorem ok_negated {f : Addr} {fd : FuncData} (T : Top mg) (F : FnP K "negated" s_negated f fd) : FnOk P w K mg base CX0 1 f fd ["number"] (spNeg K) := by
  have sc := sc_negated
  refine ok0 F sc (fun vs H Q E h => ?_) (fun cdv A outer s H vs Q E hr h => ?_)
  · obtain ⟨v, n, rfl, _⟩ := h
    rfl
  · obtain ⟨v, n, rfl, ⟨a, rfl, ha⟩, q⟩ := h
    refine ⟨_, (pss_one (ps_ret (pe_tup (pa_cons (pe_un un_neg (pe_ix ix_tup (pv 0) pe_int (fun _ _ => rfl))) (pa_cons (pe_ix ix_tup (pv 0) pe_int (fun _ _ => rfl)) pa_nil))))), ?_⟩
    exact ⟨.ref a, rfl, a, [.int n.1, .int n.2], 0, .int n.1, rfl, rfl, ha, rfl, n.1, rfl, .ref a, rfl, a, [.int n.1, .int n.2], 1, .int n.2, rfl, rfl, ha, rfl, by show 2 ≤ sizeLine; decide, fun p hp => q _ p (Ex.new hp) hp upd_same⟩
theorem ok_added {f f1 : Addr} {fd fd1 : FuncData} (T : Top mg) (F : FnP K "added" s_added f fd) (c_lowered : Cal P w K mg base CX0 1 "lowered" ["m", "e"] spNof f1 fd1) : FnOk P w K mg base CX0 2 f fd ["one", "other"] (spTwo K padd) := by
  have sc := sc_added
  refine ok0 F sc (fun vs H Q E h => ?_) (fun cdv A outer s H vs Q E hr h => ?_)
  · obtain ⟨u, v, a, b, rfl, _⟩ := h
    rfl
  · obtain ⟨u, v, a, b, rfl, ga, gb, q⟩ := h
    refine ⟨_, (pss_cons (ps_asg (pv 0) (pg_tup rfl (pgs_cons (pg_name (i := 2) sc.nd rfl (.inl rfl)) (pgs_cons (pg_name (i := 3) sc.nd rfl (.inl rfl)) pgs_nil))))
    (pss_cons (ps_asg (pv 1) (pg_tup rfl (pgs_cons (pg_name (i := 4) sc.nd rfl (.inl rfl)) (pgs_cons (pg_name (i := 5) sc.nd rfl (.inl rfl)) pgs_nil))))
    (pss_cons (ps_if (pt_cmpR op_eq (pv 3) (pv 5) (nomark _))
      (pss_one (ps_ret (pe_call c_lowered.ok (hr.mono (by decide)) (by rfl) c_lowered.m c_lowered.kp c_lowered.b .nil pass0 (pa_cons (pe_op op_add (pv 2) (pv 4)) (pa_cons (pv 3) pa_nil))))) pss_nil)
    (pss_cons (ps_if (pt_cmpR op_eq (pv 2) pe_int (nomark _))
      (pss_one (ps_ret (pv 1))) pss_nil)
    (pss_cons (ps_if (pt_cmpR op_eq (pv 4) pe_int (nomark _))
      (pss_one (ps_ret (pv 0))) pss_nil)
    (pss_cons (ps_if (pt_cmpR op_gt (pv 3) (pv 5) (nomark _))
      (pss_one (ps_ret (pe_tup (pa_cons (pe_op op_add (pe_op op_shlW (pv 2) (pe_op op_sub (pv 3) (pv 5))) (pv 4)) (pa_cons (pv 5) pa_nil))))) pss_nil)
    (pss_one (ps_ret (pe_tup (pa_cons (pe_op op_add (pv 2) (pe_op op_shlW (pv 4) (pe_op op_sub (pv 5) (pv 3)))) (pa_cons (pv 3) pa_nil))))))))))), ?_⟩
    obtain ⟨p, rfl, hp⟩ := ga.at_
    obtain ⟨r, rfl, hr2⟩ := gb.at_
    have ba := ga.bd
    have bb := gb.bd
    have ba2 := ba.2
    have bb2 := bb.2
    refine ⟨.ref p, rfl, p, [.int a.1, .int a.2], rfl, hp, rfl, .int a.1, [.int a.2], rfl, .int a.2, [], rfl, rfl, ?_⟩
    refine ⟨.ref r, rfl, r, [.int b.1, .int b.2], rfl, hr2, rfl, .int b.1, [.int b.2], rfl, .int b.2, [], rfl, rfl, ?_⟩
    refine ⟨.int a.2, rfl, .int b.2, rfl, rfl, _, rfl, ite2 (fun h1 => ?_) (fun h1 => ?_)⟩
    · have e1 : a.2 = b.2 := V.int.inj (of_decide_eq_true h1)
      refine ⟨.int a.1, rfl, .int b.1, rfl, a.1, b.1, rfl, rfl, .int a.2, rfl, _, _, rfl, fun H' t e' nt ht => ?_⟩
      have e2 : padd a b = nrm (a.1 + b.1) a.2 := by
        rw [padd_at (E := a.2) (by omega) (by omega)]
        have z1 : at_ a a.2 = a.1 := by
          unfold at_
          rw [show (a.2 - a.2).toNat = 0 by omega, Int.pow_zero, Int.mul_one]
        have z2 : at_ b a.2 = b.1 := by
          unfold at_
          rw [show (b.2 - a.2).toNat = 0 by omega, Int.pow_zero, Int.mul_one]
        rw [z1, z2]
      refine q H' (.ref t) e' ?_
      rw [e2]
      exact numAt_of ht
    · have n1 : a.2 ≠ b.2 := fun z => h1 (decide_eq_true (congrArg V.int z))
      refine ⟨.int a.1, rfl, rfl, _, rfl, ite2 (fun h2 => ?_) (fun h2 => ?_)⟩
      · have e2 : a = (0, 0) := num_zero ga.nb (V.int.inj (of_decide_eq_true h2))
        refine ⟨.ref r, rfl, q H (.ref r) (Ex.refl H) ?_⟩
        rw [padd_comm, padd_zero_r gb.nb e2]
        exact ⟨r, rfl, hr2⟩
      · have n2 : a.1 ≠ 0 := fun z => h2 (decide_eq_true (congrArg V.int z))
        refine ⟨.int b.1, rfl, rfl, _, rfl, ite2 (fun h3 => ?_) (fun h3 => ?_)⟩
        · have e3 : b = (0, 0) := num_zero gb.nb (V.int.inj (of_decide_eq_true h3))
          refine ⟨.ref p, rfl, q H (.ref p) (Ex.refl H) ?_⟩
          rw [padd_zero_r ga.nb e3]
          exact ⟨p, rfl, hp⟩
        · have n3 : b.1 ≠ 0 := fun z => h3 (decide_eq_true (congrArg V.int z))
          refine ⟨.int a.2, rfl, .int b.2, rfl, a.2, b.2, rfl, rfl, _, rfl, ite2 (fun h4 => ?_) (fun h4 => ?_)⟩
          · have l4 : b.2 < a.2 := of_decide_eq_true h4
            refine ⟨.int a.1, rfl, .int a.2, rfl, .int b.2, rfl, a.2, b.2, rfl, rfl, a.1, _, rfl, rfl, ?_, .int b.1, rfl, _, _, rfl, rfl, .int b.2, rfl, by show 2 ≤ sizeLine; decide, fun t ht => ?_⟩
            · have hs : a.2 - b.2 = ((a.2 - b.2).toNat : Int) := by omega
              show CShl a.1 (a.2 - b.2)
              rw [hs]
              exact shl_ok ba.1 (by unfold LIM at *; omega)
            · refine q _ (.ref t) (Ex.new ht) ?_
              rw [padd_gt gb.nb n3 l4]
              exact numAt_of upd_same
          · have l4 : a.2 < b.2 := by
              have : ¬ b.2 < a.2 := fun z => h4 (decide_eq_true z)
              omega
            refine ⟨.int a.1, rfl, .int b.1, rfl, .int b.2, rfl, .int a.2, rfl, b.2, a.2, rfl, rfl, b.1, _, rfl, rfl, ?_, a.1, _, rfl, rfl, .int a.2, rfl, by show 2 ≤ sizeLine; decide, fun t ht => ?_⟩
            · have hs : b.2 - a.2 = ((b.2 - a.2).toNat : Int) := by omega
              show CShl b.1 (b.2 - a.2)
              rw [hs]
              exact shl_ok bb.1 (by unfold LIM at *; omega)
            · refine q _ (.ref t) (Ex.new ht) ?_
              rw [padd_comm, padd_gt ga.nb n2 l4, Int.add_comm]
              exact numAt_of upd_same
theorem pmul_plain {a b : Int × Int} (ha : isNumB a.1 a.2 = true) (hb : isNumB b.1 b.2 = true) (h : a.1 * b.1 ≠ 0) : pmul a b = (a.1 * b.1, a.2 + b.2) := by
  have n1 : a.1 ≠ 0 := fun z => h (by rw [z, Int.zero_mul])
  have n2 : b.1 ≠ 0 := fun z => h (by rw [z, Int.mul_zero])
  have o1 := num_odd ha n1
  have o2 := num_odd hb n2
  refine nrm_self (odd_num ?_)
  rw [Int.mul_emod, o1, o2]
  rfl
theorem ok_multiplied {f : Addr} {fd : FuncData} (T : Top mg) (F : FnP K "multiplied" s_multiplied f fd) : FnOk P w K mg base CX0 1 f fd ["one", "other"] (spTwo K pmul) := by
  have sc := sc_multiplied
  refine ok0 F sc (fun vs H Q E h => ?_) (fun cdv A outer s H vs Q E hr h => ?_)
  · obtain ⟨u, v, a, b, rfl, _⟩ := h
    rfl
  · obtain ⟨u, v, a, b, rfl, ga, gb, q⟩ := h
    refine ⟨_, (pss_cons (ps_set (i := 2) sc.nd rfl (.inl rfl) (pe_op op_mulX (pe_ix ix_tup (pv 0) pe_int (fun _ _ => rfl)) (pe_ix ix_tup (pv 1) pe_int (fun _ _ => rfl))))
    (pss_one (ps_ret (pe_ifExp (pt_truth (pv 2) (fun _ => rfl)) (pe_tup (pa_cons (pv 2) (pa_cons (pe_op op_add (pe_ix ix_tup (pv 0) pe_int (fun _ _ => rfl)) (pe_ix ix_tup (pv 1) pe_int (fun _ _ => rfl))) pa_nil))) (pe_tup (pa_cons pe_int (pa_cons pe_int pa_nil))))))), ?_⟩
    obtain ⟨p, rfl, hp⟩ := ga.at_
    obtain ⟨r, rfl, hr2⟩ := gb.at_
    refine ⟨.ref p, rfl, p, [.int a.1, .int a.2], 0, .int a.1, rfl, rfl, hp, rfl, .ref r, rfl, r, [.int b.1, .int b.2], 0, .int b.1, rfl, rfl, hr2, rfl, a.1, b.1, rfl, rfl, mulx_ok ga.bd.1 gb.bd.1 (by unfold LIM; decide), ?_⟩
    refine ⟨.int (a.1 * b.1), rfl, _, rfl, ite2 (fun h1 => ?_) (fun h1 => ?_)⟩
    · have n1 : a.1 * b.1 ≠ 0 := bne_iff_ne.mp h1
      refine ⟨.int (a.1 * b.1), rfl, .ref p, rfl, p, [.int a.1, .int a.2], 1, .int a.2, rfl, rfl, hp, rfl, .ref r, rfl, r, [.int b.1, .int b.2], 1, .int b.2, rfl, rfl, hr2, rfl, a.2, b.2, rfl, rfl, by show 2 ≤ sizeLine; decide, fun t ht => ?_⟩
      refine q _ (.ref t) (Ex.new ht) ?_
      rw [pmul_plain ga.nb gb.nb n1]
      exact numAt_of upd_same
    · have e1 : a.1 * b.1 = 0 := Decidable.byContradiction fun z => h1 (bne_iff_ne.mpr z)
      refine ⟨by show 2 ≤ sizeLine; decide, fun t ht => q _ (.ref t) (Ex.new ht) ?_⟩
      have e2 : pmul a b = (0, 0) := by
        unfold pmul
        rw [e1]
        rfl
      rw [e2]
      exact numAt_of upd_same
theorem pord_plain {a b : Int × Int} (h : a.2 = b.2 ∨ a.1 = 0 ∨ b.1 = 0 ∨ decide (0 < a.1) ≠ decide (0 < b.1)) : pord a b = sgn (a.1 - b.1) := by
  have ea : min a.2 b.2 ≤ a.2 := by omega
  have eb : min a.2 b.2 ≤ b.2 := by omega
  rcases h with h | h | h | h
  · rw [pord_at (E := a.2) (by omega) (by omega)]
    unfold at_
    rw [show (a.2 - a.2).toNat = 0 by omega, show (b.2 - a.2).toNat = 0 by omega, Int.pow_zero, Int.mul_one, Int.mul_one]
  · rw [pord_at ea eb]
    generalize min a.2 b.2 = E at *
    have e1 : at_ a E = 0 := by
      unfold at_
      rw [h, Int.zero_mul]
    rw [e1, h, Int.zero_sub, Int.zero_sub, sgn_swap, sgn_swap, at_sgn]
  · rw [pord_at ea eb]
    generalize min a.2 b.2 = E at *
    have e1 : at_ b E = 0 := by
      unfold at_
      rw [h, Int.zero_mul]
    rw [e1, h, Int.sub_zero, Int.sub_zero, at_sgn]
  · rw [pord_at ea eb]
    generalize min a.2 b.2 = E at *
    have sa := at_sgn a E
    have sb := at_sgn b E
    by_cases p : 0 < a.1
    · have p2 : ¬ 0 < b.1 := fun z => h (by rw [decide_eq_true p, decide_eq_true z])
      rw [sgn_pos p] at sa
      have pa := sgn_of_pos sa
      rw [sgn_pos (show 0 < a.1 - b.1 by omega)]
      refine sgn_pos ?_
      rcases Int.lt_trichotomy b.1 0 with z | z | z
      · rw [sgn_neg z] at sb
        have := sgn_of_neg sb
        omega
      · rw [z] at sb
        have := sgn_of_zero sb
        omega
      · exact absurd z p2
    · have p2 : 0 < b.1 := by
        rcases Int.lt_trichotomy b.1 0 with z | z | z
        · exact absurd (by rw [decide_eq_false p, decide_eq_false (by omega)]) h
        · exact absurd (by rw [decide_eq_false p, decide_eq_false (by omega)]) h
        · exact z
      rw [sgn_pos p2] at sb
      have pb := sgn_of_pos sb
      rw [sgn_neg (show a.1 - b.1 < 0 by omega)]
      refine sgn_neg ?_
      rcases Int.lt_trichotomy a.1 0 with z | z | z
      · rw [sgn_neg z] at sa
        have := sgn_of_neg sa
        omega
      · rw [z] at sa
        have := sgn_of_zero sa
        omega
      · exact absurd z p
/-- of one sign, by their sizes -/
theorem pord_size {a b : Int × Int} (ha : a.1 ≠ 0) (hb : b.1 ≠ 0) (h : decide (0 < a.1) = decide (0 < b.1)) (hs : psize a ≠ psize b) : pord a b = if decide (psize b < psize a) = decide (0 < a.1) then 1 else -1 := by
  have hE : ∀ x y : Int × Int, (prank y).1 = (prank x).1 → (prank y).2 < (prank x).2 → pord x y = 1 := fun x y e l => rank_gt (.inr ⟨e, l⟩)
  by_cases p : 0 < a.1
  · have p2 : 0 < b.1 := of_decide_eq_true (h ▸ decide_eq_true p)
    have ra : prank a = (1, 1 * psize a) := by unfold prank; rw [sgn_pos p]
    have rb : prank b = (1, 1 * psize b) := by unfold prank; rw [sgn_pos p2]
    by_cases q : psize b < psize a
    · rw [decide_eq_true p, decide_eq_true q, if_pos rfl]
      exact hE a b (by rw [ra, rb]) (by rw [ra, rb]; show 1 * psize b < 1 * psize a; omega)
    · rw [decide_eq_true p, decide_eq_false q, if_neg (by decide), pord_swap b a, hE b a (by rw [ra, rb]) (by rw [ra, rb]; show 1 * psize a < 1 * psize b; omega)]
  · have p1 : a.1 < 0 := by omega
    have p2 : b.1 < 0 := by
      have : ¬ 0 < b.1 := fun z => p (of_decide_eq_true (h.trans (decide_eq_true z)))
      omega
    have ra : prank a = (-1, -1 * psize a) := by unfold prank; rw [sgn_neg p1]
    have rb : prank b = (-1, -1 * psize b) := by unfold prank; rw [sgn_neg p2]
    by_cases q : psize b < psize a
    · rw [decide_eq_false p, decide_eq_true q, if_neg (by decide), pord_swap b a, hE b a (by rw [ra, rb]) (by rw [ra, rb]; show -1 * psize a < -1 * psize b; omega)]
    · rw [decide_eq_false p, decide_eq_false q, if_pos rfl]
      exact hE a b (by rw [ra, rb]) (by rw [ra, rb]; show -1 * psize b < -1 * psize a; omega)
theorem sgn_if (x y : Int) : sgn (x - y) = if x = y then 0 else if y < x then 1 else -1 := by
  by_cases h : x = y
  · rw [if_pos h, h, Int.sub_self]
    rfl
  · rw [if_neg h]
    by_cases l : y < x
    · rw [if_pos l, sgn_pos (by omega)]
    · rw [if_neg l, sgn_neg (by omega)]
theorem ok_compared {f : Addr} {fd : FuncData} (T : Top mg) (F : FnP K "compared" s_compared f fd) : FnOk P w K mg base CX0 1 f fd ["one", "other"] (spOrd K) := by
  have sc := sc_compared
  refine ok0 F sc (fun vs H Q E h => ?_) (fun cdv A outer s H vs Q E hr h => ?_)
  · obtain ⟨u, v, a, b, rfl, _⟩ := h
    rfl
  · obtain ⟨u, v, a, b, rfl, ga, gb, q⟩ := h
    have q := q H (Ex.refl H)
    refine ⟨_, (pss_cons (ps_asg (pv 0) (pg_tup rfl (pgs_cons (pg_name (i := 2) sc.nd rfl (.inl rfl)) (pgs_cons (pg_name (i := 3) sc.nd rfl (.inl rfl)) pgs_nil))))
    (pss_cons (ps_asg (pv 1) (pg_tup rfl (pgs_cons (pg_name (i := 4) sc.nd rfl (.inl rfl)) (pgs_cons (pg_name (i := 5) sc.nd rfl (.inl rfl)) pgs_nil))))
    (pss_cut (ps_if (PW.pt (pw_and (pt_cmpR op_ne (pv 3) (pv 5) (nomark _)) (pw_and (pt_truth (pv 2) (fun _ => rfl)) (pw_and (pt_truth (pv 4) (fun _ => rfl)) (pw_and1 (pt_cmpR op_eq (pe_cmpR op_gt (pv 2) pe_int (nomark _)) (pe_cmpR op_gt (pv 4) pe_int (nomark _)) (nomark _)))))))
      (pss_cons (ps_par (by rfl) sc.nd (i := 6) (j := 7) rfl rfl (by decide) rfl rfl (pa_cons (pe_op op_add (pe_bits (pv 2)) (pv 3)) (pa_cons (pe_op op_add (pe_bits (pv 4)) (pv 5)) pa_nil)) (by rfl))
      (pss_cons (ps_if (pt_cmpR op_ne (pv 6) (pv 7) (nomark _))
        (pss_one (ps_ret (pe_ifExp (pt_cmpR op_eq (pe_cmpR op_gt (pv 6) (pv 7) (nomark _)) (pe_cmpR op_gt (pv 2) pe_int (nomark _)) (nomark _)) pe_int (pe_un un_neg pe_int)))) pss_nil)
      (pss_one (ps_if (pt_cmpR op_gt (pv 3) (pv 5) (nomark _))
        (pss_one (ps_aug (i := 2) sc.nd rfl (.inl rfl) (pe_op op_sub (pv 3) (pv 5)) iop_shlW)) (pss_one (ps_aug (i := 4) sc.nd rfl (.inl rfl) (pe_op op_sub (pv 5) (pv 3)) iop_shlW)))))) pss_nil)
    (pss_cons (ps_if (pt_cmpR op_eq (pv 2) (pv 4) (nomark _))
      (pss_one (ps_ret pe_int)) pss_nil)
    (pss_one (ps_ret (pe_ifExp (pt_cmpR op_gt (pv 2) (pv 4) (nomark _)) pe_int (pe_un un_neg pe_int)))))))), ?_⟩
    obtain ⟨p, rfl, hp⟩ := ga.at_
    obtain ⟨r, rfl, hr2⟩ := gb.at_
    have ba := ga.bd
    have bb := gb.bd
    have ba2 := ba.2
    have bb2 := bb.2
    refine ⟨.ref p, rfl, p, [.int a.1, .int a.2], rfl, hp, rfl, .int a.1, [.int a.2], rfl, .int a.2, [], rfl, rfl, ?_⟩
    refine ⟨.ref r, rfl, r, [.int b.1, .int b.2], rfl, hr2, rfl, .int b.1, [.int b.2], rfl, .int b.2, [], rfl, rfl, ?_⟩
    refine ⟨fun σ' H' => H' = H ∧ ∃ (x y : Int) (t u : Option V), σ' = [some (.ref p), some (.ref r), some (.int x), some (.int a.2), some (.int y), some (.int b.2), t, u] ∧ sgn (x - y) = pord a b, ?_, fun σ' H' hm => ?_⟩
    · refine ⟨.int a.2, rfl, .int b.2, rfl, rfl, _, rfl, ite2 (fun h1 => ?_) (fun h1 => ?_)⟩
      · have n1 : a.2 ≠ b.2 := fun z => by
          rw [decide_eq_true (congrArg V.int z)] at h1
          cases h1
        refine ⟨.int a.1, rfl, _, rfl, ite2 (fun h2 => ?_) (fun h2 => ?_)⟩
        · have n2 : a.1 ≠ 0 := by simpa using h2
          refine ⟨.int b.1, rfl, _, rfl, ite2 (fun h3 => ?_) (fun h3 => ?_)⟩
          · have n3 : b.1 ≠ 0 := by simpa using h3
            refine ⟨.int a.1, rfl, a.1, 0, rfl, rfl, .int b.1, rfl, b.1, 0, rfl, rfl, rfl, _, rfl, ite2 (fun h4 => ?_) (fun h4 => ?_)⟩
            · have e4 : decide (0 < a.1) = decide (0 < b.1) := V.bl.inj (of_decide_eq_true h4)
              have pa : ((Builtin.Int.intBits a.1 : Nat) : Int) + a.2 = psize a + 1 := by unfold psize; omega
              have pb : ((Builtin.Int.intBits b.1 : Nat) : Int) + b.2 = psize b + 1 := by unfold psize; omega
              refine ⟨.int a.1, rfl, a.1, rfl, .int a.2, rfl, _, _, rfl, rfl, .int b.1, rfl, b.1, rfl, .int b.2, rfl, _, _, rfl, rfl, .int (psize a + 1), .int (psize b + 1), by rw [← pa, ← pb], ?_⟩
              refine ⟨.int (psize a + 1), rfl, .int (psize b + 1), rfl, rfl, _, rfl, ite2 (fun h5 => ?_) (fun h5 => ?_)⟩
              · have n5 : psize a ≠ psize b := fun z => by
                  rw [decide_eq_true (show V.int (psize a + 1) = V.int (psize b + 1) by rw [z])] at h5
                  cases h5
                rw [pord_size n2 n3 e4 n5] at q
                refine ⟨.int (psize a + 1), rfl, .int (psize b + 1), rfl, _, _, rfl, rfl, .int a.1, rfl, a.1, 0, rfl, rfl, rfl, _, rfl, ?_⟩
                have e6 : decide (psize b + 1 < psize a + 1) = decide (psize b < psize a) := decide_eq_decide.mpr ⟨fun z => by omega, fun z => by omega⟩
                refine ite2 (fun h6 => ?_) (fun h6 => ?_)
                · have e7 := V.bl.inj (of_decide_eq_true h6)
                  rw [e6] at e7
                  rw [if_pos e7] at q
                  exact q
                · have e7 : ¬ decide (psize b < psize a) = decide (0 < a.1) := fun z => h6 (decide_eq_true (by show V.bl (decide (psize b + 1 < psize a + 1)) = V.bl (decide (0 < a.1)); rw [e6, z]))
                  rw [if_neg e7] at q
                  exact ⟨1, rfl, q⟩
              · refine ⟨.int a.2, rfl, .int b.2, rfl, a.2, b.2, rfl, rfl, _, rfl, ite2 (fun h6 => ?_) (fun h6 => ?_)⟩
                · have l6 : b.2 < a.2 := of_decide_eq_true h6
                  refine ⟨.int a.1, rfl, .int a.2, rfl, .int b.2, rfl, a.2, b.2, rfl, rfl, a.1, _, rfl, rfl, ?_, rfl, _, _, _, _, rfl, ?_⟩
                  · have hs : a.2 - b.2 = ((a.2 - b.2).toNat : Int) := by omega
                    show CShl a.1 (a.2 - b.2)
                    rw [hs]
                    exact shl_ok ba.1 (by unfold LIM at *; omega)
                  · rw [pord_at (E := b.2) (by omega) (by omega)]
                    unfold at_
                    rw [show (b.2 - b.2).toNat = 0 by omega, Int.pow_zero, Int.mul_one]
                · have l6 : a.2 < b.2 := by
                    have : ¬ b.2 < a.2 := fun z => h6 (decide_eq_true z)
                    omega
                  refine ⟨.int b.1, rfl, .int b.2, rfl, .int a.2, rfl, b.2, a.2, rfl, rfl, b.1, _, rfl, rfl, ?_, rfl, _, _, _, _, rfl, ?_⟩
                  · have hs : b.2 - a.2 = ((b.2 - a.2).toNat : Int) := by omega
                    show CShl b.1 (b.2 - a.2)
                    rw [hs]
                    exact shl_ok bb.1 (by unfold LIM at *; omega)
                  · rw [pord_at (E := a.2) (by omega) (by omega)]
                    unfold at_
                    rw [show (a.2 - a.2).toNat = 0 by omega, Int.pow_zero, Int.mul_one]
            · refine ⟨rfl, a.1, b.1, _, _, rfl, (pord_plain (.inr (.inr (.inr fun z => h4 (decide_eq_true (congrArg V.bl z)))))).symm⟩
          · have e3 : b.1 = 0 := by simpa using h3
            exact iteF ⟨rfl, a.1, b.1, _, _, rfl, (pord_plain (.inr (.inr (.inl e3)))).symm⟩
        · have e2 : a.1 = 0 := by simpa using h2
          exact iteF ⟨rfl, a.1, b.1, _, _, rfl, (pord_plain (.inr (.inl e2))).symm⟩
      · have e1 : a.2 = b.2 := by
          by_cases z : a.2 = b.2
          · exact z
          · exact absurd (by rw [decide_eq_false (fun y => z (V.int.inj y))]; rfl) h1
        exact iteF ⟨rfl, a.1, b.1, _, _, rfl, (pord_plain (.inl e1)).symm⟩
    · obtain ⟨rfl, x, y, t, u, rfl, e⟩ := hm
      rw [← e, sgn_if] at q
      refine ⟨.int x, rfl, .int y, rfl, rfl, _, rfl, ite2 (fun h1 => ?_) (fun h1 => ?_)⟩
      · rw [if_pos (V.int.inj (of_decide_eq_true h1))] at q
        exact q
      · rw [if_neg (fun z => h1 (decide_eq_true (congrArg V.int z)))] at q
        refine ⟨.int x, rfl, .int y, rfl, x, y, rfl, rfl, _, rfl, ite2 (fun h2 => ?_) (fun h2 => ?_)⟩
        · rw [if_pos (of_decide_eq_true h2)] at q
          exact q
        · rw [if_neg (fun z => h2 (decide_eq_true z))] at q
          exact ⟨1, rfl, q⟩
theorem ok_size_of {f : Addr} {fd : FuncData} (T : Top mg) (F : FnP K "size_of" s_size_of f fd) : FnOk P w K mg base CX0 1 f fd ["number"] (spSize K) := by
  have sc := sc_size_of
  refine ok0 F sc (fun vs H Q E h => ?_) (fun cdv A outer s H vs Q E hr h => ?_)
  · obtain ⟨v, n, rfl, _⟩ := h
    rfl
  · obtain ⟨v, n, rfl, ⟨a, rfl, ha⟩, q⟩ := h
    refine ⟨_, (pss_one (ps_ret (pe_op op_add (pe_op op_sub (pe_bits (pe_ix ix_tup (pv 0) pe_int (fun _ _ => rfl))) pe_int) (pe_ix ix_tup (pv 0) pe_int (fun _ _ => rfl))))), ?_⟩
    exact ⟨.ref a, rfl, a, [.int n.1, .int n.2], 0, .int n.1, rfl, rfl, ha, rfl, n.1, rfl, _, 1, rfl, rfl, .ref a, rfl, a, [.int n.1, .int n.2], 1, .int n.2, rfl, rfl, ha, rfl, _, _, rfl, rfl, q⟩
theorem ok_floor_at {f : Addr} {fd : FuncData} (T : Top mg) (F : FnP K "floor_at" s_floor_at f fd) : FnOk P w K mg base CX0 1 f fd ["number", "power"] (spFloorG K) := by
  have sc := sc_floor_at
  refine ok0 F sc (fun vs H Q E h => ?_) (fun cdv A outer s H vs Q E hr h => ?_)
  · obtain ⟨v, n, E, rfl, _⟩ := h
    rfl
  · obtain ⟨v, n, E, rfl, ⟨a, rfl, ha⟩, hb, hE2, q⟩ := h
    refine ⟨_, (pss_cons (ps_asg (pv 0) (pg_tup rfl (pgs_cons (pg_name (i := 2) sc.nd rfl (.inl rfl)) (pgs_cons (pg_name (i := 3) sc.nd rfl (.inl rfl)) pgs_nil))))
    (pss_cons (ps_if (pt_cmpR op_ge (pv 3) (pv 1) (nomark _))
      (pss_one (ps_ret (pe_op op_shlW (pv 2) (pe_op op_sub (pv 3) (pv 1))))) pss_nil)
    (pss_one (ps_ret (pe_op op_shrN (pv 2) (pe_op op_sub (pv 1) (pv 3))))))), ?_⟩
    refine ⟨.ref a, rfl, a, [.int n.1, .int n.2], rfl, ha, rfl, .int n.1, [.int n.2], rfl, .int n.2, [], rfl, rfl, ?_⟩
    have hb1 := hb.1
    have hb2 := hb.2
    unfold fl at q
    refine ⟨.int n.2, rfl, .int E, rfl, n.2, E, rfl, rfl, _, rfl, ite2 (fun h => ?_) (fun h => ?_)⟩
    · have h : E ≤ n.2 := of_decide_eq_true h
      rw [if_pos h] at q
      refine ⟨.int n.1, rfl, .int n.2, rfl, .int E, rfl, n.2, E, rfl, rfl, n.1, _, rfl, rfl, ?_, q⟩
      have hs : n.2 - E = ((n.2 - E).toNat : Int) := by omega
      show CShl n.1 (n.2 - E)
      rw [hs]
      exact shl_ok hb1 (by unfold LIM at *; omega)
    · have h : ¬ E ≤ n.2 := fun z => h (decide_eq_true z)
      rw [if_neg h] at q
      exact ⟨.int n.1, rfl, .int E, rfl, .int n.2, rfl, E, n.2, rfl, rfl, n.1, (E - n.2).toNat, rfl, congrArg V.int (by omega), q⟩
theorem ok_ceiling_at {f f1 f2 : Addr} {fd fd1 fd2 : FuncData} (T : Top mg) (F : FnP K "ceiling_at" s_ceiling_at f fd) (c_floor_at : Cal P w K mg base CX0 1 "floor_at" ["number", "power"] (spFloorG K) f1 fd1) (c_negated : Cal P w K mg base CX0 1 "negated" ["number"] (spNeg K) f2 fd2) : FnOk P w K mg base CX0 2 f fd ["number", "power"] (spCeilG K) := by
  have sc := sc_ceiling_at
  refine ok0 F sc (fun vs H Q E h => ?_) (fun cdv A outer s H vs Q E hr h => ?_)
  · obtain ⟨v, n, E, rfl, _⟩ := h
    rfl
  · obtain ⟨v, n, E, rfl, hv, hb, hE, q⟩ := h
    refine ⟨_, (pss_one (ps_ret (pe_un un_neg (pe_call c_floor_at.ok (hr.mono (by decide)) (by rfl) c_floor_at.m c_floor_at.kp c_floor_at.b .nil pass0 (pa_cons (pe_call c_negated.ok (hr.mono (by decide)) (by rfl) c_negated.m c_negated.kp c_negated.b .nil pass0 (pa_cons (pv 0) pa_nil)) (pa_cons (pv 1) pa_nil)))))), ?_⟩
    exact ⟨v, rfl, v, n, rfl, hv, fun H1 r e1 _ hr1 => ⟨.int E, rfl, .ref r, pneg n, E, rfl, numAt_of hr1, bd_neg hb, hE, _, rfl, q H1 e1⟩⟩
theorem ok_plus {f f1 f2 : Addr} {fd fd1 fd2 : FuncData} (T : Top mg) (F : FnP K "plus" s_plus f fd) (c_need_numbers : Cal P w K mg base CX0 2 "need_numbers" ["one", "other"] (spNeed2 K) f1 fd1) (c_added : Cal P w K mg base CX0 2 "added" ["one", "other"] (spTwo K padd) f2 fd2) : FnOk P w K mg base CX0 3 f fd ["one", "other"] (spTwo K padd) := by
  have sc := sc_plus
  refine ok0 F sc (fun vs H Q E h => ?_) (fun cdv A outer s H vs Q E hr h => ?_)
  · obtain ⟨u, v, a, b, rfl, _⟩ := h
    rfl
  · obtain ⟨u, v, a, b, rfl, ga, gb, q⟩ := h
    refine ⟨_, (pss_cons (ps_expr (pe_call c_need_numbers.ok (hr.mono (by decide)) (by rfl) c_need_numbers.m c_need_numbers.kp c_need_numbers.b .nil pass0 (pa_cons (pv 0) (pa_cons (pv 1) pa_nil))))
    (pss_one (ps_ret (pe_call c_added.ok (hr.mono (by decide)) (by rfl) c_added.m c_added.kp c_added.b .nil pass0 (pa_cons (pv 0) (pa_cons (pv 1) pa_nil)))))), ?_⟩
    refine ⟨u, rfl, v, rfl, u, v, rfl, ga.num, gb.num, fun H1 e1 => ?_⟩
    exact ⟨u, rfl, v, rfl, u, v, a, b, rfl, ga.ex e1, gb.ex e1, fun H2 w e2 hw => q H2 w (e1.trans e2) hw⟩
theorem ok_times {f f1 f2 : Addr} {fd fd1 fd2 : FuncData} (T : Top mg) (F : FnP K "times" s_times f fd) (c_need_numbers : Cal P w K mg base CX0 2 "need_numbers" ["one", "other"] (spNeed2 K) f1 fd1) (c_multiplied : Cal P w K mg base CX0 1 "multiplied" ["one", "other"] (spTwo K pmul) f2 fd2) : FnOk P w K mg base CX0 3 f fd ["one", "other"] (spTwo K pmul) := by
  have sc := sc_times
  refine ok0 F sc (fun vs H Q E h => ?_) (fun cdv A outer s H vs Q E hr h => ?_)
  · obtain ⟨u, v, a, b, rfl, _⟩ := h
    rfl
  · obtain ⟨u, v, a, b, rfl, ga, gb, q⟩ := h
    refine ⟨_, (pss_cons (ps_expr (pe_call c_need_numbers.ok (hr.mono (by decide)) (by rfl) c_need_numbers.m c_need_numbers.kp c_need_numbers.b .nil pass0 (pa_cons (pv 0) (pa_cons (pv 1) pa_nil))))
    (pss_one (ps_ret (pe_call c_multiplied.ok (hr.mono (by decide)) (by rfl) c_multiplied.m c_multiplied.kp c_multiplied.b .nil pass0 (pa_cons (pv 0) (pa_cons (pv 1) pa_nil)))))), ?_⟩
    refine ⟨u, rfl, v, rfl, u, v, rfl, ga.num, gb.num, fun H1 e1 => ?_⟩
    exact ⟨u, rfl, v, rfl, u, v, a, b, rfl, ga.ex e1, gb.ex e1, fun H2 w e2 hw => q H2 w (e1.trans e2) hw⟩
theorem ok_order_of {f f1 f2 : Addr} {fd fd1 fd2 : FuncData} (T : Top mg) (F : FnP K "order_of" s_order_of f fd) (c_need_numbers : Cal P w K mg base CX0 2 "need_numbers" ["one", "other"] (spNeed2 K) f1 fd1) (c_compared : Cal P w K mg base CX0 1 "compared" ["one", "other"] (spOrd K) f2 fd2) : FnOk P w K mg base CX0 3 f fd ["one", "other"] (spOrd K) := by
  have sc := sc_order_of
  refine ok0 F sc (fun vs H Q E h => ?_) (fun cdv A outer s H vs Q E hr h => ?_)
  · obtain ⟨u, v, a, b, rfl, _⟩ := h
    rfl
  · obtain ⟨u, v, a, b, rfl, ga, gb, q⟩ := h
    refine ⟨_, (pss_cons (ps_expr (pe_call c_need_numbers.ok (hr.mono (by decide)) (by rfl) c_need_numbers.m c_need_numbers.kp c_need_numbers.b .nil pass0 (pa_cons (pv 0) (pa_cons (pv 1) pa_nil))))
    (pss_one (ps_ret (pe_call c_compared.ok (hr.mono (by decide)) (by rfl) c_compared.m c_compared.kp c_compared.b .nil pass0 (pa_cons (pv 0) (pa_cons (pv 1) pa_nil)))))), ?_⟩
    refine ⟨u, rfl, v, rfl, u, v, rfl, ga.num, gb.num, fun H1 e1 => ?_⟩
    exact ⟨u, rfl, v, rfl, u, v, a, b, rfl, ga.ex e1, gb.ex e1, fun H2 e2 => q H2 (e1.trans e2)⟩
theorem ok_step_power {f C_Form : Addr} {fd : FuncData} (T : Top mg) (S_Form : FormC K mg C_Form) (F : FnP K "step_power" s_step_power f fd) : FnOk P w K mg base CX0 1 f fd ["form", "size"] (spSP K C_Form) := by
  have sc := sc_step_power
  refine ok0 F sc (fun vs H Q E h => ?_) (fun cdv A outer s H vs Q E hr h => ?_)
  · obtain ⟨v, sz, fm, rfl, _⟩ := h
    rfl
  · obtain ⟨v, sz, fm, rfl, hv, q⟩ := h
    refine ⟨_, (pss_one (ps_ret (pe_callB (call_max2 rfl) (by rfl) T.max (by decide +kernel) (pa_cons (pe_fld (pv 0) rfl) (pa_cons (pe_op op_sub (pe_op op_add (pv 1) pe_int) (pe_fld (pv 0) rfl)) pa_nil))))), ?_⟩
    have vf := evf_var (σ := [some v, some (.int sz)]) (i := 0) rfl hv
    exact o_ret ((ev_mx (ev_least S_Form vf) (ev_op (ev_op (ev_var (i := 1) rfl) ev_c rv_I0) (ev_bits S_Form vf) rv_I0)) H (Ex.refl H) _ fun H1 e1 => q H1 e1)
theorem ok_step_power_of {f f1 f2 C_Form : Addr} {fd fd1 fd2 : FuncData} (T : Top mg) (S_Form : FormC K mg C_Form) (F : FnP K "step_power_of" s_step_power_of f fd) (c_step_power : Cal P w K mg base CX0 1 "step_power" ["form", "size"] (spSP K C_Form) f1 fd1) (c_size_of : Cal P w K mg base CX0 1 "size_of" ["number"] (spSize K) f2 fd2) : FnOk P w K mg base CX0 2 f fd ["form", "number"] (spSPO K C_Form) := by
  have sc := sc_step_power_of
  refine ok0 F sc (fun vs H Q E h => ?_) (fun cdv A outer s H vs Q E hr h => ?_)
  · obtain ⟨v, u, n, fm, rfl, _⟩ := h
    rfl
  · obtain ⟨v, u, n, fm, rfl, hv, ⟨r, rfl, hr1⟩, q⟩ := h
    refine ⟨_, (pss_one (ps_ret (pe_ifExp (pt_cmpR op_eq (pe_ix ix_tup (pv 1) pe_int (fun _ _ => rfl)) pe_int (nomark _)) (pe_fld (pv 0) rfl) (pe_call c_step_power.ok (hr.mono (by decide)) (by rfl) c_step_power.m c_step_power.kp c_step_power.b .nil pass0 (pa_cons (pv 0) (pa_cons (pe_call c_size_of.ok (hr.mono (by decide)) (by rfl) c_size_of.m c_size_of.kp c_size_of.b .nil pass0 (pa_cons (pv 1) pa_nil)) pa_nil)))))), ?_⟩
    unfold sp at q
    refine ⟨.ref r, rfl, r, [.int n.1, .int n.2], 0, .int n.1, rfl, rfl, hr1, rfl, rfl, _, rfl, ite2 (fun z => ?_) (fun z => ?_)⟩
    · rw [if_pos (V.int.inj (of_decide_eq_true z))] at q
      exact (ev_least S_Form (evf_var (i := 0) rfl hv)) H (Ex.refl H) _ fun H1 e1 => q H1 e1
    · rw [if_neg (fun y => z (decide_eq_true (congrArg V.int y)))] at q
      exact ⟨v, rfl, .ref r, rfl, .ref r, n, rfl, ⟨r, rfl, hr1⟩, v, psize n, fm, rfl, hv, q⟩
theorem ok_next_outward {f f1 f2 f3 C_Form : Addr} {fd fd1 fd2 fd3 : FuncData} (T : Top mg) (S_Form : FormC K mg C_Form) (F : FnP K "next_outward" s_next_outward f fd) (c_step_power_of : Cal P w K mg base CX0 2 "step_power_of" ["form", "number"] (spSPO K C_Form) f1 fd1) (c_lowered : Cal P w K mg base CX0 1 "lowered" ["m", "e"] spNof f2 fd2) (c_floor_at : Cal P w K mg base CX0 1 "floor_at" ["number", "power"] (spFloorG K) f3 fd3) : FnOk P w K mg base CX0 3 f fd ["form", "number"] (spNext K C_Form nout) := by
  have sc := sc_next_outward
  refine ok0 F sc (fun vs H Q E h => ?_) (fun cdv A outer s H vs Q E hr h => ?_)
  · obtain ⟨v, u, n, fm, rfl, _⟩ := h
    rfl
  · obtain ⟨v, u, n, fm, rfl, hv, hu, hb, q⟩ := h
    refine ⟨_, (pss_cons (ps_set (i := 2) sc.nd rfl (.inl rfl) (pe_call c_step_power_of.ok (hr.mono (by decide)) (by rfl) c_step_power_of.m c_step_power_of.kp c_step_power_of.b .nil pass0 (pa_cons (pv 0) (pa_cons (pv 1) pa_nil))))
    (pss_one (ps_ret (pe_call c_lowered.ok (hr.mono (by decide)) (by rfl) c_lowered.m c_lowered.kp c_lowered.b .nil pass0 (pa_cons (pe_op op_add (pe_call c_floor_at.ok (hr.mono (by decide)) (by rfl) c_floor_at.m c_floor_at.kp c_floor_at.b .nil pass0 (pa_cons (pv 1) (pa_cons (pv 2) pa_nil))) pe_int) (pa_cons (pv 2) pa_nil)))))), ?_⟩
    refine ⟨v, rfl, u, rfl, v, u, n, fm, rfl, hv, hu, fun H1 e1 => ?_⟩
    have hE := sp_abs (fm_ok hv) hb
    refine ⟨u, rfl, .int (sp fm n), rfl, u, n, _, rfl, numAt_ex e1 hu, hb.mono (by decide), by unfold LIM; omega, _, 1, rfl, rfl, .int (sp fm n), rfl, _, _, rfl, fun H2 t e2 _ ht => ?_⟩
    exact q H2 (.ref t) (e1.trans e2) (numAt_of ht)
theorem ok_next_inward {f f1 f2 f3 f4 C_Form : Addr} {fd fd1 fd2 fd3 fd4 : FuncData} (T : Top mg) (S_Form : FormC K mg C_Form) (F : FnP K "next_inward" s_next_inward f fd) (c_size_of : Cal P w K mg base CX0 1 "size_of" ["number"] (spSize K) f1 fd1) (c_step_power : Cal P w K mg base CX0 1 "step_power" ["form", "size"] (spSP K C_Form) f2 fd2) (c_lowered : Cal P w K mg base CX0 1 "lowered" ["m", "e"] spNof f3 fd3) (c_ceiling_at : Cal P w K mg base CX0 2 "ceiling_at" ["number", "power"] (spCeilG K) f4 fd4) : FnOk P w K mg base CX0 3 f fd ["form", "number"] (spNext K C_Form nin) := by
  have sc := sc_next_inward
  refine ok0 F sc (fun vs H Q E h => ?_) (fun cdv A outer s H vs Q E hr h => ?_)
  · obtain ⟨v, u, n, fm, rfl, _⟩ := h
    rfl
  · obtain ⟨v, u, n, fm, rfl, hv, hu, hb, q⟩ := h
    refine ⟨_, (pss_cons (ps_set (i := 2) sc.nd rfl (.inl rfl) (pe_call c_size_of.ok (hr.mono (by decide)) (by rfl) c_size_of.m c_size_of.kp c_size_of.b .nil pass0 (pa_cons (pv 1) pa_nil)))
    (pss_cut (ps_if (pt_cmpR op_eq (pe_ix ix_tup (pv 1) pe_int (fun _ _ => rfl)) pe_int (nomark _))
      (pss_one (ps_aug (i := 2) sc.nd rfl (.inl rfl) pe_int ip_sub)) pss_nil)
    (pss_cons (ps_set (i := 3) sc.nd rfl (.inl rfl) (pe_call c_step_power.ok (hr.mono (by decide)) (by rfl) c_step_power.m c_step_power.kp c_step_power.b .nil pass0 (pa_cons (pv 0) (pa_cons (pv 2) pa_nil))))
    (pss_one (ps_ret (pe_call c_lowered.ok (hr.mono (by decide)) (by rfl) c_lowered.m c_lowered.kp c_lowered.b .nil pass0 (pa_cons (pe_op op_sub (pe_call c_ceiling_at.ok (hr.mono (by decide)) (by rfl) c_ceiling_at.m c_ceiling_at.kp c_ceiling_at.b .nil pass0 (pa_cons (pv 1) (pa_cons (pv 3) pa_nil))) pe_int) (pa_cons (pv 3) pa_nil)))))))), ?_⟩
    obtain ⟨r, rfl, hr1⟩ := id hu
    refine ⟨.ref r, rfl, .ref r, n, rfl, hu, ?_⟩
    refine q_cut (M := fun σ' H' => σ' = [some v, some (.ref r), some (.int (sin1 n)), none] ∧ H' = H) ?_ ?_
    · unfold sin1
      refine ⟨.ref r, rfl, r, [.int n.1, .int n.2], 0, .int n.1, rfl, rfl, hr1, rfl, rfl, _, rfl, ite2 (fun z => ?_) (fun z => ?_)⟩
      · rw [if_pos (V.int.inj (of_decide_eq_true z))]
        exact ⟨.int (psize n), rfl, _, 1, rfl, rfl, rfl, rfl⟩
      · rw [if_neg (fun y => z (decide_eq_true (congrArg V.int y)))]
        exact ⟨rfl, rfl⟩
    rintro σ' H' ⟨rfl, rfl⟩
    refine ⟨v, rfl, .int (sin1 n), rfl, v, sin1 n, fm, rfl, hv, fun H1 e1 => ?_⟩
    have hE := pw_abs (fm_ok hv) (sin1_abs hb)
    refine ⟨.ref r, rfl, .int (pw fm (sin1 n)), rfl, .ref r, n, _, rfl, numAt_ex e1 hu, hb.mono (by decide), by unfold LIM; omega, fun H2 e2 => ⟨_, 1, rfl, rfl, .int (pw fm (sin1 n)), rfl, _, _, rfl, fun H3 t e3 _ ht => ?_⟩⟩
    exact q H3 (.ref t) ((e1.trans e2).trans e3) (numAt_of ht)
def nabv (f : Fm) (n : Int × Int) : Int × Int := if n.1 < 0 then pneg (nin f (pneg n)) else nout f n
theorem ok_next_above {f f4 f5 f6 C_Form : Addr} {fd fd4 fd5 fd6 : FuncData} (T : Top mg) (S_Form : FormC K mg C_Form) (F : FnP K "next_above" s_next_above f fd) (c_negated : Cal P w K mg base CX0 1 "negated" ["number"] (spNeg K) f4 fd4) (c_next_inward : Cal P w K mg base CX0 3 "next_inward" ["form", "number"] (spNext K C_Form nin) f5 fd5) (c_next_outward : Cal P w K mg base CX0 3 "next_outward" ["form", "number"] (spNext K C_Form nout) f6 fd6) : FnOk P w K mg base CX0 4 f fd ["form", "number"] (spNext K C_Form nabv) := by
  have sc := sc_next_above
  refine ok0 F sc (fun vs H Q E h => ?_) (fun cdv A outer s H vs Q E hr h => ?_)
  · obtain ⟨v, u, n, fm, rfl, _⟩ := h
    rfl
  · obtain ⟨v, u, n, fm, rfl, hv, hu, hb, q⟩ := h
    refine ⟨_, (pss_cons (ps_if (pt_cmpR op_lt (pe_ix ix_tup (pv 1) pe_int (fun _ _ => rfl)) pe_int (nomark _))
      (pss_one (ps_ret (pe_call c_negated.ok (hr.mono (by decide)) (by rfl) c_negated.m c_negated.kp c_negated.b .nil pass0 (pa_cons (pe_call c_next_inward.ok (hr.mono (by decide)) (by rfl) c_next_inward.m c_next_inward.kp c_next_inward.b .nil pass0 (pa_cons (pv 0) (pa_cons (pe_call c_negated.ok (hr.mono (by decide)) (by rfl) c_negated.m c_negated.kp c_negated.b .nil pass0 (pa_cons (pv 1) pa_nil)) pa_nil))) pa_nil)))) pss_nil)
    (pss_one (ps_ret (pe_call c_next_outward.ok (hr.mono (by decide)) (by rfl) c_next_outward.m c_next_outward.kp c_next_outward.b .nil pass0 (pa_cons (pv 0) (pa_cons (pv 1) pa_nil)))))), ?_⟩
    obtain ⟨r, rfl, hr1⟩ := id hu
    unfold nabv at q
    refine ⟨.ref r, rfl, r, [.int n.1, .int n.2], 0, .int n.1, rfl, rfl, hr1, rfl, n.1, 0, rfl, rfl, _, rfl, ite2 (fun z => ?_) (fun z => ?_)⟩
    · rw [if_pos (of_decide_eq_true z)] at q
      refine ⟨v, rfl, .ref r, rfl, .ref r, n, rfl, hu, fun H6 r6 e6 _ hr6 => ?_⟩
      refine ⟨v, .ref r6, pneg n, fm, rfl, fm_mono _ _ _ e6 hv, numAt_of hr6, bd_neg hb, fun H7 y e7 hy => ?_⟩
      exact ⟨y, _, rfl, hy, fun H8 r8 e8 _ hr8 => q H8 (.ref r8) ((e6.trans e7).trans e8) (numAt_of hr8)⟩
    · rw [if_neg (fun y => z (decide_eq_true y))] at q
      exact ⟨v, rfl, .ref r, rfl, v, .ref r, n, fm, rfl, hv, hu, hb, fun H6 y e6 hy => q H6 y e6 hy⟩
theorem ok_is_below_most {f f1 C_Form : Addr} {fd fd1 : FuncData} (T : Top mg) (S_Form : FormC K mg C_Form) (F : FnP K "is_below_most" s_is_below_most f fd) (c_size_of : Cal P w K mg base CX0 1 "size_of" ["number"] (spSize K) f1 fd1) : FnOk P w K mg base CX0 2 f fd ["form", "number"] (spBM K C_Form) := by
  have sc := sc_is_below_most
  refine ok0 F sc (fun vs H Q E h => ?_) (fun cdv A outer s H vs Q E hr h => ?_)
  · obtain ⟨v, u, n, fm, rfl, _⟩ := h
    rfl
  · obtain ⟨v, u, n, fm, rfl, hv, hu, q⟩ := h
    refine ⟨_, (pss_one (ps_ret (pe_or (pe_cmpR op_eq (pe_ix ix_tup (pv 1) pe_int (fun _ _ => rfl)) pe_int (nomark _)) (pe_one (pe_cmpR op_lt (pe_call c_size_of.ok (hr.mono (by decide)) (by rfl) c_size_of.m c_size_of.kp c_size_of.b .nil pass0 (pa_cons (pv 1) pa_nil)) (pe_fld (pv 0) rfl) (nomark _)))))), ?_⟩
    obtain ⟨r, rfl, hr1⟩ := id hu
    refine ⟨.ref r, rfl, r, [.int n.1, .int n.2], 0, .int n.1, rfl, rfl, hr1, rfl, rfl, _, rfl, ite2 (fun z => ?_) (fun z => ?_)⟩
    · rw [decide_eq_true (V.int.inj (of_decide_eq_true z))] at q
      exact q H (Ex.refl H)
    · rw [decide_eq_false (fun y => z (decide_eq_true (congrArg V.int y)))] at q
      refine ⟨.ref r, rfl, .ref r, n, rfl, hu, ?_⟩
      exact (ev_most S_Form (evf_var (σ := [some v, some (.ref r)]) (i := 0) rfl hv)) H (Ex.refl H) _ fun H1 e1 => ⟨_, _, rfl, rfl, q H1 e1⟩
theorem ok_Form_init {f f1 C_Form : Addr} {fd fd1 : FuncData} (T : Top mg) (S_Form : FormC K mg C_Form) (F : FunD K "__init__" "Form.__init__" (defArgs s_Form_init) (defBody s_Form_init) (defScope s_Form_init) [] [] f fd) (c_is_whole_within : Cal P w K mg base CX0 2 "is_whole_within" ["thing", "least", "most"] (spWithin K) f1 fd1) : FnOk P w K mg base CX0 3 f fd ["self", "bits", "least", "most"] (spFInit C_Form) := by
  have sc := sc_Form_init
  refine ok0 F sc (fun vs H Q E h => ?_) (fun cdv A outer s H vs Q E hr h => ?_)
  · obtain ⟨x, dx, fm, rfl, _⟩ := h
    rfl
  · obtain ⟨x, dx, fm, rfl, hx, ok, q⟩ := h
    refine ⟨_, (pss_cons (ps_if (PW.pt (pw_or (pt_not (pt_val (pe_call c_is_whole_within.ok (hr.mono (by decide)) (by rfl) c_is_whole_within.m c_is_whole_within.kp c_is_whole_within.b .nil pass0 (pa_cons (pv 1) (pa_cons pe_int (pa_cons pe_int pa_nil)))))) (pw_or1 (pt_not (pt_val (pe_call c_is_whole_within.ok (hr.mono (by decide)) (by rfl) c_is_whole_within.m c_is_whole_within.kp c_is_whole_within.b .nil pass0 (pa_cons (pv 2) (pa_cons (pe_un un_neg pe_int) (pa_cons pe_int pa_nil)))))))))
      (pss_one ps_never) pss_nil)
    (pss_cons (ps_if (pt_not (pt_val (pe_call c_is_whole_within.ok (hr.mono (by decide)) (by rfl) c_is_whole_within.m c_is_whole_within.kp c_is_whole_within.b .nil pass0 (pa_cons (pv 3) (pa_cons (pe_op op_add (pv 2) pe_int) (pa_cons pe_int pa_nil))))))
      (pss_one ps_never) pss_nil)
    (pss_cons (ps_fld (pv 0) (pv 1) rfl)
    (pss_cons (ps_fld (pv 0) (pv 2) rfl)
    (pss_one (ps_fld (pv 0) (pv 3) rfl)))))), ?_⟩
    refine ⟨.int fm.b, rfl, fm.b, 1, 200, rfl, _, rfl, ?_⟩
    rw [decide_eq_true ok.b1, decide_eq_true ok.b2]
    refine iteF ⟨.int fm.l, rfl, 400, rfl, fm.l, -400, 300, rfl, _, rfl, ?_⟩
    rw [decide_eq_true ok.l1, decide_eq_true ok.l2]
    refine iteF ?_
    refine ⟨.int fm.o, rfl, .int fm.l, rfl, fm.l, 1, rfl, rfl, fm.o, fm.l + 1, 400, rfl, _, rfl, ?_⟩
    rw [decide_eq_true ok.o1, decide_eq_true ok.o2]
    refine iteF ?_
    refine ⟨.int fm.b, rfl, .ref x, rfl, x, C_Form, dx, [], rfl, hx, S_Form.cl, S_Form.nb, by decide, ?_⟩
    refine ⟨.int fm.l, rfl, .ref x, rfl, x, C_Form, dx, _, rfl, upd_same, S_Form.cl, S_Form.nl, by show 1 < 1000; decide, ?_⟩
    refine ⟨.int fm.o, rfl, .ref x, rfl, x, C_Form, dx, _, rfl, upd_same, S_Form.cl, S_Form.no, by show 2 < 1000; decide, ?_⟩
    refine q _ (fun c o hc hcx => ?_) ?_
    · rw [upd_ne hcx, upd_ne hcx, upd_ne hcx]
      exact hc
    · rw [upd_same]
      rfl
theorem ok_Form_has {f f1 f2 C_Form : Addr} {fd fd1 fd2 : FuncData} (T : Top mg) (S_Form : FormC K mg C_Form) (F : FunD K "has" "Form.has" (defArgs s_Form_has) (defBody s_Form_has) (defScope s_Form_has) [] [] f fd) (c_need_number : Cal P w K mg base CX0 2 "need_number" ["thing"] (spNeed K) f1 fd1) (c_is_below_most : Cal P w K mg base CX0 2 "is_below_most" ["form", "number"] (spBM K C_Form) f2 fd2) : FnOk P w K mg base CX0 3 f fd ["self", "number"] (spHas K C_Form) := by
  have sc := sc_Form_has
  refine ok0 F sc (fun vs H Q E h => ?_) (fun cdv A outer s H vs Q E hr h => ?_)
  · obtain ⟨v, u, n, fm, rfl, _⟩ := h
    rfl
  · obtain ⟨v, u, n, fm, rfl, hv, gu, q⟩ := h
    refine ⟨_, (pss_cons (ps_expr (pe_call c_need_number.ok (hr.mono (by decide)) (by rfl) c_need_number.m c_need_number.kp c_need_number.b .nil pass0 (pa_cons (pv 1) pa_nil)))
    (pss_cons (ps_asg (pv 1) (pg_tup rfl (pgs_cons (pg_name (i := 2) sc.nd rfl (.inl rfl)) (pgs_cons (pg_name (i := 3) sc.nd rfl (.inl rfl)) pgs_nil))))
    (pss_cons (ps_if (pt_cmpR op_eq (pv 2) pe_int (nomark _))
      (pss_one (ps_ret pe_bl)) pss_nil)
    (pss_one (ps_ret (pe_and (pe_cmpR op_le (pe_bits (pv 2)) (pe_fld (pv 0) rfl) (nomark _)) (pe_and (pe_cmpR op_ge (pv 3) (pe_fld (pv 0) rfl) (nomark _)) (pe_one (pe_call c_is_below_most.ok (hr.mono (by decide)) (by rfl) c_is_below_most.m c_is_below_most.kp c_is_below_most.b .nil pass0 (pa_cons (pv 0) (pa_cons (pv 1) pa_nil))))))))))), ?_⟩
    refine ⟨u, rfl, u, rfl, gu.num, fun H1 e1 => ?_⟩
    have hv1 := fm_mono _ _ _ e1 hv
    obtain ⟨r, rfl, hr1⟩ := (gu.ex e1).at_
    refine ⟨.ref r, rfl, r, [.int n.1, .int n.2], rfl, hr1, rfl, .int n.1, [.int n.2], rfl, .int n.2, [], rfl, rfl, ?_⟩
    refine ⟨.int n.1, rfl, rfl, _, rfl, ite2 (fun z => ?_) (fun z => ?_)⟩
    · have e0 : n.1 = 0 := V.int.inj (of_decide_eq_true z)
      exact q true H1 e1 ⟨fun _ => ⟨⟨gu.nb, .inl e0⟩, .inl e0⟩, fun _ => rfl⟩
    · have n0 : n.1 ≠ 0 := fun y => z (decide_eq_true (congrArg V.int y))
      have vf := evf_var (σ := [some v, some (.ref r), some (.int n.1), some (.int n.2)]) (i := 0) rfl hv1
      have bm : Ev (tCall (spBM K C_Form) [] E0 (tCons (tVar 0) (tCons (tVar 1) tNil))) [some v, some (.ref r), some (.int n.1), some (.int n.2)] H1 (.bl (decide (n.1 = 0) || decide (psize n < fm.o))) := fun H2 e2 Q' q' => ⟨v, rfl, .ref r, rfl, v, .ref r, n, fm, rfl, fm_mono _ _ _ e2 hv1, ⟨r, rfl, ex_t e2 hr1⟩, q'⟩
      have bl : Ev (tBits (tVar 2)) [some v, some (.ref r), some (.int n.1), some (.int n.2)] H1 (.int (bt n)) := fun H2 e2 Q' q' => ⟨.int n.1, rfl, n.1, rfl, q' H2 (Ex.refl H2)⟩
      refine o_ret ((ev_andV (ev_op bl (ev_bits S_Form vf) rv_I0) (fun _ => ev_andV (ev_op (ev_var (i := 3) rfl) (ev_least S_Form vf) rv_I0) (fun _ => bm))) H1 (Ex.refl H1) _ fun H2 e2 => q _ H2 (e1.trans e2) ?_)
      rw [decide_eq_false n0, Bool.false_or, Bool.and_eq_true, Bool.and_eq_true, decide_eq_true_iff, decide_eq_true_iff, decide_eq_true_iff]
      constructor
      · rintro ⟨a1, a2, a3⟩
        exact ⟨⟨gu.nb, .inr ⟨a1, a2⟩⟩, .inr a3⟩
      · rintro ⟨⟨_, a⟩, b⟩
        rcases a with a | a
        · exact absurd a n0
        · rcases b with b | b
          · exact absurd b n0
          · exact ⟨a.1, a.2, b⟩
theorem ok_Form_count {f C_Form : Addr} {fd : FuncData} (T : Top mg) (S_Form : FormC K mg C_Form) (F : FunD K "count" "Form.count" (defArgs s_Form_count) (defBody s_Form_count) (defScope s_Form_count) [] [] f fd) : FnOk P w K mg base CX0 1 f fd ["self"] (spCnt K C_Form) := by
  have sc := sc_Form_count
  refine ok0 F sc (fun vs H Q E h => ?_) (fun cdv A outer s H vs Q E hr h => ?_)
  · obtain ⟨v, fm, rfl, _⟩ := h
    rfl
  · obtain ⟨v, fm, rfl, hv, q⟩ := h
    refine ⟨_, (pss_cons (ps_set (i := 1) sc.nd rfl (.inl rfl) (pe_callB (call_min2 rfl) (by rfl) T.min (by decide +kernel) (pa_cons (pe_fld (pv 0) rfl) (pa_cons (pe_op op_sub (pe_fld (pv 0) rfl) (pe_fld (pv 0) rfl)) pa_nil))))
    (pss_cons (ps_set (i := 2) sc.nd rfl (.inl rfl) (pe_op op_sub (pe_op op_sub (pe_fld (pv 0) rfl) (pe_fld (pv 0) rfl)) (pv 1)))
    (pss_cons (ps_set (i := 3) sc.nd rfl (.inl rfl) (pe_op op_add (pe_op op_sub (pe_op op_shlW pe_int (pv 1)) pe_int) (pe_op op_shlW (pv 2) (pe_op op_sub (pe_fld (pv 0) rfl) pe_int))))
    (pss_one (ps_ret (pe_op op_add (pe_op op_mul pe_int (pv 3)) pe_int)))))), ?_⟩
    have ok := fm_ok hv
    have p1 := pl_pos ok
    have p2 : pl fm ≤ 200 := by have := ok.b2; unfold pl; omega
    have b1 := ok.b1
    have b2 := ok.b2
    have l1 := ok.l1
    have o2 := ok.o2
    have vf : ∀ {σ' : L2.St} {H' : Hp}, Ex H H' → σ'[0]? = some (some v) → EvP (FmAt K C_Form fm) (tVar 0) σ' H' := fun e h => evf_var h (fm_mono _ _ _ e hv)
    refine q_asg (ev_is (ev_mn (ev_bits S_Form (vf (Ex.refl H) rfl)) (ev_op (ev_most S_Form (vf (Ex.refl H) rfl)) (ev_least S_Form (vf (Ex.refl H) rfl)) rv_I0)) (w := .int (pl fm)) rfl) fun H1 e1 => ?_
    refine q_asg (ev_op (ev_op (ev_most S_Form (vf e1 rfl)) (ev_least S_Form (vf e1 rfl)) rv_I0) (ev_var (i := 1) rfl) rv_I0) fun H2 e2 => ?_
    have e12 := e1.trans e2
    have c1 : CShl 1 (pl fm) := by
      have z : pl fm = ((pl fm).toNat : Int) := by omega
      rw [z]
      exact shl_ok (i := 1) (n := 1) (by decide) (by omega)
    have dn : 0 ≤ fm.o - fm.l - pl fm := by unfold pl; omega
    have c2 : CShl (fm.o - fm.l - pl fm) (fm.b - 1) := by
      have z : fm.b - 1 = ((fm.b - 1).toNat : Int) := by omega
      rw [z]
      have w20 : (2 : Nat) ^ 20 = 1048576 := by decide
      exact shl_ok (n := 20) (by omega) (by omega)
    refine q_asg (ev_op (ev_op (ev_op ev_c (ev_var (i := 1) rfl) (rv_I c1)) ev_c rv_I0) (ev_op (ev_var (i := 2) rfl) (ev_op (ev_bits S_Form (vf e12 rfl)) ev_c rv_I0) (rv_I c2)) rv_I0) fun H3 e3 => ?_
    refine o_ret ((ev_op (ev_op ev_c (ev_var (i := 3) rfl) (rv_I (.inl ⟨by decide, by decide⟩))) ev_c rv_I0) H3 (Ex.refl H3) _ fun H4 e4 => ?_)
    have := q H4 ((e12.trans e3).trans e4)
    rw [rk_top ok] at this
    rw [Int.one_mul]
    exact this
theorem ok_Form_top {f f1 C_Form : Addr} {fd fd1 : FuncData} (T : Top mg) (S_Form : FormC K mg C_Form) (F : FunD K "top" "Form.top" (defArgs s_Form_top) (defBody s_Form_top) (defScope s_Form_top) [] [] f fd) (c_lowered : Cal P w K mg base CX0 1 "lowered" ["m", "e"] spNof f1 fd1) : FnOk P w K mg base CX0 2 f fd ["self"] (spTop K C_Form) := by
  have sc := sc_Form_top
  refine ok0 F sc (fun vs H Q E h => ?_) (fun cdv A outer s H vs Q E hr h => ?_)
  · obtain ⟨v, fm, rfl, _⟩ := h
    rfl
  · obtain ⟨v, fm, rfl, hv, q⟩ := h
    refine ⟨_, (pss_cons (ps_set (i := 1) sc.nd rfl (.inl rfl) (pe_callB (call_min2 rfl) (by rfl) T.min (by decide +kernel) (pa_cons (pe_fld (pv 0) rfl) (pa_cons (pe_op op_sub (pe_fld (pv 0) rfl) (pe_fld (pv 0) rfl)) pa_nil))))
    (pss_one (ps_ret (pe_call c_lowered.ok (hr.mono (by decide)) (by rfl) c_lowered.m c_lowered.kp c_lowered.b .nil pass0 (pa_cons (pe_op op_sub (pe_op op_shlW pe_int (pv 1)) pe_int) (pa_cons (pe_op op_sub (pe_fld (pv 0) rfl) (pv 1)) pa_nil)))))), ?_⟩
    have ok := fm_ok hv
    have p1 := pl_pos ok
    have p2 : pl fm ≤ 200 := by have := ok.b2; unfold pl; omega
    have vf : ∀ {σ' : L2.St} {H' : Hp}, Ex H H' → σ'[0]? = some (some v) → EvP (FmAt K C_Form fm) (tVar 0) σ' H' := fun e h => evf_var h (fm_mono _ _ _ e hv)
    refine q_asg (ev_is (ev_mn (ev_bits S_Form (vf (Ex.refl H) rfl)) (ev_op (ev_most S_Form (vf (Ex.refl H) rfl)) (ev_least S_Form (vf (Ex.refl H) rfl)) rv_I0)) (w := .int (pl fm)) rfl) fun H1 e1 => ?_
    have c1 : CShl 1 (pl fm) := by
      have z : pl fm = ((pl fm).toNat : Int) := by omega
      rw [z]
      exact shl_ok (i := 1) (n := 1) (by decide) (by omega)
    have es : Ev (tOp (rI0 fun i j => .int (i - j)) (tOp (rI CShl fun i j => .int (i * 2 ^ j.toNat)) (tC (.int 1)) (tVar 1)) (tC (.int 1))) [some v, some (.int (pl fm))] H1 (.int (2 ^ (pl fm).toNat - 1)) := by
      have := ev_op (H := H1) (σ := [some v, some (.int (pl fm))]) (r := rI CShl fun i j => .int (i * 2 ^ j.toNat)) ev_c (ev_var (i := 1) rfl) (rv_I (i := 1) (j := pl fm) c1)
      rw [Int.one_mul] at this
      exact ev_op this ev_c rv_I0
    refine o_ret (es H1 (Ex.refl H1) _ fun H2 e2 => ?_)
    refine (ev_op (r := rI0 fun i j => .int (i - j)) (ev_most S_Form (vf (σ' := [some v, some (.int (pl fm))]) (e1.trans e2) rfl)) (ev_var (i := 1) rfl) rv_I0) H2 (Ex.refl H2) _ fun H3 e3 => ⟨_, _, rfl, fun H4 t e4 _ ht => q H4 (.ref t) (((e1.trans e2).trans e3).trans e4) (numAt_of ht)⟩
theorem ok_Form_above {f f1 f2 f3 f4 f5 C_Form : Addr} {fd fd1 fd2 fd3 fd4 fd5 : FuncData} (T : Top mg) (S_Form : FormC K mg C_Form) (Mt_Form_top : Meth K C_Form "top" f2) (F : FunD K "above" "Form.above" (defArgs s_Form_above) (defBody s_Form_above) (defScope s_Form_above) [] [] f fd) (c_need_number : Cal P w K mg base CX0 2 "need_number" ["thing"] (spNeed K) f1 fd1) (c_Form_top : CalI P w K mg base CX0 2 ["self"] (spTop K C_Form) f2 fd2) (c_compared : Cal P w K mg base CX0 1 "compared" ["one", "other"] (spOrd K) f3 fd3) (c_negated : Cal P w K mg base CX0 1 "negated" ["number"] (spNeg K) f4 fd4) (c_next_above : Cal P w K mg base CX0 4 "next_above" ["form", "number"] (spNext K C_Form nabv) f5 fd5) : FnOk P w K mg base CX0 5 f fd ["self", "number"] (spOptF K C_Form aboveF) := by
  have sc := sc_Form_above
  refine ok0 F sc (fun vs H Q E h => ?_) (fun cdv A outer s H vs Q E hr h => ?_)
  · obtain ⟨v, u, n, fm, rfl, _⟩ := h
    rfl
  · obtain ⟨v, u, n, fm, rfl, hv, gu, q⟩ := h
    refine ⟨_, (pss_cons (ps_expr (pe_call c_need_number.ok (hr.mono (by decide)) (by rfl) c_need_number.m c_need_number.kp c_need_number.b .nil pass0 (pa_cons (pv 1) pa_nil)))
    (pss_cons (ps_set (i := 2) sc.nd rfl (.inl rfl) (pe_meth0 (pv 0) S_Form.cl Mt_Form_top c_Form_top.ok (hr.mono (by decide)) c_Form_top.b .nil pass0))
    (pss_cons (ps_if (pt_cmpR op_ge (pe_call c_compared.ok (hr.mono (by decide)) (by rfl) c_compared.m c_compared.kp c_compared.b .nil pass0 (pa_cons (pv 1) (pa_cons (pv 2) pa_nil))) pe_int (nomark _))
      (pss_one (ps_ret pe_non)) pss_nil)
    (pss_cons (ps_if (pt_cmpR op_lt (pe_call c_compared.ok (hr.mono (by decide)) (by rfl) c_compared.m c_compared.kp c_compared.b .nil pass0 (pa_cons (pv 1) (pa_cons (pe_call c_negated.ok (hr.mono (by decide)) (by rfl) c_negated.m c_negated.kp c_negated.b .nil pass0 (pa_cons (pv 2) pa_nil)) pa_nil))) pe_int (nomark _))
      (pss_one (ps_ret (pe_call c_negated.ok (hr.mono (by decide)) (by rfl) c_negated.m c_negated.kp c_negated.b .nil pass0 (pa_cons (pv 2) pa_nil)))) pss_nil)
    (pss_one (ps_ret (pe_call c_next_above.ok (hr.mono (by decide)) (by rfl) c_next_above.m c_next_above.kp c_next_above.b .nil pass0 (pa_cons (pv 0) (pa_cons (pv 1) pa_nil))))))))), ?_⟩
    have ok := fm_ok hv
    refine ⟨u, rfl, u, rfl, gu.num, fun H1 e1 => ?_⟩
    have hv1 := fm_mono _ _ _ e1 hv
    obtain ⟨x, dx, rfl, hx, _⟩ := id hv1
    refine ⟨.ref x, rfl, x, dx, _, rfl, hx, rfl, .ref x, fm, rfl, hv1, fun H2 t e2 ht => ?_⟩
    have e12 := e1.trans e2
    have hv2 := fm_mono _ _ _ e12 hv
    have gt : Gn K H2 t (topF fm) 500 := ⟨ht, nrm_num _ _, has_bd ok (top_has ok)⟩
    have gu2 := gu.ex e12
    unfold aboveF at q
    refine q_when (et_test (ev_op (ev_ord (evn_var (i := 1) rfl gu2) (evn_var (i := 2) rfl gt)) ev_c rv_I0)) (fun z H3 e3 => ?_) (fun z H3 e3 => ?_)
    · rw [if_pos (of_decide_eq_true z)] at q
      exact q H3 .non (e12.trans e3) rfl
    rw [if_neg (of_decide_eq_false z)] at q
    have e13 := e12.trans e3
    refine q_when (et_test (ev_op (ev_ord (evn_var (i := 1) rfl (gu2.ex e3)) (evn_neg (evn_var (i := 2) rfl (gt.ex e3)))) ev_c rv_I0)) (fun z H4 e4 => ?_) (fun z H4 e4 => ?_)
    · rw [if_pos (of_decide_eq_true z)] at q
      exact o_ret ((evn_neg (evn_var (i := 2) rfl ((gt.ex e3).ex e4))) H4 (Ex.refl H4) _ fun w H5 e5 g5 => q H5 w ((e13.trans e4).trans e5) g5.at_)
    rw [if_neg (of_decide_eq_false z)] at q
    have e14 := e13.trans e4
    have gu4 := gu.ex e14
    have hv4 := fm_mono _ _ _ e14 hv
    have q' : ∀ (H' : Hp) (z : V), Ex H H' → OptAt K H' z (some (nabv fm n)) → Q z H' := by
      unfold nabv
      split at q
      · rename_i z; rw [if_pos z]; exact q
      · rename_i z; rw [if_neg z]; exact q
    exact ⟨.ref x, rfl, u, rfl, .ref x, u, n, fm, rfl, hv4, gu4.at_, gu.bd, fun H6 y e6 hy => q' H6 y (e14.trans e6) hy⟩
theorem ok_Form_below {f f1 f2 f3 C_Form : Addr} {fd fd1 fd2 fd3 : FuncData} (T : Top mg) (S_Form : FormC K mg C_Form) (Mt_Form_above : Meth K C_Form "above" f2) (F : FunD K "below" "Form.below" (defArgs s_Form_below) (defBody s_Form_below) (defScope s_Form_below) [] [] f fd) (c_need_number : Cal P w K mg base CX0 2 "need_number" ["thing"] (spNeed K) f1 fd1) (c_Form_above : CalI P w K mg base CX0 5 ["self", "number"] (spOptF K C_Form aboveF) f2 fd2) (c_negated : Cal P w K mg base CX0 1 "negated" ["number"] (spNeg K) f3 fd3) : FnOk P w K mg base CX0 6 f fd ["self", "number"] (spOptF K C_Form belowF) := by
  have sc := sc_Form_below
  refine ok0 F sc (fun vs H Q E h => ?_) (fun cdv A outer s H vs Q E hr h => ?_)
  · obtain ⟨v, u, n, fm, rfl, _⟩ := h
    rfl
  · obtain ⟨v, u, n, fm, rfl, hv, gu, q⟩ := h
    refine ⟨_, (pss_cons (ps_expr (pe_call c_need_number.ok (hr.mono (by decide)) (by rfl) c_need_number.m c_need_number.kp c_need_number.b .nil pass0 (pa_cons (pv 1) pa_nil)))
    (pss_cons (ps_set (i := 2) sc.nd rfl (.inl rfl) (pe_meth (pv 0) S_Form.cl Mt_Form_above c_Form_above.ok (hr.mono (by decide)) c_Form_above.b .nil pass0 (pa_cons (pe_call c_negated.ok (hr.mono (by decide)) (by rfl) c_negated.m c_negated.kp c_negated.b .nil pass0 (pa_cons (pv 1) pa_nil)) pa_nil)))
    (pss_one (ps_ret (pe_ifExp (pt_cmpR op_isN (pv 2) pe_non (nomark _)) pe_non (pe_call c_negated.ok (hr.mono (by decide)) (by rfl) c_negated.m c_negated.kp c_negated.b .nil pass0 (pa_cons (pv 2) pa_nil))))))), ?_⟩
    refine ⟨u, rfl, u, rfl, gu.num, fun H1 e1 => ?_⟩
    have hv1 := fm_mono _ _ _ e1 hv
    obtain ⟨x, dx, rfl, hx, _⟩ := id hv1
    refine ⟨.ref x, rfl, x, dx, _, rfl, hx, rfl, u, rfl, u, n, rfl, (gu.ex e1).at_, fun H2 r e2 _ hr2 => ?_⟩
    refine ⟨.ref x, .ref r, pneg n, fm, rfl, fm_mono _ _ _ e2 hv1, ⟨numAt_of hr2, num_neg gu.nb, bd_neg gu.bd⟩, fun H3 y e3 hy => ?_⟩
    have e13 := (e1.trans e2).trans e3
    unfold belowF at q
    refine ⟨y, rfl, rfl, _, rfl, ?_⟩
    cases ha : aboveF fm (pneg n) with
    | none =>
      rw [ha] at hy q
      rw [show y = .non from hy]
      exact iteT (q H3 .non e13 rfl)
    | some m =>
      rw [ha] at hy q
      have hne : decide (y = V.non) = false := by
        obtain ⟨b, rfl, _⟩ := hy
        rfl
      rw [hne]
      exact iteF ⟨y, rfl, y, m, rfl, hy, fun H4 r4 e4 _ hr4 => q H4 (.ref r4) (e13.trans e4) (numAt_of hr4)⟩
theorem ok_Form_step {f f1 f2 C_Form : Addr} {fd fd1 fd2 : FuncData} (T : Top mg) (S_Form : FormC K mg C_Form) (F : FunD K "step" "Form.step" (defArgs s_Form_step) (defBody s_Form_step) (defScope s_Form_step) [] [] f fd) (c_need_number : Cal P w K mg base CX0 2 "need_number" ["thing"] (spNeed K) f1 fd1) (c_step_power_of : Cal P w K mg base CX0 2 "step_power_of" ["form", "number"] (spSPO K C_Form) f2 fd2) : FnOk P w K mg base CX0 3 f fd ["self", "number"] (spStep K C_Form) := by
  have sc := sc_Form_step
  refine ok0 F sc (fun vs H Q E h => ?_) (fun cdv A outer s H vs Q E hr h => ?_)
  · obtain ⟨v, u, n, fm, rfl, _⟩ := h
    rfl
  · obtain ⟨v, u, n, fm, rfl, hv, gu, q⟩ := h
    refine ⟨_, (pss_cons (ps_expr (pe_call c_need_number.ok (hr.mono (by decide)) (by rfl) c_need_number.m c_need_number.kp c_need_number.b .nil pass0 (pa_cons (pv 1) pa_nil)))
    (pss_one (ps_ret (pe_tup (pa_cons pe_int (pa_cons (pe_call c_step_power_of.ok (hr.mono (by decide)) (by rfl) c_step_power_of.m c_step_power_of.kp c_step_power_of.b .nil pass0 (pa_cons (pv 0) (pa_cons (pv 1) pa_nil))) pa_nil)))))), ?_⟩
    refine ⟨u, rfl, u, rfl, gu.num, fun H1 e1 => ?_⟩
    refine ⟨v, rfl, u, rfl, v, u, n, fm, rfl, fm_mono _ _ _ e1 hv, (gu.ex e1).at_, fun H2 e2 => ⟨by show 2 ≤ sizeLine; decide, fun p hp => q _ (.ref p) ((e1.trans e2).trans (Ex.new hp)) (numAt_of upd_same)⟩⟩
theorem ok_law_minus {f f1 : Addr} {fd fd1 : FuncData} (T : Top mg) (F : FnP K "_law_minus" s_law_minus f fd) (c_times : Cal P w K mg base CX0 3 "times" ["one", "other"] (spTwo K pmul) f1 fd1) : FnOk P w K mg base CX0 4 f fd ["_law_value"] (spMin K) := by
  have sc := sc_law_minus
  refine ok0 F sc (fun vs H Q E h => ?_) (fun cdv A outer s H vs Q E hr h => ?_)
  · obtain ⟨v, n, rfl, _⟩ := h
    rfl
  · obtain ⟨v, n, rfl, g, q⟩ := h
    refine ⟨_, (pss_one (ps_ret (pe_call c_times.ok (hr.mono (by decide)) (by rfl) c_times.m c_times.kp c_times.b .nil pass0 (pa_cons (pv 0) (pa_cons (pe_tup (pa_cons (pe_un un_neg pe_int) (pa_cons pe_int pa_nil))) pa_nil))))), ?_⟩
    refine o_ret ((evn_times (evn_var (i := 0) rfl g) (evn_lit (B := 10) (m := -1) (e := 0) (ev_un ev_c ru_neg) ev_c (by decide) ⟨by decide +kernel, by decide⟩) (by decide)) H (Ex.refl H) _ fun z H1 e1 hz => q H1 z e1 ?_)
    rw [← mul_neg1 g.nb]
    exact hz.at_
theorem ok_law_good {f f1 f2 f3 f4 f5 f6 f7 f8 C_Form : Addr} {fd fd1 fd2 fd3 fd4 fd5 fd6 fd7 fd8 : FuncData} (T : Top mg) (S_Form : FormC K mg C_Form) (Mt_Form_above : Meth K C_Form "above" f1) (Mt_Form_below : Meth K C_Form "below" f2) (Mt_Form_has : Meth K C_Form "has" f3) (Mt_Form_top : Meth K C_Form "top" f4) (Mt_Form_step : Meth K C_Form "step" f5) (F : FnP K "_law_good" s_law_good f fd)
    (c_Form_above : CalI P w K mg base CX0 5 ["self", "number"] (spOptF K C_Form aboveF) f1 fd1) (c_Form_below : CalI P w K mg base CX0 6 ["self", "number"] (spOptF K C_Form belowF) f2 fd2) (c_Form_has : CalI P w K mg base CX0 3 ["self", "number"] (spHas K C_Form) f3 fd3) (c_Form_top : CalI P w K mg base CX0 2 ["self"] (spTop K C_Form) f4 fd4) (c_Form_step : CalI P w K mg base CX0 3 ["self", "number"] (spStep K C_Form) f5 fd5)
    (c_order_of : Cal P w K mg base CX0 3 "order_of" ["one", "other"] (spOrd K) f6 fd6) (c_plus : Cal P w K mg base CX0 3 "plus" ["one", "other"] (spTwo K padd) f7 fd7) (c_law_minus : Cal P w K mg base CX0 4 "_law_minus" ["_law_value"] (spMin K) f8 fd8) : FnOk P w K mg base CX0 7 f fd ["_law_made", "_law_wider", "_law_value"] (spGoodF K C_Form) := by
  have sc := sc_law_good
  refine ok0 F sc (fun vs H Q E h => ?_) (fun cdv A outer s H vs Q E hr h => ?_)
  · obtain ⟨v, v2, u, n, fm, rfl, _⟩ := h
    rfl
  · obtain ⟨v, v2, u, n, fm, rfl, hv, hw, gu, q⟩ := h
    refine ⟨_, (pss_cons (ps_set (i := 3) sc.nd rfl (.inl rfl) (pe_meth (pv 0) S_Form.cl Mt_Form_above c_Form_above.ok (hr.mono (by decide)) c_Form_above.b .nil pass0 (pa_cons (pv 2) pa_nil)))
    (pss_cons (ps_set (i := 4) sc.nd rfl (.inl rfl) (pe_meth (pv 0) S_Form.cl Mt_Form_below c_Form_below.ok (hr.mono (by decide)) c_Form_below.b .nil pass0 (pa_cons (pv 2) pa_nil)))
    (pss_cons (ps_set (i := 5) sc.nd rfl (.inl rfl) (pe_meth (pv 0) S_Form.cl Mt_Form_has c_Form_has.ok (hr.mono (by decide)) c_Form_has.b .nil pass0 (pa_cons (pv 2) pa_nil)))
    (pss_cons (ps_if (pt_cmpR op_isN (pv 3) pe_non (nomark _))
      (pss_one (ps_ret (pe_and (pe_cmpR op_ge (pe_call c_order_of.ok (hr.mono (by decide)) (by rfl) c_order_of.m c_order_of.kp c_order_of.b .nil pass0 (pa_cons (pv 2) (pa_cons (pe_meth0 (pv 0) S_Form.cl Mt_Form_top c_Form_top.ok (hr.mono (by decide)) c_Form_top.b .nil pass0) pa_nil))) pe_int (nomark _)) (pe_one (pe_or (pe_cmpR (op_eqD hr.units) (pv 4) (pe_meth0 (pv 0) S_Form.cl Mt_Form_top c_Form_top.ok (hr.mono (by decide)) c_Form_top.b .nil pass0) (nomark _)) (pe_one (pe_cmpR (op_eqD hr.units) (pv 2) (pe_meth0 (pv 0) S_Form.cl Mt_Form_top c_Form_top.ok (hr.mono (by decide)) c_Form_top.b .nil pass0) (nomark _)))))))) pss_nil)
    (pss_cons (ps_if (PW.pt (pw_or (pt_cmpR op_ne (pe_call c_order_of.ok (hr.mono (by decide)) (by rfl) c_order_of.m c_order_of.kp c_order_of.b .nil pass0 (pa_cons (pv 3) (pa_cons (pv 2) pa_nil))) pe_int (nomark _)) (pw_or (pt_not (pt_val (pe_meth (pv 0) S_Form.cl Mt_Form_has c_Form_has.ok (hr.mono (by decide)) c_Form_has.b .nil pass0 (pa_cons (pv 3) pa_nil)))) (pw_or1 (pt_not (pt_val (pe_meth (pv 1) S_Form.cl Mt_Form_has c_Form_has.ok (hr.mono (by decide)) c_Form_has.b .nil pass0 (pa_cons (pv 3) pa_nil))))))))
      (pss_one (ps_ret pe_bl)) pss_nil)
    (pss_cons (ps_set (i := 6) sc.nd rfl (.inl rfl) (pe_meth (pv 0) S_Form.cl Mt_Form_below c_Form_below.ok (hr.mono (by decide)) c_Form_below.b .nil pass0 (pa_cons (pv 3) pa_nil)))
    (pss_cons (ps_if (PW.pt (pw_or (PW.pt (pw_and (pt_val (pv 5)) (pw_and1 (pt_cmpR (op_neD hr.units) (pv 6) (pv 2) (nomark _))))) (pw_or1 (PW.pt (pw_and (pt_not (pt_val (pv 5))) (pw_and1 (pt_cmpR (op_neD hr.units) (pv 6) (pv 4) (nomark _))))))))
      (pss_one (ps_ret pe_bl)) pss_nil)
    (pss_cons (ps_if (PW.pt (pw_or (pt_cmpR (op_neD hr.units) (pe_meth (pv 0) S_Form.cl Mt_Form_below c_Form_below.ok (hr.mono (by decide)) c_Form_below.b .nil pass0 (pa_cons (pe_call c_law_minus.ok (hr.mono (by decide)) (by rfl) c_law_minus.m c_law_minus.kp c_law_minus.b .nil pass0 (pa_cons (pv 2) pa_nil)) pa_nil)) (pe_call c_law_minus.ok (hr.mono (by decide)) (by rfl) c_law_minus.m c_law_minus.kp c_law_minus.b .nil pass0 (pa_cons (pv 3) pa_nil)) (nomark _)) (pw_or1 (pt_cmpR (op_neD hr.units) (pe_meth (pv 0) S_Form.cl Mt_Form_step c_Form_step.ok (hr.mono (by decide)) c_Form_step.b .nil pass0 (pa_cons (pv 2) pa_nil)) (pe_meth (pv 0) S_Form.cl Mt_Form_step c_Form_step.ok (hr.mono (by decide)) c_Form_step.b .nil pass0 (pa_cons (pe_call c_law_minus.ok (hr.mono (by decide)) (by rfl) c_law_minus.m c_law_minus.kp c_law_minus.b .nil pass0 (pa_cons (pv 2) pa_nil)) pa_nil)) (nomark _)))))
      (pss_one (ps_ret pe_bl)) pss_nil)
    (pss_cons (ps_if (pt_cmpR op_isN (pv 4) pe_non (nomark _))
      (pss_one (ps_ret (pe_or (pe_cmpR (op_eqD hr.units) (pv 3) (pe_call c_law_minus.ok (hr.mono (by decide)) (by rfl) c_law_minus.m c_law_minus.kp c_law_minus.b .nil pass0 (pa_cons (pe_meth0 (pv 0) S_Form.cl Mt_Form_top c_Form_top.ok (hr.mono (by decide)) c_Form_top.b .nil pass0) pa_nil)) (nomark _)) (pe_one (pe_cmpR (op_eqD hr.units) (pv 2) (pe_call c_law_minus.ok (hr.mono (by decide)) (by rfl) c_law_minus.m c_law_minus.kp c_law_minus.b .nil pass0 (pa_cons (pe_meth0 (pv 0) S_Form.cl Mt_Form_top c_Form_top.ok (hr.mono (by decide)) c_Form_top.b .nil pass0) pa_nil)) (nomark _)))))) pss_nil)
    (pss_cons (ps_if (PW.pt (pw_or (pt_cmpR op_ne (pe_call c_order_of.ok (hr.mono (by decide)) (by rfl) c_order_of.m c_order_of.kp c_order_of.b .nil pass0 (pa_cons (pv 4) (pa_cons (pv 2) pa_nil))) (pe_un un_neg pe_int) (nomark _)) (pw_or (pt_not (pt_val (pe_meth (pv 0) S_Form.cl Mt_Form_has c_Form_has.ok (hr.mono (by decide)) c_Form_has.b .nil pass0 (pa_cons (pv 4) pa_nil)))) (pw_or1 (pt_cmpR (op_neD hr.units) (pe_meth (pv 0) S_Form.cl Mt_Form_above c_Form_above.ok (hr.mono (by decide)) c_Form_above.b .nil pass0 (pa_cons (pe_call c_law_minus.ok (hr.mono (by decide)) (by rfl) c_law_minus.m c_law_minus.kp c_law_minus.b .nil pass0 (pa_cons (pv 2) pa_nil)) pa_nil)) (pe_call c_law_minus.ok (hr.mono (by decide)) (by rfl) c_law_minus.m c_law_minus.kp c_law_minus.b .nil pass0 (pa_cons (pv 4) pa_nil)) (nomark _))))))
      (pss_one (ps_ret pe_bl)) pss_nil)
    (pss_cons (ps_if (pt_val (pv 5))
      (pss_one (ps_ret (pe_and (pe_cmpR (op_eqD hr.units) (pe_meth (pv 0) S_Form.cl Mt_Form_above c_Form_above.ok (hr.mono (by decide)) c_Form_above.b .nil pass0 (pa_cons (pv 4) pa_nil)) (pv 2) (nomark _)) (pe_one (pe_cmpR op_le (pe_call c_order_of.ok (hr.mono (by decide)) (by rfl) c_order_of.m c_order_of.kp c_order_of.b .nil pass0 (pa_cons (pv 3) (pa_cons (pe_call c_plus.ok (hr.mono (by decide)) (by rfl) c_plus.m c_plus.kp c_plus.b .nil pass0 (pa_cons (pv 2) (pa_cons (pe_meth (pv 0) S_Form.cl Mt_Form_step c_Form_step.ok (hr.mono (by decide)) c_Form_step.b .nil pass0 (pa_cons (pv 2) pa_nil)) pa_nil))) pa_nil))) pe_int (nomark _)))))) pss_nil)
    (pss_one (ps_ret (pe_and (pe_cmpR (op_eqD hr.units) (pe_meth (pv 0) S_Form.cl Mt_Form_above c_Form_above.ok (hr.mono (by decide)) c_Form_above.b .nil pass0 (pa_cons (pv 4) pa_nil)) (pv 3) (nomark _)) (pe_one (pe_cmpR op_le (pe_call c_order_of.ok (hr.mono (by decide)) (by rfl) c_order_of.m c_order_of.kp c_order_of.b .nil pass0 (pa_cons (pv 3) (pa_cons (pe_call c_plus.ok (hr.mono (by decide)) (by rfl) c_plus.m c_plus.kp c_plus.b .nil pass0 (pa_cons (pv 4) (pa_cons (pe_meth (pv 0) S_Form.cl Mt_Form_step c_Form_step.ok (hr.mono (by decide)) c_Form_step.b .nil pass0 (pa_cons (pv 2) pa_nil)) pa_nil))) pa_nil))) pe_int (nomark _))))))))))))))))), ?_⟩
    have ok := fm_ok hv
    have hn := gu.nb
    have vf : ∀ {σ' : L2.St} {H' : Hp}, Ex H H' → σ'[0]? = some (some v) → EvP (FmAt K C_Form fm) (tVar 0) σ' H' := fun e h => evf_var h (fm_mono _ _ _ e hv)
    have vw : ∀ {σ' : L2.St} {H' : Hp}, Ex H H' → σ'[1]? = some (some v2) → EvP (FmAt K C_Form (wid fm)) (tVar 1) σ' H' := fun e h => evf_var h (fm_mono _ _ _ e hw)
    have vn : ∀ {σ' : L2.St} {H' : Hp}, Ex H H' → σ'[2]? = some (some u) → EvN K (tVar 2) σ' H' n 3000 := fun e h => evn_var h (gu.ex e)
    refine q_asgP (evo_meth (g := aboveF) rfl (vf (Ex.refl H) rfl) (vn (Ex.refl H) rfl) (Nat.le_refl _)) fun y3 H1 e1 h3 => ?_
    refine q_asgP (evo_meth (g := belowF) rfl (vf e1 rfl) (vn e1 rfl) (Nat.le_refl _)) fun y4 H2 e2 h4 => ?_
    have e12 := e1.trans e2
    refine q_asg (ev_has (vf e12 rfl) (vn e12 rfl) (Nat.le_refl _)) fun H3 e3 => ?_
    have e13 := e12.trans e3
    have h3 := optAt_ex (e2.trans e3) h3
    have h4 := optAt_ex e3 h4
    clear e1 e2 e3 e12
    have v4 : ∀ {σ' : L2.St} {H' : Hp}, Ex H3 H' → σ'[4]? = some (some y4) → EvO K (tVar 4) σ' H' (belowF fm n) := fun e h => evo_var h (optAt_ex e h4)
    cases ha : aboveF fm n with
    | none =>
      rw [ha] at h3
      have e0 : y3 = .non := h3
      subst e0
      refine q_when (b := true) (et_is (et_test (ev_op (ev_var (i := 3) rfl) ev_c (fun H1 _ _ q => ⟨rfl, q H1 (Ex.refl H1)⟩))) rfl) (fun _ H4 e4 => ?_) (fun z => by cases z)
      have e14 := e13.trans e4
      refine o_ret ((ev_is (ev_andV (ev_op (ev_ord (vn e14 rfl) (evn_top (vf e14 rfl))) ev_c rv_I0) (fun _ => ev_orV (evo_eq (v4 e4 rfl) (evo_of (evn_top (vf e14 rfl)))) (fun _ => evo_eq (evo_of (vn e14 rfl)) (evo_of (evn_top (vf e14 rfl)))))) (w := .bl true) ?_) H4 (Ex.refl H4) _ fun H5 e5 => q H5 (e14.trans e5))
      have a1 := above_none ha
      have a2 : (decide (belowF fm n = some (topF fm)) || decide (some n = some (topF fm))) = true := by
        rcases above_top ok hn ha with z | z
        · rw [decide_eq_true z]
          rfl
        · rw [decide_eq_true (congrArg some z), Bool.or_true]
      rw [a2, Bool.and_true]
      exact congrArg V.bl (decide_eq_true a1)
    | some m =>
      rw [ha] at h3
      have U := above_up ok hn ha
      have gm : Gn K H3 y3 m 500 := ⟨h3, U.has.1.1, has_bd ok U.has⟩
      have v3 : ∀ {σ' : L2.St} {H' : Hp}, Ex H3 H' → σ'[3]? = some (some y3) → EvN K (tVar 3) σ' H' m 500 := fun e h => evn_var h (gm.ex e)
      have nn : decide (y3 = V.non) = false := by
        obtain ⟨b, rfl, _⟩ := h3
        rfl
      refine q_pass (et_is (et_test (ev_op (ev_var (i := 3) rfl) ev_c (fun H1 _ _ q => ⟨rfl, q H1 (Ex.refl H1)⟩))) nn) fun H4 e4 => ?_
      have e14 := e13.trans e4
      refine q_pass (et_is (et_or (et_test (ev_op (ev_ord (v3 e4 rfl) (vn e14 rfl)) ev_c (rv_ne rfl))) (fun _ => et_or (et_not (et_B (ev_has (vf e14 rfl) (v3 e4 rfl) (by decide)))) (fun _ => et_not (et_B (ev_has (vw e14 rfl) (v3 e4 rfl) (by decide)))))) ?_) fun H5 e5 => ?_
      · rw [(lt_one U.gt).2, decide_eq_true U.has, decide_eq_true (has_wid U.has)]
        rfl
      have e15 := e14.trans e5
      have e35 := e4.trans e5
      refine q_asgP (evo_meth (g := belowF) rfl (vf e15 rfl) (v3 e35 rfl) (by decide)) fun y6 H6 e6 h6 => ?_
      have e16 := e15.trans e6
      have e36 := e35.trans e6
      have bk : (decide (Has fm n) && !decide (belowF fm m = some n) || !decide (Has fm n) && !decide (belowF fm m = belowF fm n)) = false := by
        by_cases z : Has fm n
        · rw [decide_eq_true z, decide_eq_true (below_eq ok U.has.1.1 (back_in z U))]
          rfl
        · rw [decide_eq_false z, decide_eq_true (back_all ok hn z ha)]
          rfl
      refine q_pass (et_is (et_or (et_and (et_B (ev_var (i := 5) rfl)) (fun _ => et_test (evo_ne (evo_var (i := 6) rfl h6) (evo_of (vn e16 rfl))))) (fun _ => et_and (et_not (et_B (ev_var (i := 5) rfl))) (fun _ => et_test (evo_ne (evo_var (i := 6) rfl h6) (v4 e36 rfl))))) bk) fun H7 e7 => ?_
      have e17 := e16.trans e7
      have e37 := e36.trans e7
      refine q_pass (et_is (et_or (evt_neO (evo_meth (g := belowF) rfl (vf e17 rfl) (evn_minus (vn e17 rfl) (Nat.le_refl _)) (Nat.le_refl _)) (evo_of (evn_minus (v3 e37 rfl) (by decide))) (below_neg ha)) (fun _ => evt_same (evn_step (vf e17 rfl) (vn e17 rfl) (Nat.le_refl _)) (evn_step (vf e17 rfl) (evn_minus (vn e17 rfl) (Nat.le_refl _)) (Nat.le_refl _)) (by unfold stepF; rw [sp_neg]))) rfl) fun H8 e8 => ?_
      have e18 := e17.trans e8
      have e38 := e37.trans e8
      cases hb : belowF fm n with
      | none =>
        rw [hb] at h4
        have e0 : y4 = .non := h4
        subst e0
        refine q_when (b := true) (et_is (et_test (ev_op (ev_var (i := 4) rfl) ev_c (fun H1 _ _ q => ⟨rfl, q H1 (Ex.refl H1)⟩))) rfl) (fun _ H9 e9 => ?_) (fun z => by cases z)
        have e19 := e18.trans e9
        have e39 := e38.trans e9
        refine o_ret ((ev_is (ev_orV (evo_eq (evo_of (v3 e39 rfl)) (evo_of (evn_minus (evn_top (vf e19 rfl)) (by decide)))) (fun _ => evo_eq (evo_of (vn e19 rfl)) (evo_of (evn_minus (evn_top (vf e19 rfl)) (by decide))))) (w := .bl true) ?_) H9 (Ex.refl H9) _ fun H5 e5 => q H5 (e19.trans e5))
        rcases below_top ok hn hb with z | z
        · rw [← ha, decide_eq_true z]
          rfl
        · rw [decide_eq_true (congrArg some z), Bool.or_true]
      | some d =>
        rw [hb] at h4
        have Dd := below_dn ok hn hb
        have gd : Gn K H3 y4 d 500 := ⟨h4, Dd.has.1.1, has_bd ok Dd.has⟩
        have w4 : ∀ {σ' : L2.St} {H' : Hp}, Ex H3 H' → σ'[4]? = some (some y4) → EvN K (tVar 4) σ' H' d 500 := fun e h => evn_var h (gd.ex e)
        have nn : decide (y4 = V.non) = false := by
          obtain ⟨b, rfl, _⟩ := h4
          rfl
        refine q_pass (et_is (et_test (ev_op (ev_var (i := 4) rfl) ev_c (fun H1 _ _ q => ⟨rfl, q H1 (Ex.refl H1)⟩))) nn) fun H9 e9 => ?_
        have e19 := e18.trans e9
        have e39 := e38.trans e9
        refine q_pass (et_is (et_or (et_test (ev_op (ev_ord (w4 e39 rfl) (vn e19 rfl)) (ev_un ev_c ru_neg) (rv_ne rfl))) (fun _ => et_or (et_not (et_B (ev_has (vf e19 rfl) (w4 e39 rfl) (by decide)))) (fun _ => evt_neO (evo_meth (g := aboveF) rfl (vf e19 rfl) (evn_minus (vn e19 rfl) (Nat.le_refl _)) (Nat.le_refl _)) (evo_of (evn_minus (w4 e39 rfl) (by decide))) (above_neg hb)))) ?_) fun H10 e10 => ?_
        · rw [(lt_one Dd.lt).1, decide_eq_true Dd.has]
          rfl
        have e110 := e19.trans e10
        have e310 := e39.trans e10
        refine q_when (et_B (ev_var (i := 5) rfl)) (fun z H11 e11 => ?_) (fun z H11 e11 => ?_)
        · have hh : Has fm n := of_decide_eq_true z
          have e111 := e110.trans e11
          have e311 := e310.trans e11
          refine o_ret ((ev_is (ev_andV (evo_eq (evo_meth (g := aboveF) rfl (vf e111 rfl) (w4 e311 rfl) (by decide)) (evo_of (vn e111 rfl))) (fun _ => ev_op (ev_ord (v3 e311 rfl) (evn_plus (vn e111 rfl) (evn_step (vf e111 rfl) (vn e111 rfl) (Nat.le_refl _)))) ev_c rv_I0)) (w := .bl true) ?_) H11 (Ex.refl H11) _ fun H5 e5 => q H5 (e111.trans e5))
          rw [decide_eq_true (above_eq ok Dd.has.1.1 (fwd_in hh Dd)), decide_eq_true (step_in ok hh ha)]
          rfl
        · have hh : ¬ Has fm n := of_decide_eq_false z
          have e111 := e110.trans e11
          have e311 := e310.trans e11
          refine o_ret ((ev_is (ev_andV (evo_eq (evo_meth (g := aboveF) rfl (vf e111 rfl) (w4 e311 rfl) (by decide)) (evo_of (v3 e311 rfl))) (fun _ => ev_op (ev_ord (v3 e311 rfl) (evn_plus (w4 e311 rfl) (evn_step (vf e111 rfl) (vn e111 rfl) (Nat.le_refl _)))) ev_c rv_I0)) (w := .bl true) ?_) H11 (Ex.refl H11) _ fun H5 e5 => q H5 (e111.trans e5))
          rw [decide_eq_true (above_eq ok Dd.has.1.1 (fwd_out hn hh U Dd)), decide_eq_true (step_out ok hn hh ha hb)]
          rfl
theorem ok_law_mixed {f : Addr} {fd : FuncData} (T : Top mg) (F : FnP K "_law_mixed" s_law_mixed f fd) : FnOk P w K mg base CX0 1 f fd ["_law_cell_here", "_law_k"] spMix := by
  have sc := sc_law_mixed
  refine ok0 F sc (fun vs H Q E h => ?_) (fun cdv A outer s H vs Q E hr h => ?_)
  · obtain ⟨a, k, rfl, _⟩ := h
    rfl
  · obtain ⟨a, k, rfl, q⟩ := h
    refine ⟨_, (pss_cons (ps_set (i := 2) sc.nd rfl (.inl rfl) (pe_op op_mod (pe_op op_add (pe_op op_add (pe_op op_mul (pe_op op_mod (pv 0) pe_int) pe_int) (pe_op op_mul (pv 1) pe_int)) pe_int) pe_int))
    (pss_cons (ps_set (i := 2) sc.nd rfl (.inl rfl) (pe_op op_mod (pe_op op_mul (pv 2) (pv 2)) pe_int))
    (pss_one (ps_ret (pe_op op_mod (pe_op op_mul (pv 2) (pe_op op_add (pv 2) pe_int)) pe_int))))), ?_⟩
    have b1 : ∀ z : Int, 0 ≤ z % 2147483629 ∧ z % 2147483629 < 2147483629 := fun z => ⟨Int.emod_nonneg z (by decide), Int.emod_lt_of_pos z (by decide)⟩
    have b2 : ∀ z : Int, 0 ≤ z % 2147483587 ∧ z % 2147483587 < 2147483587 := fun z => ⟨Int.emod_nonneg z (by decide), Int.emod_lt_of_pos z (by decide)⟩
    refine ⟨.int a, rfl, a, 2147483647, rfl, rfl, by show (0 : Int) < _; decide, _, 48271, rfl, rfl, .inr ⟨by decide, by decide⟩, .int k, rfl, k, 69621, rfl, rfl, .inr ⟨by decide, by decide⟩, _, _, rfl, rfl, _, 1048583, rfl, rfl, _, 2147483629, rfl, rfl, by show (0 : Int) < _; decide, ?_⟩
    refine ⟨_, rfl, _, rfl, _, _, rfl, rfl, .inl ⟨?_, ?_⟩, _, 2147483587, rfl, rfl, by show (0 : Int) < _; decide, ?_⟩
    · have := b1 (a % 2147483647 * 48271 + k * 69621 + 1048583)
      omega
    · have := b1 (a % 2147483647 * 48271 + k * 69621 + 1048583)
      omega
    · refine ⟨_, rfl, _, rfl, _, 2, rfl, rfl, _, _, rfl, rfl, .inl ⟨?_, ?_⟩, _, 2147483579, rfl, rfl, by show (0 : Int) < _; decide, q _⟩
      · have := b2 ((a % 2147483647 * 48271 + k * 69621 + 1048583) % 2147483629 * ((a % 2147483647 * 48271 + k * 69621 + 1048583) % 2147483629))
        omega
      · have := b2 ((a % 2147483647 * 48271 + k * 69621 + 1048583) % 2147483629 * ((a % 2147483647 * 48271 + k * 69621 + 1048583) % 2147483629))
        omega
theorem ok_law_cell {f f1 : Addr} {fd fd1 : FuncData} (T : Top mg) (F : FnP K "_law_cell" s_law_cell f fd) (c_law_mixed : Cal P w K mg base CX0 1 "_law_mixed" ["_law_cell_here", "_law_k"] spMix f1 fd1) : FnOk P w K mg base CX0 2 f fd ["_law_script", "_law_k"] (spCel K) := by
  have sc := sc_law_cell
  refine ok0 F sc (fun vs H Q E h => ?_) (fun cdv A outer s H vs Q E hr h => ?_)
  · obtain ⟨a, ns, k, rfl, _⟩ := h
    rfl
  · obtain ⟨a, ns, k, rfl, hS, h0, h1, q⟩ := h
    refine ⟨_, (pss_cons (ps_set (i := 2) sc.nd rfl (.inl rfl) pe_int)
    (pss_cut (ps_if (pt_cmpR op_lt (pv 1) (pe_callB call_len (by rfl) T.len (by decide +kernel) (pa_cons (pv 0) pa_nil)) (nomark _))
      (pss_one (ps_set (i := 2) sc.nd rfl (.inl rfl) (pe_ix ix_list (pv 0) (pv 1) (fun _ _ => rfl)))) pss_nil)
    (pss_cons (ps_if (pt_cmpR op_ge (pv 2) (pe_op op_pow pe_int pe_int) (nomark _))
      (pss_one (ps_ret (pe_op op_mod (pe_op op_sub (pv 2) (pe_op op_pow pe_int pe_int)) (pe_op op_mulX (pe_op op_mulX (pe_op op_mulX (pe_op op_pow pe_int pe_int) (pe_op op_pow pe_int pe_int)) (pe_op op_pow pe_int pe_int)) (pe_op op_pow pe_int pe_int))))) pss_nil)
    (pss_cons (ps_set (i := 3) sc.nd rfl (.inl rfl) pe_int)
    (pss_cons (ps_for PassesOwn.never rfl (pi_range1 (by rfl) T.range (pa_cons pe_int pa_nil)) (pg_name (i := 4) sc.nd rfl (.inl rfl))
      (pss_one (ps_set (i := 3) sc.nd rfl (.inl rfl) (pe_op op_add (pe_op op_mul (pv 3) pe_int) (pe_call c_law_mixed.ok (hr.mono (by decide)) (by rfl) c_law_mixed.m c_law_mixed.kp c_law_mixed.b .nil pass0 (pa_cons (pv 2) (pa_cons (pe_op op_add (pe_op op_add (pe_op op_mul pe_int (pv 1)) (pe_op op_mul pe_int (pv 4))) (pe_op op_mul (pv 4) (pv 4))) pa_nil)))))))
    (pss_one (ps_ret (pv 3)))))))), ?_⟩
    refine ⟨fun σ' H' => H' = H ∧ ∃ c : Int, σ' = [some (.ref a), some (.int k), some (.int c), none, none], ?_, fun σ' H' hm => ?_⟩
    · refine ⟨.int k, rfl, .ref a, rfl, _, (ns.map V.int).length, rfl, .inl ⟨_, hS, rfl⟩, k, _, rfl, rfl, _, rfl, ite2 (fun hk => ?_) (fun hk => ?_)⟩
      · have hk2 : k < ((ns.map V.int).length : Int) := of_decide_eq_true hk
        rw [List.length_map] at hk2
        obtain ⟨j, rfl⟩ : ∃ j : Nat, k = (j : Int) := ⟨k.toNat, by omega⟩
        have hj : j < ns.length := by omega
        have ha : atI (ns.map V.int) ((j : Nat) : Int) = some (.int ns[j]) := atI_nat (by rw [List.getElem?_map, List.getElem?_eq_getElem hj]; rfl)
        exact ⟨.ref a, rfl, .int (j : Nat), rfl, a, _, _, _, rfl, rfl, hS, ha, rfl, _, rfl⟩
      · exact ⟨rfl, 0, rfl⟩
    · obtain ⟨rfl, c, rfl⟩ := hm
      refine ⟨.int c, rfl, 10, 18, rfl, rfl, ⟨by decide, by decide, by decide⟩, c, _, rfl, rfl, _, rfl, ite2 (fun _ => ?_) (fun _ => ?_)⟩
      · refine ⟨.int c, rfl, 10, 18, rfl, rfl, ⟨by decide, by decide, by decide⟩, c, _, rfl, rfl, 10, 60, rfl, rfl, ⟨by decide, by decide, by decide⟩, 10, 60, rfl, rfl, ⟨by decide, by decide, by decide⟩, _, _, rfl, rfl, by show CMulX _ _; unfold CMulX; decide +kernel,
          10, 60, rfl, rfl, ⟨by decide, by decide, by decide⟩, _, _, rfl, rfl, by show CMulX _ _; unfold CMulX; decide +kernel, 10, 60, rfl, rfl, ⟨by decide, by decide, by decide⟩, _, _, rfl, rfl, by show CMulX _ _; unfold CMulX; decide +kernel, _, _, rfl, rfl, by show (0 : Int) < _; decide +kernel, q _⟩
      · refine ⟨24, rfl, by decide, by decide, for_range (lo := 0) (n := 24) (fun _ σ' H'' => H'' = H' ∧ ∃ z t, σ' = [some (.ref a), some (.int k), some (.int c), some (.int z), t]) ⟨rfl, 0, none, rfl⟩ (fun i σ' H'' hi hp => ?_) (fun σ' H'' hp => ?_)⟩
        · obtain ⟨rfl, z, t, rfl⟩ := hp
          refine ⟨.int z, rfl, z, 2147483579, rfl, rfl, .inr ⟨by decide, by decide⟩, .int c, rfl, .int k, rfl, 7, k, rfl, rfl, .inl ⟨by decide, by decide⟩, .int (0 + (i : Int)), rfl, 100, _, rfl, rfl, .inl ⟨by decide, by decide⟩, _, _, rfl, rfl, .int (0 + (i : Int)), rfl, .int (0 + (i : Int)), rfl, _, _, rfl, rfl, .inl ⟨by omega, by omega⟩, _, _, rfl, rfl, c, _, rfl, fun y => ⟨_, _, rfl, rfl, rfl, _, _, rfl⟩⟩
        · obtain ⟨rfl, z, t, rfl⟩ := hp
          exact ⟨.int z, rfl, q z⟩
theorem ok_law_take {f : Addr} {fd : FuncData} (T : Top mg) (F : FnP K "_law_take" s_law_take f fd) : FnOk P w K mg base CX0 1 f fd ["_law_pile", "_law_size"] spTake := by
  have sc := sc_law_take
  refine ok0 F sc (fun vs H Q E h => ?_) (fun cdv A outer s H vs Q E hr h => ?_)
  · obtain ⟨p, x, n, rfl, _⟩ := h
    rfl
  · obtain ⟨p, x, n, rfl, hp, h0, h1, q⟩ := h
    refine ⟨_, (pss_cons (ps_set (i := 2) sc.nd rfl (.inl rfl) (pe_op op_mod (pe_ix ix_list (pv 0) pe_int (fun _ _ => rfl)) (pv 1)))
    (pss_cons (ps_asg (pe_op op_fdivW (pe_ix ix_list (pv 0) pe_int (fun _ _ => rfl)) (pv 1)) (pg_sub (pv 0) pe_int set_list))
    (pss_one (ps_ret (pv 2))))), ?_⟩
    refine ⟨.ref p, rfl, p, [.int x], 0, .int x, rfl, rfl, sq_of hp, rfl, .int n, rfl, x, n, rfl, rfl, h0, ?_⟩
    refine ⟨.ref p, rfl, p, [.int x], 0, .int x, rfl, rfl, sq_of hp, rfl, .int n, rfl, x, n, rfl, rfl, ⟨h0, h1⟩, .ref p, rfl, p, [.int x], 0, 0, rfl, rfl, hp, rfl, ?_⟩
    exact ⟨_, rfl, q⟩
theorem ok_law_odd {f : Addr} {fd : FuncData} (T : Top mg) (F : FnP K "_law_odd" s_law_odd f fd) : FnOk P w K mg base CX0 1 f fd ["_law_m", "_law_e"] spNof := by
  have sc := sc_law_odd
  refine ok0 F sc (fun vs H Q E h => ?_) (fun cdv A outer s H vs Q E hr h => ?_)
  · obtain ⟨m, e, rfl, _⟩ := h
    rfl
  · obtain ⟨m, e, rfl, q⟩ := h
    refine ⟨_, (pss_cons (ps_if (pt_cmpR op_eq (pv 0) pe_int (nomark _))
      (pss_one (ps_ret (pe_tup (pa_cons pe_int (pa_cons pe_int pa_nil))))) pss_nil)
    (pss_cons (ps_while PassesOwn.never (pt_cmpR op_eq (pe_op op_mod (pv 0) pe_int) pe_int (nomark _))
      (pss_cons (ps_set (i := 0) sc.nd rfl (.inl rfl) (pe_op op_fdivW (pv 0) pe_int))
      (pss_one (ps_set (i := 1) sc.nd rfl (.inl rfl) (pe_op op_add (pv 1) pe_int)))))
    (pss_one (ps_ret (pe_tup (pa_cons (pv 0) (pa_cons (pv 1) pa_nil))))))), ?_⟩
    refine ⟨.int m, rfl, rfl, _, rfl, ite2 (fun h0 => ?_) (fun h0 => ?_)⟩
    · have e0 : m = 0 := V.int.inj (of_decide_eq_true h0)
      subst e0
      exact ⟨by show 2 ≤ sizeLine; decide, fun p hp => q _ p (Ex.new hp) hp upd_same⟩
    · have e0 : m ≠ 0 := fun z => h0 (decide_eq_true (congrArg V.int z))
      refine q_while (fun n σ' H' => ∃ (m' e' : Int) (j : Nat), σ' = [some (.int m'), some (.int e')] ∧ Ex H H' ∧ m' ≠ 0 ∧ m = 2 ^ j * m' ∧ e' = e + j ∧ n = m'.natAbs) m.natAbs ⟨m, e, 0, rfl, Ex.refl H, e0, by rw [Int.pow_zero, Int.one_mul], by omega, rfl⟩ ?_
      rintro n σ' H' ⟨m', e', j, rfl, ex, hm, hj, he, hn⟩
      refine ⟨_, et_test (ev_op (ev_op (ev_var rfl) ev_c (rv_I (by decide))) ev_c (rv_eq rfl)), fun hb H1 e1 => ?_, fun hb H1 e1 => ?_⟩
      · have h2 : m' % 2 = 0 := V.int.inj (of_decide_eq_true hb)
        refine ⟨_, fun _ _ h => h, ?_⟩
        refine ⟨.int m', rfl, m', 2, rfl, rfl, ⟨by decide, by decide⟩, .int e', rfl, e', 1, rfl, rfl, ?_⟩
        refine ⟨(m' / 2).natAbs, by omega, m' / 2, e' + 1, j + 1, rfl, ex.trans e1, by omega, ?_, by omega, rfl⟩
        rw [Int.pow_succ, Int.mul_assoc, show 2 * (m' / 2) = m' by omega]
        exact hj
      · have h2 : ¬ m' % 2 = 0 := fun z => by
          rw [decide_eq_true (congrArg V.int z)] at hb
          cases hb
        have hm2 : m' = 2 * (m' / 2) + 1 := by omega
        have en : nrm m e = (m', e') := by
          have h3 : m = 2 ^ j * (2 * (m' / 2) + 1) := by rw [← hm2]; exact hj
          rw [nrm_of e h3, ← hm2, he]
        refine ⟨.int m', rfl, .int e', rfl, by show 2 ≤ sizeLine; decide, fun p hp => q _ p ((ex.trans e1).trans (Ex.new hp)) (fresh_back (ex.trans e1) hp) ?_⟩
        rw [upd_same, en]
theorem way5 {w a b c d e : Int} {B : Int} (h0 : 0 ≤ w) (h5 : w < 5) (ha : 0 < a ∧ a ≤ B) (hb : 0 < b ∧ b ≤ B) (hc : 0 < c ∧ c ≤ B) (hd : 0 < d ∧ d ≤ B) (he : 0 < e ∧ e ≤ B) :
    ∃ v : Int, atI [V.int a, V.int b, V.int c, V.int d, V.int e] w = some (.int v) ∧ 0 < v ∧ v ≤ B := by
  rcases (show w = 0 ∨ w = 1 ∨ w = 2 ∨ w = 3 ∨ w = 4 by omega) with rfl | rfl | rfl | rfl | rfl
  · exact ⟨a, rfl, ha⟩
  · exact ⟨b, rfl, hb⟩
  · exact ⟨c, rfl, hc⟩
  · exact ⟨d, rfl, hd⟩
  · exact ⟨e, rfl, he⟩
theorem far5 {w : Int} (h0 : 0 ≤ w) (h5 : w < 5) : ∃ v : Int, atI [V.int 3, V.int 9, V.int 30, V.int 100, V.int 800] w = some (.int v) ∧ 0 < v ∧ v ≤ 800 ∧ (w = 4 → v = 800) := by
  rcases (show w = 0 ∨ w = 1 ∨ w = 2 ∨ w = 3 ∨ w = 4 by omega) with rfl | rfl | rfl | rfl | rfl
  · exact ⟨3, rfl, by decide⟩
  · exact ⟨9, rfl, by decide⟩
  · exact ⟨30, rfl, by decide⟩
  · exact ⟨100, rfl, by decide⟩
  · exact ⟨800, rfl, by decide⟩
theorem ok_law_number {f f1 f2 : Addr} {fd fd1 fd2 : FuncData} (T : Top mg) (F : FnP K "_law_number" s_law_number f fd) (c_law_take : Cal P w K mg base CX0 1 "_law_take" ["_law_pile", "_law_size"] spTake f1 fd1) (c_law_odd : Cal P w K mg base CX0 1 "_law_odd" ["_law_m", "_law_e"] spNof f2 fd2) : FnOk P w K mg base CX0 2 f fd ["_law_pile"] spNumber := by
  have sc := sc_law_number
  refine ok0 F sc (fun vs H Q E h => ?_) (fun cdv A outer s H vs Q E hr h => ?_)
  · obtain ⟨p, x, rfl, _⟩ := h
    rfl
  · obtain ⟨p, x, rfl, hp, q⟩ := h
    refine ⟨_, (pss_cons (ps_set (i := 1) sc.nd rfl (.inl rfl) (pe_call c_law_take.ok (hr.mono (by decide)) (by rfl) c_law_take.m c_law_take.kp c_law_take.b .nil pass0 (pa_cons (pv 0) (pa_cons pe_int pa_nil))))
    (pss_cons (ps_set (i := 2) sc.nd rfl (.inl rfl) (pe_ix ix_list (pe_lst (pa_cons pe_int (pa_cons pe_int (pa_cons (pe_op op_pow pe_int pe_int) (pa_cons (pe_op op_pow pe_int pe_int) (pa_cons (pe_op op_shlW pe_int pe_int) pa_nil)))))) (pv 1) (fun _ _ => rfl)))
    (pss_cons (ps_set (i := 3) sc.nd rfl (.inl rfl) (pe_ix ix_list (pe_lst (pa_cons pe_int (pa_cons pe_int (pa_cons pe_int (pa_cons pe_int (pa_cons pe_int pa_nil)))))) (pv 1) (fun _ _ => rfl)))
    (pss_cons (ps_set (i := 4) sc.nd rfl (.inl rfl) (pe_op op_add (pe_op op_sub (pe_call c_law_take.ok (hr.mono (by decide)) (by rfl) c_law_take.m c_law_take.kp c_law_take.b .nil pass0 (pa_cons (pv 0) (pa_cons (pe_op op_mul pe_int (pv 2)) pa_nil))) (pv 2)) pe_int))
    (pss_one (ps_ret (pe_call c_law_odd.ok (hr.mono (by decide)) (by rfl) c_law_odd.m c_law_odd.kp c_law_odd.b .nil pass0 (pa_cons (pv 4) (pa_cons (pe_op op_sub (pe_call c_law_take.ok (hr.mono (by decide)) (by rfl) c_law_take.m c_law_take.kp c_law_take.b .nil pass0 (pa_cons (pv 0) (pa_cons (pe_op op_sub (pe_op op_mul pe_int (pv 3)) (pe_op op_mul pe_int (pe_callTy call_int1 (by rfl) T.ty_int (by decide +kernel) (pa_cons (pe_cmpR op_eq (pv 1) pe_int (nomark _)) pa_nil)))) pa_nil))) (pv 3)) pa_nil))))))))), ?_⟩
    have w0 : 0 ≤ x % 5 := Int.emod_nonneg x (by decide)
    have w5 : x % 5 < 5 := Int.emod_lt_of_pos x (by decide)
    refine ⟨.ref p, rfl, p, x, 5, rfl, hp, by decide, by decide, ?_⟩
    obtain ⟨most, am, m0, mB⟩ := way5 (a := 8) (b := 64) (c := 2 ^ (20 : Int).toNat) (d := 2 ^ (60 : Int).toNat) (e := 1 * 2 ^ (200 : Int).toNat) (B := 2 ^ 200) w0 w5 (by decide +kernel) (by decide +kernel) (by decide +kernel) (by decide +kernel) (by decide +kernel)
    obtain ⟨far, af, f0, fB, f4⟩ := far5 w0 w5
    refine ⟨2, 20, rfl, rfl, ⟨by decide, by decide, by decide⟩, 2, 60, rfl, rfl, ⟨by decide, by decide, by decide⟩, 1, 200, rfl, rfl, ⟨by decide, by decide +kernel⟩, by show 5 ≤ sizeLine; decide, fun l1 hl1 => ?_⟩
    have np1 : p ≠ l1 := fun z => by
      rw [← z, upd_same] at hl1
      cases hl1
    refine ⟨.int (x % 5), rfl, l1, _, _, _, rfl, rfl, sq_of upd_same, am, ?_⟩
    refine ⟨by show 5 ≤ sizeLine; decide, fun l2 hl2 => ?_⟩
    have np2 : p ≠ l2 := fun z => by
      rw [← z, upd_ne np1, upd_same] at hl2
      cases hl2
    refine ⟨.int (x % 5), rfl, l2, _, _, _, rfl, rfl, sq_of upd_same, af, ?_⟩
    have s2 : (0 : Int) < 2 * most := by omega
    have b2 : (2 * most).natAbs.log2 < 9000 := log_small (k := 201) s2 (by have e : (2 : Int) ^ 201 = 2 ^ 200 * 2 := Int.pow_succ ..; omega) (by decide)
    refine ⟨.ref p, rfl, .int most, rfl, 2, most, rfl, rfl, .inl ⟨by decide, by decide⟩, p, x / 5, 2 * most, rfl, ?_, s2, b2, ?_⟩
    · rw [upd_ne np2, upd_ne np1, upd_same]
    have y0 : 0 ≤ x / 5 % (2 * most) := Int.emod_nonneg _ (by omega)
    have y1 : x / 5 % (2 * most) < 2 * most := Int.emod_lt_of_pos _ s2
    refine ⟨.int most, rfl, _, most, rfl, rfl, _, 1, rfl, rfl, ?_⟩
    obtain ⟨m, hm⟩ : ∃ m : Int, m = x / 5 % (2 * most) - most + 1 := ⟨_, rfl⟩
    have mabs : m.natAbs ≤ 2 ^ 200 := by
      have e : ((2 ^ 200 : Nat) : Int) = 2 ^ 200 := pow_two_cast 200
      omega
    refine ⟨.int m, by rw [hm]; rfl, .ref p, rfl, .int far, rfl, 2, far, rfl, rfl, .inl ⟨by decide, by decide⟩, .int (x % 5), rfl, rfl, .inr ⟨_, rfl, 200, _, rfl, rfl, .inl ⟨by decide, by decide⟩, _, _, rfl, rfl, ?_⟩⟩
    have s3 : (0 : Int) < 2 * far - 200 * (if decide (V.int (x % 5) = V.int 4) = true then 1 else 0) ∧ 2 * far - 200 * (if decide (V.int (x % 5) = V.int 4) = true then 1 else 0) ≤ 1600 := by
      by_cases z : x % 5 = 4
      · rw [if_pos (decide_eq_true (congrArg V.int z)), f4 z]
        decide
      · rw [if_neg (fun y => z (V.int.inj (of_decide_eq_true y)))]
        omega
    obtain ⟨sz, hsz⟩ : ∃ sz : Int, sz = 2 * far - 200 * (if decide (V.int (x % 5) = V.int 4) = true then 1 else 0) := ⟨_, rfl⟩
    rw [← hsz] at s3
    refine ⟨p, x / 5 / (2 * most), sz, by rw [hsz]; rfl, upd_same, s3.1, log_small (k := 11) s3.1 (by omega) (by decide), .int far, rfl, _, far, rfl, rfl, m, _, rfl, fun H' r ex nr hr => ?_⟩
    have z0 : 0 ≤ x / 5 / (2 * most) % sz := Int.emod_nonneg _ (by omega)
    have z1 : x / 5 / (2 * most) % sz < sz := Int.emod_lt_of_pos _ s3.1
    refine q H' r (x / 5 / (2 * most) / sz) _ _ (fun b o hb hbp => ex b o ?_) (ex p _ upd_same) ?_ hr (nrm_num _ _) ?_ ?_
    · rw [upd_ne hbp, upd_ne hbp, upd_ne (ne_of_none hb ?_), upd_ne (ne_of_none hb ?_), upd_ne hbp]
      · exact hb
      · cases hz : H l1 with
        | none => rfl
        | some o =>
          rw [upd_ne (Ne.symm np1), hz] at hl1
          cases hl1
      · cases hz : H l2 with
        | none => rfl
        | some o =>
          by_cases z : l2 = l1
          · rw [z, upd_same] at hl2
            cases hl2
          · rw [upd_ne z, upd_ne (Ne.symm np2), hz] at hl2
            cases hl2
    · cases hz : H r with
      | none => rfl
      | some o =>
        by_cases y1 : r = p
        · rw [y1, upd_same] at nr
          cases nr
        · rw [upd_ne y1, upd_ne y1] at nr
          by_cases y2 : r = l2
          · rw [y2, upd_same] at nr
            cases nr
          · rw [upd_ne y2] at nr
            by_cases y3 : r = l1
            · rw [y3, upd_same] at nr
              cases nr
            · rw [upd_ne y3, upd_ne y1, hz] at nr
              cases nr
    · exact Nat.lt_of_le_of_lt (Nat.le_trans (nrm_abs _ _) mabs) (by decide +kernel)
    · have h1 := nrm_exp (m := m) (e := x / 5 / (2 * most) % sz - far) (k := 201) (Nat.lt_of_le_of_lt mabs (by decide +kernel))
      omega
theorem ok_law_form {f f1 : Addr} {fd fd1 : FuncData} (T : Top mg) (F : FnP K "_law_form" s_law_form f fd) (c_law_take : Cal P w K mg base CX0 1 "_law_take" ["_law_pile", "_law_size"] spTake f1 fd1) : FnOk P w K mg base CX0 2 f fd ["_law_pile"] (spForm K) := by
  have sc := sc_law_form
  refine ok0 F sc (fun vs H Q E h => ?_) (fun cdv A outer s H vs Q E hr h => ?_)
  · obtain ⟨p, rfl, _⟩ := h
    rfl
  · obtain ⟨p, rfl, hp, q⟩ := h
    refine ⟨_, (pss_cons (ps_set (i := 1) sc.nd rfl (.inl rfl) (pe_ix ix_list (pe_lst (pa_cons (pe_op op_add pe_int (pe_call c_law_take.ok (hr.mono (by decide)) (by rfl) c_law_take.m c_law_take.kp c_law_take.b .nil pass0 (pa_cons (pv 0) (pa_cons pe_int pa_nil)))) (pa_cons (pe_op op_add pe_int (pe_call c_law_take.ok (hr.mono (by decide)) (by rfl) c_law_take.m c_law_take.kp c_law_take.b .nil pass0 (pa_cons (pv 0) (pa_cons pe_int pa_nil)))) pa_nil))) (pe_call c_law_take.ok (hr.mono (by decide)) (by rfl) c_law_take.m c_law_take.kp c_law_take.b .nil pass0 (pa_cons (pv 0) (pa_cons pe_int pa_nil))) (fun _ _ => rfl)))
    (pss_cons (ps_set (i := 2) sc.nd rfl (.inl rfl) (pe_op op_sub (pe_call c_law_take.ok (hr.mono (by decide)) (by rfl) c_law_take.m c_law_take.kp c_law_take.b .nil pass0 (pa_cons (pv 0) (pa_cons pe_int pa_nil))) pe_int))
    (pss_cut (ps_if (pt_cmpR op_gt (pv 1) pe_int (nomark _))
      (pss_one (ps_set (i := 2) sc.nd rfl (.inl rfl) (pe_op op_sub (pe_call c_law_take.ok (hr.mono (by decide)) (by rfl) c_law_take.m c_law_take.kp c_law_take.b .nil pass0 (pa_cons (pv 0) (pa_cons pe_int pa_nil))) pe_int))) pss_nil)
    (pss_cons (ps_set (i := 3) sc.nd rfl (.inl rfl) (pe_op op_add (pe_op op_add (pv 2) pe_int) (pe_call c_law_take.ok (hr.mono (by decide)) (by rfl) c_law_take.m c_law_take.kp c_law_take.b .nil pass0 (pa_cons (pv 0) (pa_cons (pe_callB (call_min2 rfl) (by rfl) T.min (by decide +kernel) (pa_cons (pe_op op_sub pe_int (pv 2)) (pa_cons (pe_ix ix_list (pe_lst (pa_cons pe_int (pa_cons pe_int pa_nil))) (pe_callTy call_int1 (by rfl) T.ty_int (by decide +kernel) (pa_cons (pe_cmpR op_gt (pv 1) pe_int (nomark _)) pa_nil)) (fun _ _ => rfl)) pa_nil))) pa_nil)))))
    (pss_one (ps_ret (pe_tup (pa_cons (pv 1) (pa_cons (pv 2) (pa_cons (pv 3) pa_nil)))))))))), ?_⟩
    have tk : ∀ {N : Int} {σ' : L2.St} {H' : Hp} {R : Int → Prop}, σ'[0]? = some (some (.ref p)) → 0 < N → N ≤ 1000 → (∀ z, 0 ≤ z → z < N → R z) → EvI p R (tCall spTake [] E0 (tCons (tVar 0) (tCons (tC (.int N)) tNil))) σ' H' := fun {N} _ _ _ h h0 h1 hR => evi_take (N := fun z => z = N) h (evi_c rfl) (fun n hn => by subst hn; exact ⟨h0, log_small (k := 10) h0 (by omega) (by decide)⟩) (fun n z hn a b => by subst hn; exact hR z a b)
    refine k_asg (P := fun _ v => ∃ z : Int, v = .int z ∧ 1 ≤ z ∧ z ≤ 200) (evi_ix (W := fun z => 0 ≤ z ∧ z < 2) (evk_lst
      (evis_cons (S := fun z => 1 ≤ z ∧ z ≤ 200) (evi_op (S := fun z => z = 1) (T := fun z => 0 ≤ z ∧ z < 6) (evi_c rfl) (tk rfl (by decide) (by decide) (fun z a b => ⟨a, b⟩)) (fun a b ha hb => by subst ha; show 1 ≤ 1 + b ∧ 1 + b ≤ 200; omega))
      (evis_cons (S := fun z => 1 ≤ z ∧ z ≤ 200) (evi_op (S := fun z => z = 1) (T := fun z => 0 ≤ z ∧ z < 200) (evi_c rfl) (tk rfl (by decide) (by decide) (fun z a b => ⟨a, b⟩)) (fun a b ha hb => by subst ha; show 1 ≤ 1 + b ∧ 1 + b ≤ 200; omega)) evis_nil)))
      (tk rfl (by decide) (by decide) (fun z a b => ⟨a, b⟩))
      (fun z hz => ⟨hz.1, by rcases (show z = 0 ∨ z = 1 by omega) with rfl | rfl <;> exact ⟨_, rfl, fun z h => h⟩⟩)) hp fun v1 H1 k1 l1 ⟨b, e1, b1, b2⟩ => ?_
    subst e1
    refine k_asg (P := fun _ v => ∃ z : Int, v = .int z ∧ -400 ≤ z ∧ z ≤ 300) (evi_op (S := fun z => 0 ≤ z ∧ z < 40) (T := fun z => z = 30) (tk rfl (by decide) (by decide) (fun z a b => ⟨a, b⟩)) (evi_c rfl) (fun a b ha hb => by subst hb; show -400 ≤ a - 30 ∧ a - 30 ≤ 300; omega)) l1 fun v2 H2 k2 l2 ⟨l0, e2, l01, l02⟩ => ?_
    subst e2
    have k12 := k1.trans k2
    refine ⟨fun σ' H' => ∃ l : Int, σ' = [some (.ref p), some (.int b), some (.int l), none] ∧ -400 ≤ l ∧ l ≤ 300 ∧ Keeps p H H' ∧ Pl p H', ?_, ?_⟩
    · refine ⟨.int b, rfl, b, 6, rfl, rfl, _, rfl, ite2 (fun _ => ?_) (fun _ => ⟨l0, rfl, l01, l02, k12, l2⟩)⟩
      refine k_asg1 (P := fun _ v => ∃ z : Int, v = .int z ∧ -400 ≤ z ∧ z ≤ 300) (evi_op (S := fun z => 0 ≤ z ∧ z < 701) (T := fun z => z = 400) (tk rfl (by decide) (by decide) (fun z a b => ⟨a, b⟩)) (evi_c rfl) (fun a b ha hb => by subst hb; show -400 ≤ a - 400 ∧ a - 400 ≤ 300; omega)) l2 fun v3 H3 k3 l3 ⟨l, e3, h1, h2⟩ => ?_
      subst e3
      exact ⟨l, rfl, h1, h2, k12.trans k3, l3⟩
    · rintro σ' H3 ⟨l, rfl, h1, h2, k3, l3⟩
      refine k_asg (P := fun _ v => ∃ z : Int, v = .int z ∧ l + 1 ≤ z ∧ z ≤ 400) (evi_op (S := fun z => z = l + 1) (T := fun z => 0 ≤ z ∧ z < 400 - l) (evi_op (S := fun z => z = l) (T := fun z => z = 1) (evi_var (i := 2) rfl rfl) (evi_c rfl) (fun a b ha hb => by rw [ha, hb]))
        (evi_take (N := fun z => 1 ≤ z ∧ z ≤ 400 - l) rfl (evi_min (S := fun z => z = 400 - l) (T := fun z => 1 ≤ z ∧ z ≤ 400) (evi_op (S := fun z => z = 400) (T := fun z => z = l) (evi_c rfl) (evi_var (i := 2) rfl rfl) (fun a b ha hb => by rw [ha, hb]))
          (evi_ix (W := fun z => 0 ≤ z ∧ z < 2) (evk_lst (evis_cons (S := fun z => 1 ≤ z ∧ z ≤ 400) (evi_c (by decide)) (evis_cons (S := fun z => 1 ≤ z ∧ z ≤ 400) (evi_c (by decide)) evis_nil)))
            (fun H1 k l Q q => ⟨.int b, rfl, b, 6, rfl, rfl, .inr ⟨_, rfl, q _ H1 (Keeps.refl p H1) l ⟨_, rfl, by split <;> decide⟩⟩⟩)
            (fun z hz => ⟨hz.1, by rcases (show z = 0 ∨ z = 1 by omega) with rfl | rfl <;> exact ⟨_, rfl, fun z h => h⟩⟩))
          (fun a b ha hb => by subst ha; show 1 ≤ min (400 - l) b ∧ min (400 - l) b ≤ 400 - l; omega))
          (fun n hn => ⟨by omega, log_small (k := 10) (by omega) (by omega) (by decide)⟩) (fun n z hn a b => ⟨a, by omega⟩))
        (fun a b ha hb => by subst ha; show l + 1 ≤ l + 1 + b ∧ l + 1 + b ≤ 400; omega)) l3 fun v4 H4 k4 l4 ⟨o, e4, o1, o2⟩ => ?_
      subst e4
      refine ⟨.int b, rfl, .int l, rfl, .int o, rfl, by show 3 ≤ sizeLine; decide, fun r hr => ?_⟩
      exact q (.ref r) ⟨b, l, o⟩ _ ⟨b1, b2, h1, h2, o1, o2⟩ ((k3.trans k4).trans (keeps_new hr)) (pl_new l4 hr) ⟨r, rfl, (fun e => by obtain ⟨x, hx⟩ := l4; rw [e, hx] at hr; cases hr), upd_same⟩
def spLaw (K : PySem.W.Frag) : Sp := fun vs H Q _ => ∃ (a : Addr) (ns : List Int), vs = [.ref a] ∧ SqL K H a (ns.map V.int) ∧ ∀ H', Q (.bl true) H'
theorem q_seqP {tu tz : TS} {D : Ends} {σ : L2.St} {H : Hp} (h : tu { D with nx := tz D } σ H) : tSeq tu tz D σ H := h
def NB (K : PySem.W.Frag) (H : Hp) (v : V) : Prop := ∃ n, Gn K H v n 3000
theorem ok_law {f fc ft fo fn ff fm1 fg i1 f1 f2 f3 f4 C_Form : Addr} {fd fdc fdt fdo fdn fdf fdm fdg fdi fd1 fd2 fd3 fd4 : FuncData} {g1 : List Value → List Value → List Value} (T : Top mg) (S_Form : FormC K mg C_Form) (M_Form : Mk K C_Form i1) (Mt_Form_above : Meth K C_Form "above" f1) (Mt_Form_below : Meth K C_Form "below" f2) (Mt_Form_top : Meth K C_Form "top" f3) (Mt_Form_count : Meth K C_Form "count" f4) (F : FnP K "law" s_law f fd)
    (c_law_cell : Cal P w K mg base CX0 2 "_law_cell" ["_law_script", "_law_k"] (spCel K) fc fdc) (c_law_take : Cal P w K mg base CX0 1 "_law_take" ["_law_pile", "_law_size"] spTake ft fdt) (c_law_odd : Cal P w K mg base CX0 1 "_law_odd" ["_law_m", "_law_e"] spNof fo fdo) (c_law_number : Cal P w K mg base CX0 2 "_law_number" ["_law_pile"] spNumber fn fdn) (c_law_form : Cal P w K mg base CX0 2 "_law_form" ["_law_pile"] (spForm K) ff fdf) (c_law_minus : Cal P w K mg base CX0 4 "_law_minus" ["_law_value"] (spMin K) fm1 fdm)
    (c_law_good : Cal P w K mg base CX0 7 "_law_good" ["_law_made", "_law_wider", "_law_value"] (spGoodF K C_Form) fg fdg) (c_Form_init : CalJ P w K mg base 3 ["self", "bits", "least", "most"] (spFInit C_Form) i1 fdi) (c_Form_above : CalI P w K mg base CX0 5 ["self", "number"] (spOptF K C_Form aboveF) f1 fd1) (c_Form_below : CalI P w K mg base CX0 6 ["self", "number"] (spOptF K C_Form belowF) f2 fd2) (c_Form_top : CalI P w K mg base CX0 2 ["self"] (spTop K C_Form) f3 fd3) (c_Form_count : CalI P w K mg base CX0 1 ["self"] (spCnt K C_Form) f4 fd4)
    (c_Form_kb_least_most : KBn K fdi ["self", "bits", "least", "most"] 2 ["least", "most"] g1 (fun vs zs => vs ++ zs)) : FnOk P w K mg base CX0 8 f fd ["_law_script"] (spLaw K) := by
  have sc := sc_law
  refine ok0 F sc (fun vs H Q E h => ?_) (fun cdv A outer s H vs Q E hr h => ?_)
  · obtain ⟨a, ns, rfl, _⟩ := h
    rfl
  · obtain ⟨a, ns, rfl, hS, q⟩ := h
    refine ⟨_, (pss_cons (ps_for PassesOwn.never rfl (pi_range1 (by rfl) T.range (pa_cons pe_int pa_nil)) (pg_name (i := 1) sc.nd rfl (.inl rfl))
      (pss_cons (ps_set (i := 2) sc.nd rfl (.inl rfl) (pe_lst (pa_cons (pe_call c_law_cell.ok (hr.mono (by decide)) (by rfl) c_law_cell.m c_law_cell.kp c_law_cell.b .nil pass0 (pa_cons (pv 0) (pa_cons (pv 1) pa_nil))) pa_nil)))
      (pss_cons (ps_set (i := 3) sc.nd rfl (.inl rfl) (pe_op op_add pe_int (pe_call c_law_take.ok (hr.mono (by decide)) (by rfl) c_law_take.m c_law_take.kp c_law_take.b .nil pass0 (pa_cons (pv 2) (pa_cons pe_int pa_nil)))))
      (pss_cons (ps_set (i := 4) sc.nd rfl (.inl rfl) (pe_op op_sub (pe_call c_law_take.ok (hr.mono (by decide)) (by rfl) c_law_take.m c_law_take.kp c_law_take.b .nil pass0 (pa_cons (pv 2) (pa_cons pe_int pa_nil))) pe_int))
      (pss_cons (ps_set (i := 5) sc.nd rfl (.inl rfl) (pe_makeK M_Form c_Form_init.ok (hr.mono (by decide)) (by rfl) S_Form.m c_Form_kb_least_most pass0 (pa_cons (pv 3) pa_nil) (pk_cons (pv 4) (pk_cons (pe_op op_add (pe_op op_add (pv 4) pe_int) (pe_call c_law_take.ok (hr.mono (by decide)) (by rfl) c_law_take.m c_law_take.kp c_law_take.b .nil pass0 (pa_cons (pv 2) (pa_cons pe_int pa_nil)))) pk_nil))))
      (pss_cons (ps_set (i := 6) sc.nd rfl (.inl rfl) (pe_call c_law_minus.ok (hr.mono (by decide)) (by rfl) c_law_minus.m c_law_minus.kp c_law_minus.b .nil pass0 (pa_cons (pe_meth0 (pv 5) S_Form.cl Mt_Form_top c_Form_top.ok (hr.mono (by decide)) c_Form_top.b .nil pass0) pa_nil)))
      (pss_cons (ps_set (i := 7) sc.nd rfl (.inl rfl) pe_int)
      (pss_cons (ps_while PassesOwn.never (PW.pt (pw_and (pt_cmpR op_notN (pe_meth (pv 5) S_Form.cl Mt_Form_above c_Form_above.ok (hr.mono (by decide)) c_Form_above.b .nil pass0 (pa_cons (pv 6) pa_nil)) pe_non (nomark _)) (pw_and1 (pt_cmpR op_lt (pv 7) pe_int (nomark _)))))
        (pss_cons (ps_set (i := 6) sc.nd rfl (.inl rfl) (pe_meth (pv 5) S_Form.cl Mt_Form_above c_Form_above.ok (hr.mono (by decide)) c_Form_above.b .nil pass0 (pa_cons (pv 6) pa_nil)))
        (pss_one (ps_set (i := 7) sc.nd rfl (.inl rfl) (pe_op op_add (pv 7) pe_int)))))
      (pss_cons (ps_if (pt_cmpR (op_neD hr.units) (pv 6) (pe_meth0 (pv 5) S_Form.cl Mt_Form_top c_Form_top.ok (hr.mono (by decide)) c_Form_top.b .nil pass0) (nomark _))
        (pss_one (ps_ret pe_bl)) pss_nil)
      (pss_cons (ps_if (pt_cmpR op_ne (pv 7) (pe_meth0 (pv 5) S_Form.cl Mt_Form_count c_Form_count.ok (hr.mono (by decide)) c_Form_count.b .nil pass0) (nomark _))
        (pss_one (ps_ret pe_bl)) pss_nil)
      (pss_cons (ps_if (pt_cmpR op_notN (pe_meth (pv 5) S_Form.cl Mt_Form_below c_Form_below.ok (hr.mono (by decide)) c_Form_below.b .nil pass0 (pa_cons (pe_call c_law_minus.ok (hr.mono (by decide)) (by rfl) c_law_minus.m c_law_minus.kp c_law_minus.b .nil pass0 (pa_cons (pe_meth0 (pv 5) S_Form.cl Mt_Form_top c_Form_top.ok (hr.mono (by decide)) c_Form_top.b .nil pass0) pa_nil)) pa_nil)) pe_non (nomark _))
        (pss_one (ps_ret pe_bl)) pss_nil)
      (pss_cons (ps_set (i := 8) sc.nd rfl (.inl rfl) (pe_call c_law_form.ok (hr.mono (by decide)) (by rfl) c_law_form.m c_law_form.kp c_law_form.b .nil pass0 (pa_cons (pv 2) pa_nil)))
      (pss_cut (ps_if (pt_cmpR op_eq (pe_ix ix_tup (pv 8) pe_int (fun _ _ => rfl)) pe_int (nomark _))
        (pss_one (ps_set (i := 8) sc.nd rfl (.inl rfl) (pe_tup (pa_cons pe_int (pa_cons (pe_ix ix_tup (pv 8) pe_int (fun _ _ => rfl)) (pa_cons (pe_ix ix_tup (pv 8) pe_int (fun _ _ => rfl)) pa_nil)))))) pss_nil)
      (pss_cons (ps_set (i := 9) sc.nd rfl (.inl rfl) (pe_makeK M_Form c_Form_init.ok (hr.mono (by decide)) (by rfl) S_Form.m c_Form_kb_least_most pass0 (pa_cons (pe_ix ix_tup (pv 8) pe_int (fun _ _ => rfl)) pa_nil) (pk_cons (pe_ix ix_tup (pv 8) pe_int (fun _ _ => rfl)) (pk_cons (pe_ix ix_tup (pv 8) pe_int (fun _ _ => rfl)) pk_nil))))
      (pss_cons (ps_set (i := 10) sc.nd rfl (.inl rfl) (pe_makeK M_Form c_Form_init.ok (hr.mono (by decide)) (by rfl) S_Form.m c_Form_kb_least_most pass0 (pa_cons (pe_op op_add (pe_ix ix_tup (pv 8) pe_int (fun _ _ => rfl)) pe_int) pa_nil) (pk_cons (pe_ix ix_tup (pv 8) pe_int (fun _ _ => rfl)) (pk_cons (pe_ix ix_tup (pv 8) pe_int (fun _ _ => rfl)) pk_nil))))
      (pss_one (ps_for PassesOwn.never rfl (pi_range1 (by rfl) T.range (pa_cons pe_int pa_nil)) (pg_name (i := 11) sc.nd rfl (.inl rfl))
        (pss_cons (ps_set (i := 12) sc.nd rfl (.inl rfl) (pe_call c_law_odd.ok (hr.mono (by decide)) (by rfl) c_law_odd.m c_law_odd.kp c_law_odd.b .nil pass0 (pa_cons (pe_op op_sub (pe_call c_law_take.ok (hr.mono (by decide)) (by rfl) c_law_take.m c_law_take.kp c_law_take.b .nil pass0 (pa_cons (pv 2) (pa_cons (pe_op op_pow pe_int pe_int) pa_nil))) (pe_op op_pow pe_int pe_int)) (pa_cons (pe_op op_sub (pe_op op_add (pe_ix ix_tup (pv 8) pe_int (fun _ _ => rfl)) (pe_call c_law_take.ok (hr.mono (by decide)) (by rfl) c_law_take.m c_law_take.kp c_law_take.b .nil pass0 (pa_cons (pv 2) (pa_cons pe_int pa_nil)))) pe_int) pa_nil))))
        (pss_one (ps_for PassesOwn.never rfl (pi_list (pe_lst (pa_cons (pe_call c_law_number.ok (hr.mono (by decide)) (by rfl) c_law_number.m c_law_number.kp c_law_number.b .nil pass0 (pa_cons (pv 2) pa_nil)) (pa_cons (pv 12) (pa_cons (pe_tup (pa_cons pe_int (pa_cons pe_int pa_nil))) (pa_cons (pe_meth0 (pv 9) S_Form.cl Mt_Form_top c_Form_top.ok (hr.mono (by decide)) c_Form_top.b .nil pass0) (pa_cons (pe_call c_law_minus.ok (hr.mono (by decide)) (by rfl) c_law_minus.m c_law_minus.kp c_law_minus.b .nil pass0 (pa_cons (pe_meth0 (pv 9) S_Form.cl Mt_Form_top c_Form_top.ok (hr.mono (by decide)) c_Form_top.b .nil pass0) pa_nil)) pa_nil))))))) (pg_name (i := 13) sc.nd rfl (.inl rfl))
          (pss_one (ps_if (pt_not (pt_val (pe_call c_law_good.ok (hr.mono (by decide)) (by rfl) c_law_good.m c_law_good.kp c_law_good.b .nil pass0 (pa_cons (pv 9) (pa_cons (pv 10) (pa_cons (pv 13) pa_nil))))))
            (pss_one (ps_ret pe_bl)) pss_nil))))))))))))))))))))))
    (pss_one (ps_ret pe_bl))), ?_⟩
    refine ⟨3, rfl, by decide, by decide, for_range (lo := 0) (n := 3) (fun _ σ' H' => SqL K H' a (ns.map V.int) ∧ ∃ t1 t2 t3 t4 t5 t6 t7 t8 t9 t10 t11 t12 t13, σ' = [some (.ref a), t1, t2, t3, t4, t5, t6, t7, t8, t9, t10, t11, t12, t13]) ⟨hS, none, none, none, none, none, none, none, none, none, none, none, none, none, rfl⟩ (fun i σ' H0 hi hp => ?_) (fun σ' H' hp => ?_)⟩
    · obtain ⟨hS0, t1, t2, t3, t4, t5, t6, t7, t8, t9, t10, t11, t12, t13, rfl⟩ := hp
      refine ⟨.ref a, rfl, .int (0 + (i : Int)), rfl, a, ns, _, rfl, hS0, by omega, by omega, fun z => ⟨by show 1 ≤ sizeLine; decide, fun p hp => ?_⟩⟩
      have fp : H0 p = none := hp
      have x1 := Ex.new (o := .lst [.int z]) hp
      have l1 : Pl p (upd H0 p (.lst [.int z])) := pl_upd
      generalize upd H0 p (.lst [.int z]) = H1 at *
      have tk : ∀ {N : Int} {σ' : L2.St} {H' : Hp} {R : Int → Prop}, σ'[2]? = some (some (.ref p)) → 0 < N → N ≤ 1000 → (∀ z, 0 ≤ z → z < N → R z) → EvI p R (tCall spTake [] E0 (tCons (tVar 2) (tCons (tC (.int N)) tNil))) σ' H' := fun {N} _ _ _ h h0 h1 hR => evi_take (N := fun z => z = N) h (evi_c rfl) (fun n hn => by subst hn; exact ⟨h0, log_small (k := 10) h0 (by omega) (by decide)⟩) (fun n z hn a b => by subst hn; exact hR z a b)
      refine k_asg (P := fun _ v => ∃ z : Int, v = .int z ∧ 1 ≤ z ∧ z ≤ 5) (evi_op (S := fun z => z = 1) (T := fun z => 0 ≤ z ∧ z < 5) (evi_c rfl) (tk rfl (by decide) (by decide) (fun z a b => ⟨a, b⟩)) (fun a b ha hb => by subst ha; show 1 ≤ 1 + b ∧ 1 + b ≤ 5; omega)) l1 fun v2 H2 k2 l2 ⟨b, eb, b1, b2⟩ => ?_
      subst eb
      refine k_asg (P := fun _ v => ∃ z : Int, v = .int z ∧ -20 ≤ z ∧ z ≤ 9) (evi_op (S := fun z => 0 ≤ z ∧ z < 30) (T := fun z => z = 20) (tk rfl (by decide) (by decide) (fun z a b => ⟨a, b⟩)) (evi_c rfl) (fun a b ha hb => by subst hb; show -20 ≤ a - 20 ∧ a - 20 ≤ 9; omega)) l2 fun v3 H3 k3 l3 ⟨l, el, z1, z2⟩ => ?_
      subst el
      refine k_asg (evk_make (K := K) (S := fun z => z = b) (T := fun z => z = l) (U := fun z => l + 1 ≤ z ∧ z ≤ l + 8) (evi_var (i := 3) rfl rfl) (evi_var (i := 4) rfl rfl) (evi_op (S := fun z => z = l + 1) (T := fun z => 0 ≤ z ∧ z < 8) (evi_op (S := fun z => z = l) (T := fun z => z = 1) (evi_var (i := 4) rfl rfl) (evi_c rfl) (fun a b ha hb => by rw [ha, hb])) (tk rfl (by decide) (by decide) (fun z a b => ⟨a, b⟩)) (fun a b ha hb => by subst ha; show l + 1 ≤ l + 1 + b ∧ l + 1 + b ≤ l + 8; omega))
        (fun b' l' o' (hb : b' = b) (hl : l' = l) (ho : l + 1 ≤ o' ∧ o' ≤ l + 8) => ⟨by show 1 ≤ b'; omega, by show b' ≤ 200; omega, by show -400 ≤ l'; omega, by show l' ≤ 300; omega, by show l' + 1 ≤ o'; omega, by show o' ≤ 400; omega⟩)) l3 fun vS H4 k4 l4 ⟨b', l', o, hb', hl', ho, hf⟩ => ?_
      subst hb' hl'
      have k14 := (k2.trans k3).trans k4
      have okS := fm_ok hf
      generalize hsm : (⟨b', l', o⟩ : Fm) = sm at hf okS
      have smb : sm.b ≤ 5 := by rw [← hsm]; exact b2
      have smo : sm.o ≤ sm.l + 8 := by rw [← hsm]; exact ho.2
      have vf : ∀ {σ' : L2.St} {H' : Hp}, Ex H4 H' → σ'[5]? = some (some vS) → EvP (FmAt K C_Form sm) (tVar 5) σ' H' := fun e h => evf_var h (fm_mono _ _ _ e hf)
      refine q_asgP (evn_minus (evn_top (vf (Ex.refl H4) rfl)) (by decide)) fun yh H5 e5 g5 => ?_
      refine q_asg ev_c fun H6 e6 => ?_
      refine q_seqP (s_while (fun m σ' H' => ∃ y n many, σ' = [some (.ref a), some (.int (0 + (i : Int))), some (.ref p), some (.int b'), some (.int l'), some vS, some y, some (.int many), t8, t9, t10, t11, t12, t13] ∧ Ex H4 H' ∧ Gn K H' y n 500 ∧ Has sm n ∧ many = ix sm n + rk sm (topF sm) + 1 ∧ m = (5000 - many).toNat) 4999 ⟨yh, pneg (topF sm), 1, rfl, e5.trans e6, g5.ex e6, has_neg (top_has okS), by rw [ix_bottom okS]; omega, by decide⟩ (fun m σ' H7 hw => ?_))
      obtain ⟨y, n, many, rfl, e7, gy, hn, hm, rfl⟩ := hw
      have s1 := ix_small okS smb smo hn
      have s2 := ix_small okS smb smo (top_has okS)
      rw [ix_top okS] at s2
      have vy : ∀ {σ' : L2.St} {H' : Hp}, Ex H7 H' → σ'[6]? = some (some y) → EvN K (tVar 6) σ' H' n 500 := fun e h => evn_var h (gy.ex e)
      refine ⟨_, et_and (et_notN (evo_meth (g := aboveF) rfl (vf e7 rfl) (vy (Ex.refl H7) rfl) (by decide))) (fun _ => et_test (ev_op (ev_var (i := 7) rfl) ev_c rv_I0)), fun hc H8 e8 => ?_, fun hc H8 e8 => ?_⟩
      · cases ha : aboveF sm n with
        | none =>
          rw [ha] at hc
          cases hc
        | some u =>
          have U := above_up okS hn.1.1 ha
          refine ⟨fun σ' H' => ∃ y n many', σ' = [some (.ref a), some (.int (0 + (i : Int))), some (.ref p), some (.int b'), some (.int l'), some vS, some y, some (.int many'), t8, t9, t10, t11, t12, t13] ∧ Ex H4 H' ∧ Gn K H' y n 500 ∧ Has sm n ∧ many' = ix sm n + rk sm (topF sm) + 1 ∧ many' = many + 1, fun σ2 H9 hN => ?_, ?_⟩
          · obtain ⟨y', n', many', rfl, x1, x2, x3, x4, x5⟩ := hN
            exact ⟨(5000 - many').toNat, by omega, y', n', many', rfl, x1, x2, x3, x4, rfl⟩
          · refine q_asgP (evo_meth (g := aboveF) rfl (vf (e7.trans e8) rfl) (vy e8 rfl) (by decide)) fun y9 H9 e9 h9 => ?_
            rw [ha] at h9
            refine ⟨.int many, rfl, many, 1, rfl, rfl, ?_⟩
            exact ⟨y9, u, many + 1, rfl, (e7.trans e8).trans e9, ⟨h9, U.has.1.1, has_bd okS U.has⟩, U.has, by rw [ix_up okS hn ha]; omega, rfl⟩
      · have ha : aboveF sm n = none := by
          cases ha : aboveF sm n with
          | none => rfl
          | some u =>
            rw [ha, Option.isSome_some, Bool.true_and] at hc
            have := of_decide_eq_false hc
            omega
        have nt : n = topF sm := pord_anti hn.1.1 (top_has okS).1.1 (top_max okS hn) (by have := above_none ha; rw [pord_swap n (topF sm)]; omega)
        have e48 := e7.trans e8
        dsimp only
        refine q_pass (evt_same (vy e8 rfl) (evn_top (vf e48 rfl)) nt) fun H9 e9 => ?_
        have e49 := e48.trans e9
        refine q_pass (et_is (et_test (ev_op (ev_var (i := 7) rfl) (ev_count (vf e49 rfl)) (rv_ne rfl))) ?_) fun H10 e10 => ?_
        · rw [nt, ix_top okS] at hm
          have : many = 2 * rk sm (topF sm) + 1 := by omega
          rw [decide_eq_true (congrArg V.int this)]
          rfl
        have e410 := e49.trans e10
        refine q_pass (et_is (et_notN (evo_meth (g := belowF) rfl (vf e410 rfl) (evn_minus (evn_top (vf e410 rfl)) (by decide)) (by decide))) (by rw [below_bottom]; rfl)) fun H11 e11 => ?_
        have k111 := k14.trans (keeps_ex (e410.trans e11))
        have l11 := pl_ex l4 (e410.trans e11)
        clear e5 g5 e6 e7 gy vy hm hc e8 e48 e9 e49 e10 e410 e11
        refine k_asg (P := fun H v => ∃ f : Fm, f.Ok ∧ FT K p f H v) (fun H1 k l Q q => ⟨.ref p, rfl, p, rfl, l, fun z f H' ok k2 l2 hz => q z H' k2 l2 ⟨f, ok, hz⟩⟩) l11 fun v12 H12 k12 l12 ⟨f0, ok0, hf0⟩ => ?_
        have k112 := k111.trans k12
        refine ⟨fun σ' H' => ∃ v f, σ' = [some (.ref a), some (.int (0 + (i : Int))), some (.ref p), some (.int b'), some (.int l'), some vS, some y, some (.int many), some v, t9, t10, t11, t12, t13] ∧ Fm.Ok f ∧ f.b ≤ 199 ∧ FT K p f H' v ∧ Keeps p H1 H' ∧ Pl p H', ?_, ?_⟩
        · obtain ⟨r, rfl, rp, hr0⟩ := id hf0
          refine ⟨.ref r, rfl, r, _, 0, .int f0.b, rfl, rfl, st_of hr0, rfl, rfl, _, rfl, ite2 (fun hc => ?_) (fun hc => ?_)⟩
          · refine ⟨.ref r, rfl, r, _, 1, .int f0.l, rfl, rfl, st_of hr0, rfl, .ref r, rfl, r, _, 2, .int f0.o, rfl, rfl, st_of hr0, rfl, by show 3 ≤ sizeLine; decide, fun r2 hr2 => ?_⟩
            exact ⟨.ref r2, ⟨199, f0.l, f0.o⟩, rfl, ⟨by show (1 : Int) ≤ 199; decide, by show (199 : Int) ≤ 200; decide, ok0.l1, ok0.l2, ok0.o1, ok0.o2⟩, Int.le_refl 199, ⟨r2, rfl, (fun e => by obtain ⟨x, hx⟩ := l12; rw [e, hx] at hr2; cases hr2), upd_same⟩, k112.trans (keeps_new hr2), pl_new l12 hr2⟩
          · have b0 := ok0.b2
            have : f0.b ≠ 200 := fun z => hc (decide_eq_true (congrArg V.int z))
            exact ⟨.ref r, f0, rfl, ok0, by omega, hf0, k112, l12⟩
        · rintro σ' H13 ⟨v13, fm, rfl, ok, fb, hft, k113, l13⟩
          have a1 := ok.l1
          have a2 := ok.l2
          refine k_asg (P := fun H v => FmAt K C_Form fm H v) ((evk_make (K := K) (S := fun z => z = fm.b) (T := fun z => z = fm.l) (U := fun z => z = fm.o) (evi_ft (i := 8) rfl hft rfl rfl) (evi_ft (i := 8) rfl hft rfl rfl) (evi_ft (i := 8) rfl hft rfl rfl) (fun b l o hb hl ho => by subst hb hl ho; exact ok)).imp fun H v ⟨b, l, o, hb, hl, ho, h⟩ => by subst hb hl ho; exact h) l13 fun vM H14 k14' l14 hM => ?_
          have hft14 := ft_keep hft k14'
          refine k_asg (P := fun H v => FmAt K C_Form (wid fm) H v) ((evk_make (K := K) (S := fun z => z = fm.b + 1) (T := fun z => z = fm.l) (U := fun z => z = fm.o) (evi_op (S := fun z => z = fm.b) (T := fun z => z = 1) (evi_ft (i := 8) rfl hft14 rfl rfl) (evi_c rfl) (fun a b ha hb => by rw [ha, hb])) (evi_ft (i := 8) rfl hft14 rfl rfl) (evi_ft (i := 8) rfl hft14 rfl rfl) (fun b l o hb hl ho => by subst hb hl ho; exact ⟨by show 1 ≤ fm.b + 1; have := ok.b1; omega, by show fm.b + 1 ≤ 200; omega, ok.l1, ok.l2, ok.o1, ok.o2⟩)).imp fun H v ⟨b, l, o, hb, hl, ho, h⟩ => by subst hb hl ho; exact h) l14 fun vW H15 k15 l15 hW => ?_
          have hM15 := fm_keep hM l14 k15
          have hft15 := ft_keep hft14 k15
          have k115 := (k113.trans k14').trans k15
          refine ⟨5, rfl, by decide, by decide, for_range (lo := 0) (n := 5) (fun _ σ' H' => Keeps p H15 H' ∧ Pl p H' ∧ ∃ t11 t12 t13, σ' = [some (.ref a), some (.int (0 + (i : Int))), some (.ref p), some (.int b'), some (.int l'), some vS, some y, some (.int many), some v13, some vM, some vW, t11, t12, t13]) ⟨Keeps.refl p H15, l15, _, _, _, rfl⟩ (fun j σ' H16 hj hp => ?_) (fun σ' H16 hp => ?_)⟩
          · obtain ⟨k16, l16, t11, t12, t13, rfl⟩ := hp
            refine g_name ?_
            have hft16 := ft_keep hft15 k16
            have pw : ∀ {N : Int} {k : Int} {σ' : L2.St} {H' : Hp}, (0 ≤ k ∧ k ≤ 9) → N = 2 ^ k.toNat → EvI p (fun z => z = N) (tOp (rI CPow fun i j => .int (i ^ j.toNat)) (tC (.int 2)) (tC (.int k))) σ' H' := fun {N k} _ _ hk hN => evi_opC (S := fun z => z = 2) (T := fun z => z = k) (evi_c rfl) (evi_c rfl) (fun a b ha hb => by subst ha hb; exact ⟨by omega, by omega, by decide⟩) (fun a b ha hb => by subst ha hb; exact hN.symm)
            refine k_asg (evk_nof (K := K) (B := 600) (S := fun z => z.natAbs < 2 ^ 9) (T := fun z => z.natAbs ≤ 420) (R := fun _ _ => True) (evi_op (S := fun z => 0 ≤ z ∧ z < 512) (T := fun z => z = 256) (evi_take (N := fun z => z = 512) rfl (pw (by decide) (by decide)) (fun n hn => by subst hn; exact ⟨by decide, log_small (k := 10) (by decide) (by decide) (by decide)⟩) (fun n z hn a b => by subst hn; exact ⟨a, b⟩)) (pw (by decide) (by decide)) (fun a b ha hb => by subst hb; show (a - 256).natAbs < 512; omega))
              (evi_op (S := fun z => fm.l ≤ z ∧ z < fm.l + 14) (T := fun z => z = 3) (evi_op (S := fun z => z = fm.l) (T := fun z => 0 ≤ z ∧ z < 14) (evi_ft (i := 8) rfl hft16 rfl rfl) (tk rfl (by decide) (by decide) (fun z a b => ⟨a, b⟩)) (fun a b ha hb => by subst ha; show fm.l ≤ fm.l + b ∧ fm.l + b < fm.l + 14; omega)) (evi_c rfl) (fun a b ha hb => by subst hb; show (a - 3).natAbs ≤ 420; omega)) (fun a b ha hb => ⟨trivial, bd_nrm ha (by omega)⟩)) l16 fun vN H17 k17 l17 ⟨ma, mb, _, gN⟩ => ?_
            obtain ⟨x, hx⟩ := id l17
            refine ⟨.ref p, rfl, p, x, rfl, hx, fun H18 r x' nm ne k18 hp18 nr hr18 hn18 hm18 he18 => ?_⟩
            have k18 : Keeps p H17 H18 := k18
            have l18 : Pl p H18 := ⟨x', hp18⟩
            have g1 : Gn K H18 (.ref r) (nm, ne) 3000 := ⟨numAt_of hr18, hn18, Nat.lt_of_lt_of_le hm18 (Nat.pow_le_pow_right (by decide) (by decide)), by show ne.natAbs ≤ 3000; omega⟩
            have gN18 := gn_keepP gN l17 k18
            have hM18 := fm_keep (fm_keep hM15 l15 (k16.trans k17)) l17 k18
            have hW18 := fm_keep (fm_keep hW l15 (k16.trans k17)) l17 k18
            refine ⟨vN, rfl, ?_⟩
            refine (evn_lit (K := K) (B := 3000) (m := 0) (e := 0) ev_c ev_c rfl ⟨by decide +kernel, by decide⟩) H18 (Ex.refl H18) _ fun u3 H19 e19 g3 => ?_
            refine (evn_top (evf_var (i := 9) rfl (fm_mono _ _ _ e19 hM18))) H19 (Ex.refl H19) _ fun u4 H20 e20 g4 => ?_
            refine (evn_minus (evn_top (evf_var (i := 9) rfl (fm_mono _ _ _ (e19.trans e20) hM18))) (by decide)) H20 (Ex.refl H20) _ fun u5 H21 e21 g5 => ?_
            refine ⟨by show 5 ≤ sizeLine; decide, fun L hL => ?_⟩
            have e22 := Ex.new (o := .lst [.ref r, vN, u3, u4, u5]) hL
            have all : ∀ v ∈ [.ref r, vN, u3, u4, u5], NB K (upd H21 L (.lst [.ref r, vN, u3, u4, u5])) v := fun v hv => by
              simp only [List.mem_cons, List.not_mem_nil, or_false] at hv
              rcases hv with rfl | rfl | rfl | rfl | rfl
              · exact ⟨_, g1.ex (((e19.trans e20).trans e21).trans e22)⟩
              · exact ⟨_, (gN18.ex (((e19.trans e20).trans e21).trans e22)).mono (by decide)⟩
              · exact ⟨_, g3.ex ((e20.trans e21).trans e22)⟩
              · exact ⟨_, (g4.ex (e21.trans e22)).mono (by decide)⟩
              · exact ⟨_, (g5.ex e22).mono (by decide)⟩
            have hL22 : (upd H21 L (.lst [.ref r, vN, u3, u4, u5])) L = some (.lst [.ref r, vN, u3, u4, u5]) := upd_same
            have e1822 := ((e19.trans e20).trans e21).trans e22
            generalize [V.ref r, vN, u3, u4, u5] = ws at *
            generalize upd H21 L (.lst ws) = H22 at *
            have hM22 := fm_mono _ _ _ e1822 hM18
            have hW22 := fm_mono _ _ _ e1822 hW18
            refine ⟨L, rfl, ⟨_, sq_of hL22⟩, for_list (xs := ws) (fun _ σ' H' => Ex H22 H' ∧ ∃ t13, σ' = [some (.ref a), some (.int (0 + (i : Int))), some (.ref p), some (.int b'), some (.int l'), some vS, some y, some (.int many), some v13, some vM, some vW, some (.int (0 + (j : Int))), some vN, t13]) ⟨Ex.refl H22, _, rfl⟩ (fun j σ' H' _ hk => sq_of (hk.1 _ _ hL22)) (fun j x σ' H23 hx hk => ?_) (fun σ' H23 hk => ?_)⟩
            · obtain ⟨e23, t13, rfl⟩ := hk
              obtain ⟨n', gn'⟩ := all x (List.mem_of_getElem? hx)
              refine g_name ?_
              exact ⟨vM, rfl, vW, rfl, x, rfl, vM, vW, x, n', fm, rfl, fm_mono _ _ _ e23 hM22, fm_mono _ _ _ e23 hW22, gn'.ex e23, fun H24 e24 => ⟨true, rfl, iteF ⟨e23.trans e24, _, rfl⟩⟩⟩
            · obtain ⟨e23, t13, rfl⟩ := hk
              exact ⟨(((k16.trans k17).trans k18).trans (keeps_ex (e1822.trans e23))), pl_ex l18 (e1822.trans e23), _, _, _, rfl⟩
          · obtain ⟨k16, l16, t11, t12, t13, rfl⟩ := hp
            have k116 := k115.trans k16
            have x016 : Ex H0 H16 := fun b o hb => k116 b o (x1 b o hb) (ne_of_none hb fp)
            exact ⟨ex_l x016 hS0, _, _, _, _, _, _, _, _, _, _, _, _, _, rfl⟩
    · obtain ⟨hS0, t1, t2, t3, t4, t5, t6, t7, t8, t9, t10, t11, t12, t13, rfl⟩ := hp
      exact q H'
end
/-! ### the head -/
abbrev dP (x : Str) (s : Stmt) (ds : List He.Dv) : He.DefD := ⟨(x, none), x, x, defArgs s, defBody s, defScope s, ds, []⟩
abbrev dM (c m x : Str) (s : Stmt) : He.DefD := ⟨(c, some m), m, x, defArgs s, defBody s, defScope s, [], []⟩
def fn : List He.DefD := [dP "is_whole" s_is_whole [], dP "is_whole_within" s_is_whole_within [], dP "is_number" s_is_number [], dP "need_number" s_need_number [], dP "need_numbers" s_need_numbers [], dP "lowered" s_lowered [], dP "negated" s_negated [], dP "added" s_added [], dP "multiplied" s_multiplied [], dP "compared" s_compared [], dP "size_of" s_size_of [], dP "floor_at" s_floor_at [], dP "ceiling_at" s_ceiling_at [], dP "plus" s_plus [], dP "times" s_times [], dP "order_of" s_order_of [], dP "step_power" s_step_power [], dP "step_power_of" s_step_power_of [], dP "next_outward" s_next_outward [], dP "next_inward" s_next_inward [], dP "next_above" s_next_above [], dP "is_below_most" s_is_below_most [], dM "Form" "__init__" "Form.__init__" s_Form_init, dM "Form" "has" "Form.has" s_Form_has, dM "Form" "count" "Form.count" s_Form_count, dM "Form" "top" "Form.top" s_Form_top, dM "Form" "above" "Form.above" s_Form_above, dM "Form" "below" "Form.below" s_Form_below, dM "Form" "step" "Form.step" s_Form_step, dP "_law_minus" s_law_minus [], dP "_law_good" s_law_good [], dP "_law_mixed" s_law_mixed [], dP "_law_cell" s_law_cell [], dP "_law_take" s_law_take [], dP "_law_odd" s_law_odd [], dP "_law_number" s_law_number [], dP "_law_form" s_law_form [], dP "law" s_law []]
def fa : List He.Fa := [.glo "is_whole", .glo "is_whole_within", .glo "is_number", .glo "need_number", .glo "need_numbers", .glo "lowered", .glo "negated", .glo "added", .glo "multiplied", .glo "compared", .glo "size_of", .glo "floor_at", .glo "ceiling_at", .glo "plus", .glo "times", .glo "order_of", .glo "step_power", .glo "step_power_of", .glo "next_outward", .glo "next_inward", .glo "next_above", .glo "is_below_most", .glo "_law_minus", .glo "_law_good", .glo "_law_mixed", .glo "_law_cell", .glo "_law_take", .glo "_law_odd", .glo "_law_number", .glo "_law_form", .glo "law", .free "isinstance", .free "len", .free "range", .free "int", .free "bool", .free "tuple", .free "str", .free "min", .free "max", .free "abs", .free "all", .glo "Form", .cls "Form", .mkr "Form", .noat "Form" "bits", .noat "Form" "least", .noat "Form" "most", .meth "Form" "has", .meth "Form" "count", .meth "Form" "top", .meth "Form" "above", .meth "Form" "below", .meth "Form" "step"]
def ex (K : PySem.W.Frag) : Bool := (He.eqO (PySem.W.findIn K (.ref (He.ga K "Form")) "__class__") (some (some (.builtin "object.__class__"))) && (decide (PySem.W.mroIn K (He.ga K "Form") (.type "object") = some true) && (He.eqO (PySem.W.specialIn K (.builtin "object.__class__") "__get__") (some (some (.builtin "getset_descriptor.__get__"))) && (decide (PySem.W.takesIn K (.builtin "object.__class__") = some true) && true))))
abbrev R : PySem.W.OpenRow := PySem.W.OpenLaw.row PySem.Challenge.rw_oncenear_k09_whole_forms_numbers_go_on
abbrev hk : PySem.W.Hook := He.hookX 5 fa fn [] [] ex
def ob (s : PySem.W.SharedT) : He.AlX := He.obsX 5 fa fn [] [] ex (HandSHeadRun.getT s)
theorem ob_eq (s : PySem.W.SharedT) : ob s = hk.obs s.abs := He.obsX_eq (HandSHeadRun.getT_eq s)
set_option maxHeartbeats 0 in
theorem run (w : World) : HandSHeadRun.RunEq R (PySem.W.view R.prog [41]) hk ob 4000 ((["NoNumber", "NoForm", "TooMany", "is_whole", "is_whole_within", "is_number", "need_number", "need_numbers", "plus", "times", "order_of", "lowered", "negated", "added", "multiplied", "compared", "size_of", "floor_at", "ceiling_at", "Form"] : List PySem.Str) ++ (["step_power", "step_power_of", "next_above", "next_outward", "next_inward", "is_below_most", "_law_mixed", "_law_cell", "_law_take", "_law_odd", "_law_number", "_law_form", "_law_minus", "_law_good", "NUMBER_NEEDED", "MOST_NUMBERS"] : List PySem.Str)) w := by
  intro os
  kernel_rfl
theorem facts {P : Program} {w : World} {K : PySem.W.Frag} {h : Heap} {mg : Str → Option Value} {f : Addr} (X : K.In h) (G : h.Ns mainGlobals mg) (hfa : mg ("law" : Str) = some (.ref f)) (c : He.SaysX fa fn [] [] ex w h K) :
    ∃ fd : FuncData, (∀ (s : Shared) (v : Value), BindsTo s fd ⟨[v], []⟩ [("_law_script", v)]) ∧ ∀ base : Heap, K.In base → base.Ns mainGlobals mg → FnOk P w K mg base CX0 8 f fd ["_law_script"] (spLaw K) := by
  have cd := c.t.d
  have cm := c.more
  have T : Top mg := ⟨He.free_ok X G (cd.fact 31 (f := .free "isinstance") rfl), He.free_ok X G (cd.fact 32 (f := .free "len") rfl), He.free_ok X G (cd.fact 33 (f := .free "range") rfl), He.free_ok X G (cd.fact 34 (f := .free "int") rfl), He.free_ok X G (cd.fact 35 (f := .free "bool") rfl), He.free_ok X G (cd.fact 36 (f := .free "tuple") rfl), He.free_ok X G (cd.fact 37 (f := .free "str") rfl), He.free_ok X G (cd.fact 38 (f := .free "min") rfl), He.free_ok X G (cd.fact 39 (f := .free "max") rfl), He.free_ok X G (cd.fact 40 (f := .free "abs") rfl), He.free_ok X G (cd.fact 41 (f := .free "all") rfl)⟩
  unfold ex at cm
  obtain ⟨m0, cm⟩ := He.ba cm
  obtain ⟨m1, cm⟩ := He.ba cm
  obtain ⟨m2, cm⟩ := He.ba cm
  obtain ⟨m3, cm⟩ := He.ba cm
  have S_Form : FormC K mg (He.ga K "Form") := ⟨He.glo_ok X G (cd.fact 42 (f := .glo "Form") rfl), He.cls_ok (cd.fact 43 (f := .cls "Form") rfl), He.noat_ok (cd.fact 45 (f := .noat "Form" "bits") rfl), He.noat_ok (cd.fact 46 (f := .noat "Form" "least") rfl), He.noat_ok (cd.fact 47 (f := .noat "Form" "most") rfl), He.eqO_ok m0, He.eqO_ok m2, of_decide_eq_true m3, of_decide_eq_true m1⟩
  have M_Form := He.mkr_ok (cd.fact 44 (f := .mkr "Form") rfl)
  obtain ⟨fd0, F0⟩ := cd.def_ 0 (d := dP "is_whole" s_is_whole []) rfl
  obtain ⟨fd1, F1⟩ := cd.def_ 1 (d := dP "is_whole_within" s_is_whole_within []) rfl
  obtain ⟨fd2, F2⟩ := cd.def_ 2 (d := dP "is_number" s_is_number []) rfl
  obtain ⟨fd3, F3⟩ := cd.def_ 3 (d := dP "need_number" s_need_number []) rfl
  obtain ⟨fd4, F4⟩ := cd.def_ 4 (d := dP "need_numbers" s_need_numbers []) rfl
  obtain ⟨fd5, F5⟩ := cd.def_ 5 (d := dP "lowered" s_lowered []) rfl
  obtain ⟨fd6, F6⟩ := cd.def_ 6 (d := dP "negated" s_negated []) rfl
  obtain ⟨fd7, F7⟩ := cd.def_ 7 (d := dP "added" s_added []) rfl
  obtain ⟨fd8, F8⟩ := cd.def_ 8 (d := dP "multiplied" s_multiplied []) rfl
  obtain ⟨fd9, F9⟩ := cd.def_ 9 (d := dP "compared" s_compared []) rfl
  obtain ⟨fd10, F10⟩ := cd.def_ 10 (d := dP "size_of" s_size_of []) rfl
  obtain ⟨fd11, F11⟩ := cd.def_ 11 (d := dP "floor_at" s_floor_at []) rfl
  obtain ⟨fd12, F12⟩ := cd.def_ 12 (d := dP "ceiling_at" s_ceiling_at []) rfl
  obtain ⟨fd13, F13⟩ := cd.def_ 13 (d := dP "plus" s_plus []) rfl
  obtain ⟨fd14, F14⟩ := cd.def_ 14 (d := dP "times" s_times []) rfl
  obtain ⟨fd15, F15⟩ := cd.def_ 15 (d := dP "order_of" s_order_of []) rfl
  obtain ⟨fd16, F16⟩ := cd.def_ 16 (d := dP "step_power" s_step_power []) rfl
  obtain ⟨fd17, F17⟩ := cd.def_ 17 (d := dP "step_power_of" s_step_power_of []) rfl
  obtain ⟨fd18, F18⟩ := cd.def_ 18 (d := dP "next_outward" s_next_outward []) rfl
  obtain ⟨fd19, F19⟩ := cd.def_ 19 (d := dP "next_inward" s_next_inward []) rfl
  obtain ⟨fd20, F20⟩ := cd.def_ 20 (d := dP "next_above" s_next_above []) rfl
  obtain ⟨fd21, F21⟩ := cd.def_ 21 (d := dP "is_below_most" s_is_below_most []) rfl
  obtain ⟨fd22, F22⟩ := cd.def_ 22 (d := dM "Form" "__init__" "Form.__init__" s_Form_init) rfl
  obtain ⟨fd23, F23⟩ := cd.def_ 23 (d := dM "Form" "has" "Form.has" s_Form_has) rfl
  obtain ⟨fd24, F24⟩ := cd.def_ 24 (d := dM "Form" "count" "Form.count" s_Form_count) rfl
  obtain ⟨fd25, F25⟩ := cd.def_ 25 (d := dM "Form" "top" "Form.top" s_Form_top) rfl
  obtain ⟨fd26, F26⟩ := cd.def_ 26 (d := dM "Form" "above" "Form.above" s_Form_above) rfl
  obtain ⟨fd27, F27⟩ := cd.def_ 27 (d := dM "Form" "below" "Form.below" s_Form_below) rfl
  obtain ⟨fd28, F28⟩ := cd.def_ 28 (d := dM "Form" "step" "Form.step" s_Form_step) rfl
  obtain ⟨fd29, F29⟩ := cd.def_ 29 (d := dP "_law_minus" s_law_minus []) rfl
  obtain ⟨fd30, F30⟩ := cd.def_ 30 (d := dP "_law_good" s_law_good []) rfl
  obtain ⟨fd31, F31⟩ := cd.def_ 31 (d := dP "_law_mixed" s_law_mixed []) rfl
  obtain ⟨fd32, F32⟩ := cd.def_ 32 (d := dP "_law_cell" s_law_cell []) rfl
  obtain ⟨fd33, F33⟩ := cd.def_ 33 (d := dP "_law_take" s_law_take []) rfl
  obtain ⟨fd34, F34⟩ := cd.def_ 34 (d := dP "_law_odd" s_law_odd []) rfl
  obtain ⟨fd35, F35⟩ := cd.def_ 35 (d := dP "_law_number" s_law_number []) rfl
  obtain ⟨fd36, F36⟩ := cd.def_ 36 (d := dP "_law_form" s_law_form []) rfl
  obtain ⟨fd37, F37⟩ := cd.def_ 37 (d := dP "law" s_law []) rfl
  have e := hfa.symm.trans (He.glo_ok X G (cd.fact 30 (f := .glo "law") rfl))
  cases e
  have b := FunD.bindsA (ps := ["_law_script"]) F37 fun _ _ _ _ _ _ us hl => match us, hl with | [_], _ => rfl
  have Mt_has := He.meth_ok (cd.fact 48 (f := .meth "Form" "has") rfl)
  have Mt_count := He.meth_ok (cd.fact 49 (f := .meth "Form" "count") rfl)
  have Mt_top := He.meth_ok (cd.fact 50 (f := .meth "Form" "top") rfl)
  have Mt_above := He.meth_ok (cd.fact 51 (f := .meth "Form" "above") rfl)
  have Mt_below := He.meth_ok (cd.fact 52 (f := .meth "Form" "below") rfl)
  have Mt_step := He.meth_ok (cd.fact 53 (f := .meth "Form" "step") rfl)
  have kbF := kb_pos (ps := ["self", "bits", "least", "most"]) F22 2 ["least", "most"] (fun _ _ _ _ _ _ us ws h1 h2 => match us, h1, ws, h2 with | [_, _], _, [_, _], _ => rfl)
  refine ⟨fd37, fun s v => b s [v] rfl, fun base _ _ => ?_⟩
  have c0 : Cal P w K mg base CX0 1 "is_whole" ["thing"] (spWhole K) _ fd0 := ⟨ok_is_whole T F0, He.glo_ok X G (cd.fact 0 (f := .glo "is_whole") rfl), F0.kp, F0.bindsN fun _ _ _ _ _ _ us hl => match us, hl with | [_], _ => rfl⟩
  have c1 : Cal P w K mg base CX0 2 "is_whole_within" ["thing", "least", "most"] (spWithin K) _ fd1 := ⟨ok_is_whole_within T F1 c0, He.glo_ok X G (cd.fact 1 (f := .glo "is_whole_within") rfl), F1.kp, F1.bindsN fun _ _ _ _ _ _ us hl => match us, hl with | [_, _, _], _ => rfl⟩
  have c2 : Cal P w K mg base CX0 1 "is_number" ["thing"] (spNum K) _ fd2 := ⟨ok_is_number T F2, He.glo_ok X G (cd.fact 2 (f := .glo "is_number") rfl), F2.kp, F2.bindsN fun _ _ _ _ _ _ us hl => match us, hl with | [_], _ => rfl⟩
  have c3 : Cal P w K mg base CX0 2 "need_number" ["thing"] (spNeed K) _ fd3 := ⟨ok_need_number T F3 c2, He.glo_ok X G (cd.fact 3 (f := .glo "need_number") rfl), F3.kp, F3.bindsN fun _ _ _ _ _ _ us hl => match us, hl with | [_], _ => rfl⟩
  have c4 : Cal P w K mg base CX0 2 "need_numbers" ["one", "other"] (spNeed2 K) _ fd4 := ⟨ok_need_numbers T F4 c2, He.glo_ok X G (cd.fact 4 (f := .glo "need_numbers") rfl), F4.kp, F4.bindsN fun _ _ _ _ _ _ us hl => match us, hl with | [_, _], _ => rfl⟩
  have c5 : Cal P w K mg base CX0 1 "lowered" ["m", "e"] spNof _ fd5 := ⟨ok_lowered T F5, He.glo_ok X G (cd.fact 5 (f := .glo "lowered") rfl), F5.kp, F5.bindsN fun _ _ _ _ _ _ us hl => match us, hl with | [_, _], _ => rfl⟩
  have c6 : Cal P w K mg base CX0 1 "negated" ["number"] (spNeg K) _ fd6 := ⟨ok_negated T F6, He.glo_ok X G (cd.fact 6 (f := .glo "negated") rfl), F6.kp, F6.bindsN fun _ _ _ _ _ _ us hl => match us, hl with | [_], _ => rfl⟩
  have c7 : Cal P w K mg base CX0 2 "added" ["one", "other"] (spTwo K padd) _ fd7 := ⟨ok_added T F7 c5, He.glo_ok X G (cd.fact 7 (f := .glo "added") rfl), F7.kp, F7.bindsN fun _ _ _ _ _ _ us hl => match us, hl with | [_, _], _ => rfl⟩
  have c8 : Cal P w K mg base CX0 1 "multiplied" ["one", "other"] (spTwo K pmul) _ fd8 := ⟨ok_multiplied T F8, He.glo_ok X G (cd.fact 8 (f := .glo "multiplied") rfl), F8.kp, F8.bindsN fun _ _ _ _ _ _ us hl => match us, hl with | [_, _], _ => rfl⟩
  have c9 : Cal P w K mg base CX0 1 "compared" ["one", "other"] (spOrd K) _ fd9 := ⟨ok_compared T F9, He.glo_ok X G (cd.fact 9 (f := .glo "compared") rfl), F9.kp, F9.bindsN fun _ _ _ _ _ _ us hl => match us, hl with | [_, _], _ => rfl⟩
  have c10 : Cal P w K mg base CX0 1 "size_of" ["number"] (spSize K) _ fd10 := ⟨ok_size_of T F10, He.glo_ok X G (cd.fact 10 (f := .glo "size_of") rfl), F10.kp, F10.bindsN fun _ _ _ _ _ _ us hl => match us, hl with | [_], _ => rfl⟩
  have c11 : Cal P w K mg base CX0 1 "floor_at" ["number", "power"] (spFloorG K) _ fd11 := ⟨ok_floor_at T F11, He.glo_ok X G (cd.fact 11 (f := .glo "floor_at") rfl), F11.kp, F11.bindsN fun _ _ _ _ _ _ us hl => match us, hl with | [_, _], _ => rfl⟩
  have c12 : Cal P w K mg base CX0 2 "ceiling_at" ["number", "power"] (spCeilG K) _ fd12 := ⟨ok_ceiling_at T F12 c11 c6, He.glo_ok X G (cd.fact 12 (f := .glo "ceiling_at") rfl), F12.kp, F12.bindsN fun _ _ _ _ _ _ us hl => match us, hl with | [_, _], _ => rfl⟩
  have c13 : Cal P w K mg base CX0 3 "plus" ["one", "other"] (spTwo K padd) _ fd13 := ⟨ok_plus T F13 c4 c7, He.glo_ok X G (cd.fact 13 (f := .glo "plus") rfl), F13.kp, F13.bindsN fun _ _ _ _ _ _ us hl => match us, hl with | [_, _], _ => rfl⟩
  have c14 : Cal P w K mg base CX0 3 "times" ["one", "other"] (spTwo K pmul) _ fd14 := ⟨ok_times T F14 c4 c8, He.glo_ok X G (cd.fact 14 (f := .glo "times") rfl), F14.kp, F14.bindsN fun _ _ _ _ _ _ us hl => match us, hl with | [_, _], _ => rfl⟩
  have c15 : Cal P w K mg base CX0 3 "order_of" ["one", "other"] (spOrd K) _ fd15 := ⟨ok_order_of T F15 c4 c9, He.glo_ok X G (cd.fact 15 (f := .glo "order_of") rfl), F15.kp, F15.bindsN fun _ _ _ _ _ _ us hl => match us, hl with | [_, _], _ => rfl⟩
  have c16 : Cal P w K mg base CX0 1 "step_power" ["form", "size"] (spSP K (He.ga K "Form")) _ fd16 := ⟨ok_step_power T S_Form F16, He.glo_ok X G (cd.fact 16 (f := .glo "step_power") rfl), F16.kp, F16.bindsN fun _ _ _ _ _ _ us hl => match us, hl with | [_, _], _ => rfl⟩
  have c17 : Cal P w K mg base CX0 2 "step_power_of" ["form", "number"] (spSPO K (He.ga K "Form")) _ fd17 := ⟨ok_step_power_of T S_Form F17 c16 c10, He.glo_ok X G (cd.fact 17 (f := .glo "step_power_of") rfl), F17.kp, F17.bindsN fun _ _ _ _ _ _ us hl => match us, hl with | [_, _], _ => rfl⟩
  have c18 : Cal P w K mg base CX0 3 "next_outward" ["form", "number"] (spNext K (He.ga K "Form") nout) _ fd18 := ⟨ok_next_outward T S_Form F18 c17 c5 c11, He.glo_ok X G (cd.fact 18 (f := .glo "next_outward") rfl), F18.kp, F18.bindsN fun _ _ _ _ _ _ us hl => match us, hl with | [_, _], _ => rfl⟩
  have c19 : Cal P w K mg base CX0 3 "next_inward" ["form", "number"] (spNext K (He.ga K "Form") nin) _ fd19 := ⟨ok_next_inward T S_Form F19 c10 c16 c5 c12, He.glo_ok X G (cd.fact 19 (f := .glo "next_inward") rfl), F19.kp, F19.bindsN fun _ _ _ _ _ _ us hl => match us, hl with | [_, _], _ => rfl⟩
  have c20 : Cal P w K mg base CX0 4 "next_above" ["form", "number"] (spNext K (He.ga K "Form") nabv) _ fd20 := ⟨ok_next_above T S_Form F20 c6 c19 c18, He.glo_ok X G (cd.fact 20 (f := .glo "next_above") rfl), F20.kp, F20.bindsN fun _ _ _ _ _ _ us hl => match us, hl with | [_, _], _ => rfl⟩
  have c21 : Cal P w K mg base CX0 2 "is_below_most" ["form", "number"] (spBM K (He.ga K "Form")) _ fd21 := ⟨ok_is_below_most T S_Form F21 c10, He.glo_ok X G (cd.fact 21 (f := .glo "is_below_most") rfl), F21.kp, F21.bindsN fun _ _ _ _ _ _ us hl => match us, hl with | [_, _], _ => rfl⟩
  have c22 : CalJ P w K mg base 3 ["self", "bits", "least", "most"] (spFInit (He.ga K "Form")) _ fd22 := ⟨ok_Form_init T S_Form F22 c1⟩
  have c23 : CalI P w K mg base CX0 3 ["self", "number"] (spHas K (He.ga K "Form")) _ fd23 := ⟨ok_Form_has T S_Form F23 c3 c21, F23.bindsN fun _ _ _ _ _ _ us hl => match us, hl with | [_, _], _ => rfl⟩
  have c24 : CalI P w K mg base CX0 1 ["self"] (spCnt K (He.ga K "Form")) _ fd24 := ⟨ok_Form_count T S_Form F24, F24.bindsN fun _ _ _ _ _ _ us hl => match us, hl with | [_], _ => rfl⟩
  have c25 : CalI P w K mg base CX0 2 ["self"] (spTop K (He.ga K "Form")) _ fd25 := ⟨ok_Form_top T S_Form F25 c5, F25.bindsN fun _ _ _ _ _ _ us hl => match us, hl with | [_], _ => rfl⟩
  have c26 : CalI P w K mg base CX0 5 ["self", "number"] (spOptF K (He.ga K "Form") aboveF) _ fd26 := ⟨ok_Form_above T S_Form Mt_top F26 c3 c25 c9 c6 c20, F26.bindsN fun _ _ _ _ _ _ us hl => match us, hl with | [_, _], _ => rfl⟩
  have c27 : CalI P w K mg base CX0 6 ["self", "number"] (spOptF K (He.ga K "Form") belowF) _ fd27 := ⟨ok_Form_below T S_Form Mt_above F27 c3 c26 c6, F27.bindsN fun _ _ _ _ _ _ us hl => match us, hl with | [_, _], _ => rfl⟩
  have c28 : CalI P w K mg base CX0 3 ["self", "number"] (spStep K (He.ga K "Form")) _ fd28 := ⟨ok_Form_step T S_Form F28 c3 c17, F28.bindsN fun _ _ _ _ _ _ us hl => match us, hl with | [_, _], _ => rfl⟩
  have c29 : Cal P w K mg base CX0 4 "_law_minus" ["_law_value"] (spMin K) _ fd29 := ⟨ok_law_minus T F29 c14, He.glo_ok X G (cd.fact 22 (f := .glo "_law_minus") rfl), F29.kp, F29.bindsN fun _ _ _ _ _ _ us hl => match us, hl with | [_], _ => rfl⟩
  have c30 : Cal P w K mg base CX0 7 "_law_good" ["_law_made", "_law_wider", "_law_value"] (spGoodF K (He.ga K "Form")) _ fd30 := ⟨ok_law_good T S_Form Mt_above Mt_below Mt_has Mt_top Mt_step F30 c26 c27 c23 c25 c28 c15 c13 c29, He.glo_ok X G (cd.fact 23 (f := .glo "_law_good") rfl), F30.kp, F30.bindsN fun _ _ _ _ _ _ us hl => match us, hl with | [_, _, _], _ => rfl⟩
  have c31 : Cal P w K mg base CX0 1 "_law_mixed" ["_law_cell_here", "_law_k"] spMix _ fd31 := ⟨ok_law_mixed T F31, He.glo_ok X G (cd.fact 24 (f := .glo "_law_mixed") rfl), F31.kp, F31.bindsN fun _ _ _ _ _ _ us hl => match us, hl with | [_, _], _ => rfl⟩
  have c32 : Cal P w K mg base CX0 2 "_law_cell" ["_law_script", "_law_k"] (spCel K) _ fd32 := ⟨ok_law_cell T F32 c31, He.glo_ok X G (cd.fact 25 (f := .glo "_law_cell") rfl), F32.kp, F32.bindsN fun _ _ _ _ _ _ us hl => match us, hl with | [_, _], _ => rfl⟩
  have c33 : Cal P w K mg base CX0 1 "_law_take" ["_law_pile", "_law_size"] spTake _ fd33 := ⟨ok_law_take T F33, He.glo_ok X G (cd.fact 26 (f := .glo "_law_take") rfl), F33.kp, F33.bindsN fun _ _ _ _ _ _ us hl => match us, hl with | [_, _], _ => rfl⟩
  have c34 : Cal P w K mg base CX0 1 "_law_odd" ["_law_m", "_law_e"] spNof _ fd34 := ⟨ok_law_odd T F34, He.glo_ok X G (cd.fact 27 (f := .glo "_law_odd") rfl), F34.kp, F34.bindsN fun _ _ _ _ _ _ us hl => match us, hl with | [_, _], _ => rfl⟩
  have c35 : Cal P w K mg base CX0 2 "_law_number" ["_law_pile"] spNumber _ fd35 := ⟨ok_law_number T F35 c33 c34, He.glo_ok X G (cd.fact 28 (f := .glo "_law_number") rfl), F35.kp, F35.bindsN fun _ _ _ _ _ _ us hl => match us, hl with | [_], _ => rfl⟩
  have c36 : Cal P w K mg base CX0 2 "_law_form" ["_law_pile"] (spForm K) _ fd36 := ⟨ok_law_form T F36 c33, He.glo_ok X G (cd.fact 29 (f := .glo "_law_form") rfl), F36.kp, F36.bindsN fun _ _ _ _ _ _ us hl => match us, hl with | [_], _ => rfl⟩
  exact ok_law T S_Form M_Form Mt_above Mt_below Mt_top Mt_count F37 c32 c33 c34 c35 c36 c29 c30 c22 c26 c27 c25 c24 kbF
end Onc
open PySem PySem.W PySem.Calls PyProof.Rows
set_option maxRecDepth 100000 in
set_option maxHeartbeats 0 in
theorem PySem.Challenge.cw_oncenear_k09_whole_forms_numbers_go_on_holds : PySem.Challenge.rw_oncenear_k09_whole_forms_numbers_go_on.Holds := by
  w_on; o_law
  refine HandSHeadRun.head_any (r := OpenLaw.row PySem.Challenge.rw_oncenear_k09_whole_forms_numbers_go_on) (q := view (OpenLaw.row PySem.Challenge.rw_oncenear_k09_whole_forms_numbers_go_on).prog [41]) (H := Onc.hk) (ob := Onc.ob) (M := 4000) (loose := ((["NoNumber", "NoForm", "TooMany", "is_whole", "is_whole_within", "is_number", "need_number", "need_numbers", "plus", "times", "order_of", "lowered", "negated", "added", "multiplied", "compared", "size_of", "floor_at", "ceiling_at", "Form"] : List PySem.Str) ++ (["step_power", "step_power_of", "next_above", "next_outward", "next_inward", "is_below_most", "_law_mixed", "_law_cell", "_law_take", "_law_odd", "_law_number", "_law_form", "_law_minus", "_law_good", "NUMBER_NEEDED", "MOST_NUMBERS"] : List PySem.Str))) (d := HandSHeadRun.topDef (OpenLaw.row PySem.Challenge.rw_oncenear_k09_whole_forms_numbers_go_on).prog 41) (kwd := []) Onc.ob_eq
    (by kernel_rfl) (fun s => by kernel_rfl) Onc.run (by kernel_rfl) (by kernel_rfl) (by kernel_rfl) (by rfl) (by first | assumption | decide +kernel) (by decide +kernel) ⟨rfl, rfl, rfl, rfl, rfl, by decide +kernel⟩ ?hw ?hc
  case hw => w_witness2
  case hc =>
    refine L2.walk_ofE (l := PySem.Challenge.rw_oncenear_k09_whole_forms_numbers_go_on) (n := 63) (k := 8) (x := "_law_script") (CX := L2.CX0) rfl (by decide) (by kernel_rfl) ⟨rfl, by decide, by decide⟩ ?F (fun _ _ _ _ z => z)
    intro w mg fa h Y G hmg0
    obtain ⟨K, KX, c⟩ := Y
    have hmg : mg ("law" : PySem.Str) = some (.ref fa) := by
      have e : (HandSHeadRun.topDef (OpenLaw.row PySem.Challenge.rw_oncenear_k09_whole_forms_numbers_go_on).prog 41).name = ("law" : PySem.Str) := by kernel_rfl
      rw [← e]
      exact hmg0
    obtain ⟨fd, hb, hF⟩ := Onc.facts (P := (PySem.Challenge.rw_oncenear_k09_whole_forms_numbers_go_on).prog) (w := w) KX G hmg c
    exact ⟨K, fd, Onc.spLaw K, KX, hb, fun H a ns hl _ hS => ⟨a, ns, rfl, hS, fun _ => rfl⟩, hF⟩
