import PyProof.Rows.All
import Wide.All
import OpenK.AllK
import Wide.FinOn
import KE.KStateDown
import KE.KBits
import Lean
import HandS.ForMost
import HandS.More
import HandS.Exc
import HandS.WordsExc
import HandS.Defaults
import HandS.IsInst
import HandS.Wide
import HandS.WideBits
import HandS.Evl
import HandS.Head0
import HandS.Head1
import HandS.Head2
import HandS.HeadEnd
import HandS.HeadHook1
import HandS.HeadHook2
import KE.DataCmp
import HandS.NoneIn
import HandS.HeadHook3
import HandS.HeadHook4
import PySem.Challenge.RW_oncenear_k16_sums_and_products_of_stretc
set_option Elab.async false
set_option linter.all false
set_option maxRecDepth 100000
set_option maxHeartbeats 2000000
namespace Onc
open PySem PySem.Spec PyProof.Rows L2 Evl
/-! ### defs and calls -/
section
variable {P : Program} {w : World} {K : PySem.W.Frag} {mg : Str → Option Value} {base : Heap} {x qual : Str} {params : Arguments} {body : List Stmt} {scope : Scope} {dvs : List V} {kws : List (Str × V)} {f : Addr} {fd : FuncData}
theorem ok0 {N ps : List Str} {k : Nat} {sp : Sp} (F : FunD K x qual params body scope dvs kws f fd) (S : FnScope N ps scope) (len : ∀ vs H Q E, sp vs H Q E → vs.length = ps.length)
    (hbody : ∀ (cdv : Value) (A : Around) (outer : List Env) (s : Shared) (H : Hp) (vs : List V) (Q : VK) (E : XK), Room k (A.deeper (envOfC qual scope s.heap.objs.size f cdv)) → sp vs H Q E →
      ∃ t, PSs (cxOf CX0 P w K mg base N qual scope f cdv A outer s H E).nox body t ∧ t { nx := fun _ H' => Q .non H', rt := Q } (start N vs) H) : FnOk P w K mg base CX0 (k + 1) f fd ps sp :=
  F.ok S len fun cdv A outer s H vs Q E hr h => by
    obtain ⟨t, h1, h2⟩ := hbody cdv A outer s H vs Q E hr h
    exact ⟨t, h1.nox, h2⟩
end
structure Cal (P : Program) (w : World) (K : PySem.W.Frag) (mg : Str → Option Value) (base : Heap) (CX : CXT) (k : Nat) (x : Str) (ps : List Str) (sp : Sp) (f : Addr) (fd : FuncData) : Prop where
  ok : FnOk P w K mg base CX k f fd ps sp
  m : mg x = some (.ref f)
  kp : PySem.W.keepIn K (.ref f) = true
  b : Binds K fd ps []
section
variable {X : Cx} {CX : CXT} {k n : Nat} {f : Addr} {fd : FuncData} {ps ks : List Str} {sp : Sp} {E : XK} {x : Str} {p pos : Pos} {kws : List Keyword} {tk : TA} {g : List Value → List Value → List Value} {gV : List V → List V → List V}
/-- f(k = v, ..), no positional ones -/
theorem pe_callN0 (F : FnOk X.prog X.w X.K X.mg X.base CX k f fd ps sp) (hr : Room k X.A) (hg : Gl X x) (hm : X.mg x = some (.ref f)) (hk : PySem.W.keepIn X.K (.ref f) = true) (hb : KBn X.K fd ps 0 ks g gV) (hx : Passes CX X E)
    (hkw : PK X kws tk) (hall : (backToKw pos (keywordEach kws X.env)).all (·.1.isSome) = true := by rfl) (hks : (backToKw pos (keywordEach kws X.env)).filterMap (·.1) = ks := by rfl)
    (hdb : (x == ("__debug__" : Str)) = false := by decide)
    (hpl : ((backTo pos (starEach [] X.env)).any (·.1) || (backToKw pos (keywordEach kws X.env)).any (·.1.isNone)) = false := by rfl) :
    PE X (.Call (.Name x p) [] kws pos) (tCallN 0 ks.length sp gV E tNil tk) := by
  refine ⟨fun pins s σ H Q I h => ?_⟩
  refine wpAny_Call_Name_kw (ld_glob I hg hm ?_ hdb)
  refine PySem.W.callWith_KW0 (h₀ := X.base) I.ok.mod.kin hk hall ?_ hpl
  refine thn (hkw.run pos pins s σ H _ I h) fun ws s2 ⟨zs, H2, I2, rz, l1, l2, q2⟩ => ⟨I2.kIn, ?_⟩
  rw [hks]
  exact run_fnN (us := []) (vs := []) F hr hb hx I2 .nil rz l1 l2 q2
end
section
variable {K : PySem.W.Frag} {x qual : Str} {params : Arguments} {body : List Stmt} {scope : Scope} {dvs : List V} {kws : List (Str × V)} {f : Addr} {fd : FuncData} {ps : List Str}
/-- keywords alone, a def without defaults -/
theorem kb_plain (F : FunD K x qual params body scope [] kws f fd) (ks : List Str) (g : {α : Type} → List α → List α)
    (hrel : ∀ {zs : List V} {ws : List Value}, Vals zs ws → Vals (g zs) (g ws))
    (h : ∀ (kV doc pm : Value) (an : Option Addr) (cdv ct : Value) (ws : List Value), ws.length = ks.length → bindArgs (PySem.W.fnOf x qual params body scope .none kV doc pm an cdv ct) ⟨[], ks.zip ws⟩ = pure (ps.zip (g ws))) : KBn K fd ps 0 ks (fun _ ws => g ws) (fun _ zs => g zs) := by
  obtain ⟨oc, od, dV, kV, doc, pm, an, cdv, ct, osl, rfl, lk, hcd, hD, hK⟩ := F.ex
  rcases hD with ⟨_, rfl⟩ | ⟨e, _⟩
  · refine ⟨fun s us ws X l1 l2 => ?_, fun _ r2 => hrel r2⟩
    have e0 : us = [] := List.length_eq_zero_iff.mp l1
    subst e0
    exact .of_eq (h kV doc pm an cdv ct ws l2)
  · exact absurd rfl e
/-- keywords alone, a def with defaults -/
theorem kb_dfl (F : FunD K x qual params body scope dvs kws f fd) (hd : dvs ≠ []) (ks : List Str) (g : {α : Type} → List α → List α → List α)
    (hrel : ∀ {ds zs : List V} {its ws : List Value}, Vals ds its → Vals zs ws → Vals (g ds zs) (g its ws))
    (h : ∀ (T : Addr) (kV doc pm : Value) (an : Option Addr) (cdv ct : Value) (its ws : List Value), its.length = dvs.length → ws.length = ks.length →
      ∃ k, bindArgs (PySem.W.fnOf x qual params body scope (.ref T) kV doc pm an cdv ct) ⟨[], ks.zip ws⟩ = seqItems? (.ref T) >>= k ∧ k (some its.toArray) = pure (ps.zip (g its ws))) :
    ∃ its : List Value, KBn K fd ps 0 ks (fun _ ws => g its ws) (fun _ zs => g dvs zs) := by
  obtain ⟨oc, od, dV, kV, doc, pm, an, cdv, ct, osl, rfl, lk, hcd, hD, hK⟩ := F.ex
  rcases hD with ⟨e, _⟩ | ⟨_, T, o, its, m, rfl, lT, oT, rT⟩
  · exact absurd e hd
  · refine ⟨its, fun s us ws X l1 l2 => ?_, fun _ r2 => hrel rT r2⟩
    have e0 : us = [] := List.length_eq_zero_iff.mp l1
    subst e0
    obtain ⟨k, e1, e2⟩ := h T kV doc pm an cdv ct its ws rT.length.symm l2
    refine BindsTo.of_looks fun M => ?_
    rw [e1]
    exact looks_items X lT oT (.of_pure e2)
end
/-! ### kinds -/
section
variable {K : PySem.W.Frag} {H H' : Hp}
theorem tyX_ex {v : V} {t : Value} (e : Ex H H') (h : TyX K H v t) : TyX K H' v t := by
  cases h with
  | base b =>
    cases b with
    | non => exact .base .non
    | bl x => exact .base (.bl x)
    | int x => exact .base (.int x)
    | str x => exact .base (.str x)
    | flt x => exact .base (.flt x)
    | lst q => exact .base (.lst (e _ _ q))
    | frz q => exact .base (.frz (e _ _ q))
    | tup q => exact .base (.tup (e _ _ q))
    | dK q => exact .base (.dK (e _ _ q))
    | dT q => exact .base (.dT (e _ _ q))
    | ins q a b c d f => exact .base (.ins (e _ _ q) a b c d f)
  | byt b => exact .byt b
  | set q => exact .set (e _ _ q)
  | kList q c => exact .kList q c
  | kTuple q c => exact .kTuple q c
  | kDict q c => exact .kDict q c
  | fTuple q => exact .fTuple (e _ _ q)
  | fDict q => exact .fDict (e _ _ q)
theorem sqT_ty {a : Addr} {xs : List V} (h : SqT K H a xs) : TyX K H (.ref a) (.type "tuple") := by
  rcases h with (h | ⟨o, h⟩) | ⟨o, its, n, h1, h2, _⟩
  · exact .base (.tup h)
  · exact .fTuple h
  · exact .kTuple h1 h2
theorem sqL_ty {a : Addr} {xs : List V} (h : SqL K H a xs) : TyX K H (.ref a) (.type "list") := by
  rcases h with (h | ⟨o, h⟩) | ⟨o, its, n, h1, h2, _⟩
  · exact .base (.lst h)
  · exact .base (.frz h)
  · exact .kList h1 h2
/-- whether v is a whole number, by its kind -/
inductive WholeIs (K : PySem.W.Frag) (H : Hp) : V → Bool → Prop
  | int (i : Int) : WholeIs K H (.int i) true
  | bl (x : Bool) : WholeIs K H (.bl x) false
  | no {v : V} {t : Value} {b2 : Bool} (h : TyX K H v t) (k1 : PySem.W.kitOne K t (.type "int") = some false) (k2 : PySem.W.kitOne K t (.type "bool") = some b2) : WholeIs K H v false
theorem ty_int (i : Int) : TyX K H (.int i) (.type "int") := .base (.int i)
theorem ty_bl (x : Bool) : TyX K H (.bl x) (.type "bool") := .base (.bl x)
theorem kit_ii : PySem.W.kitOne K (.type "int") (.type "int") = some true := kit_ty (by decide +kernel : kitB "int" "int" = some true)
theorem kit_ib : PySem.W.kitOne K (.type "int") (.type "bool") = some false := kit_ty (by decide +kernel : kitB "int" "bool" = some false)
theorem kit_bi : PySem.W.kitOne K (.type "bool") (.type "int") = some true := kit_ty (by decide +kernel : kitB "bool" "int" = some true)
theorem kit_bb : PySem.W.kitOne K (.type "bool") (.type "bool") = some true := kit_ty (by decide +kernel : kitB "bool" "bool" = some true)
theorem WholeIs.kinds {v : V} {b : Bool} (h : WholeIs K H v b) : ∃ t b1 b2, TyX K H v t ∧ PySem.W.kitOne K t (.type "int") = some b1 ∧ PySem.W.kitOne K t (.type "bool") = some b2 ∧ b = (b1 && !b2) := by
  cases h with
  | int i => exact ⟨_, _, _, ty_int i, kit_ii, kit_ib, rfl⟩
  | bl x => exact ⟨_, _, _, ty_bl x, kit_bi, kit_bb, rfl⟩
  | no h k1 k2 => exact ⟨_, _, _, h, k1, k2, rfl⟩
def isNumB (m e : Int) : Bool := decide (m % 2 = 1) || (decide (m = 0) && decide (e = 0))
inductive NumIs (K : PySem.W.Frag) (H : Hp) : V → Bool → Prop
  | no {v : V} {t : Value} (h : TyX K H v t) (k : PySem.W.kitOne K t (.type "tuple") = some false) : NumIs K H v false
  | len {a : Addr} {xs : List V} (h : SqT K H a xs) (l : xs.length ≠ 2) : NumIs K H (.ref a) false
  | fst {a : Addr} {x y : V} {b : Bool} (h : SqT K H a [x, y]) (p : WholeIs K H x false) (q : WholeIs K H y b) : NumIs K H (.ref a) false
  | snd {a : Addr} {x y : V} (h : SqT K H a [x, y]) (p : WholeIs K H x true) (q : WholeIs K H y false) : NumIs K H (.ref a) false
  | num {a : Addr} {m e : Int} (h : SqT K H a [.int m, .int e]) : NumIs K H (.ref a) (isNumB m e)
theorem whole_ex {v : V} {b : Bool} (e : Ex H H') (h : WholeIs K H v b) : WholeIs K H' v b := by
  cases h with
  | int i => exact .int i
  | bl x => exact .bl x
  | no h k1 k2 => exact .no (tyX_ex e h) k1 k2
theorem whole_int (i : Int) : WholeIs K H (.int i) true := .int i
def isWholeD : PyData → Bool
  | .int _ => true
  | _ => false
theorem whole_dp {v : V} {d : PyData} (h : Dp K H v d) : WholeIs K H v (isWholeD d) := by
  cases h with
  | non => exact .no (.base .non) (kit_ty (by decide +kernel : kitB "NoneType" "int" = some false)) (kit_ty (by decide +kernel : kitB "NoneType" "bool" = some false))
  | bl b => exact .bl b
  | int i => exact .int i
  | str x => exact .no (.base (.str x)) (kit_ty (by decide +kernel : kitB "str" "int" = some false)) (kit_ty (by decide +kernel : kitB "str" "bool" = some false))
  | lst q _ => exact .no (sqL_ty q) (kit_ty (by decide +kernel : kitB "list" "int" = some false)) (kit_ty (by decide +kernel : kitB "list" "bool" = some false))
  | tup q _ => exact .no (sqT_ty q) (kit_ty (by decide +kernel : kitB "tuple" "int" = some false)) (kit_ty (by decide +kernel : kitB "tuple" "bool" = some false))
theorem num_dp {v : V} {d : PyData} (h : Dp K H v d) : ∃ b, NumIs K H v b := by
  cases h with
  | non => exact ⟨_, .no (.base .non) (kit_ty (by decide +kernel : kitB "NoneType" "tuple" = some false))⟩
  | bl b => exact ⟨_, .no (.base (.bl b)) (kit_ty (by decide +kernel : kitB "bool" "tuple" = some false))⟩
  | int i => exact ⟨_, .no (.base (.int i)) (kit_ty (by decide +kernel : kitB "int" "tuple" = some false))⟩
  | str x => exact ⟨_, .no (.base (.str x)) (kit_ty (by decide +kernel : kitB "str" "tuple" = some false))⟩
  | lst q _ => exact ⟨_, .no (sqL_ty q) (kit_ty (by decide +kernel : kitB "list" "tuple" = some false))⟩
  | @tup a xs ds q r =>
    cases r with
    | nil => exact ⟨_, .len q (by decide)⟩
    | @cons x xs' d1 ds' r1 r2 =>
      cases r2 with
      | nil => exact ⟨_, .len q (by simp)⟩
      | @cons y ys d2 ds'' r3 r4 =>
        cases r4 with
        | cons r5 r6 => exact ⟨_, .len q (by simp)⟩
        | nil =>
          have w1 := whole_dp r1
          have w2 := whole_dp r3
          cases r1 with
          | int m =>
            cases r3 with
            | int e => exact ⟨_, .num q⟩
            | _ => exact ⟨_, .snd q w1 w2⟩
          | _ => exact ⟨_, .fst q w1 w2⟩
theorem num_ex {v : V} {b : Bool} (e : Ex H H') (h : NumIs K H v b) : NumIs K H' v b := by
  cases h with
  | no h k => exact .no (tyX_ex e h) k
  | len h l => exact .len (ex_t e h) l
  | fst h p q => exact .fst (ex_t e h) (whole_ex e p) (whole_ex e q)
  | snd h p q => exact .snd (ex_t e h) (whole_ex e p) (whole_ex e q)
  | num h => exact .num (ex_t e h)
mutual
theorem dp_ex (e : Ex H H') : ∀ (d : PyData) (v : V), Dp K H v d → Dp K H' v d
  | .none, _, h => by cases h; exact .non
  | .bool b, _, h => by cases h; exact .bl b
  | .int i, _, h => by cases h; exact .int i
  | .str x, _, h => by cases h; exact .str x
  | .list ds, _, h => by
    cases h with
    | lst hs ha => exact .lst (ex_l e hs) (dpAll_ex e ds _ ha)
  | .tuple ds, _, h => by
    cases h with
    | tup hs ha => exact .tup (ex_t e hs) (dpAll_ex e ds _ ha)
  | .dict _, _, h => by cases h
theorem dpAll_ex (e : Ex H H') : ∀ (ds : List PyData) (vs : List V), DpAll K H vs ds → DpAll K H' vs ds
  | [], _, h => by cases h; exact .nil
  | d :: ds, _, h => by
    cases h with
    | cons h1 h2 => exact .cons (dp_ex e d _ h1) (dpAll_ex e ds _ h2)
end
theorem dpAll_mem {vs : List V} {ds : List PyData} (h : DpAll K H vs ds) : ∀ {i : Nat} {v : V}, vs[i]? = some v → ∃ d, Dp K H v d := by
  intro i v hv
  induction vs generalizing ds i with
  | nil => simp at hv
  | cons x xs ih =>
    cases h with
    | cons h1 h2 =>
      cases i with
      | zero =>
        have e : x = v := Option.some.inj hv
        subst e
        exact ⟨_, h1⟩
      | succ j => exact ih h2 hv
theorem dpAll_append : ∀ {xs ys : List V} {ds es : List PyData}, DpAll K H xs ds → DpAll K H ys es → DpAll K H (xs ++ ys) (ds ++ es)
  | [], _, [], _, _, h => h
  | _ :: _, _, _ :: _, _, .cons h1 h2, h => .cons h1 (dpAll_append h2 h)
/-! ### data by evaluation -/
def EvD (K : PySem.W.Frag) (te : TE) (σ : L2.St) (H : Hp) : Prop := ∀ H1, Ex H H1 → ∀ Q : VK, (∀ v H2, Ex H1 H2 → (∃ d, Dp K H2 v d) → Q v H2) → te σ H1 Q
def EvDs (K : PySem.W.Frag) (ta : TA) (σ : L2.St) (H : Hp) (n : Nat) : Prop := ∀ H1, Ex H H1 → ∀ Q : List V → Hp → Prop, (∀ vs H2, Ex H1 H2 → (∃ ds, DpAll K H2 vs ds) → vs.length = n → Q vs H2) → ta σ H1 Q
variable {σ : L2.St} {ta tb te : TE}
theorem ed_of {v : V} {d : PyData} (h : Ev te σ H v) (hd : Dp K H v d) : EvD K te σ H := fun H1 e Q q => h H1 e Q fun H2 e2 => q v H2 e2 ⟨d, dp_ex (e.trans e2) d v hd⟩
theorem ed_int {i : Int} (h : Ev te σ H (.int i)) : EvD K te σ H := ed_of h (.int i)
theorem ed_c {v : V} {d : PyData} (hd : Dp K H v d) : EvD K (tC v) σ H := ed_of ev_c hd
theorem eds_nil : EvDs K tNil σ H 0 := fun H1 _ _ q => q [] H1 (Ex.refl H1) ⟨[], .nil⟩ rfl
theorem eds_cons {tr : TA} {n : Nat} (h : EvD K ta σ H) (hr : EvDs K tr σ H n) : EvDs K (tCons ta tr) σ H (n + 1) := fun H1 e Q q =>
  h H1 e _ fun v H2 e2 ⟨d, hd⟩ => hr H2 (e.trans e2) _ fun vs H3 e3 ⟨ds, hds⟩ hl => q (v :: vs) H3 (e2.trans e3) ⟨d :: ds, .cons (dp_ex e3 d v hd) hds⟩ (congrArg Nat.succ hl)
theorem ed_tup {tr : TA} {n : Nat} (h : EvDs K tr σ H n) (hn : n ≤ 100000 := by decide) : EvD K (tTup tr) σ H := fun H1 e Q q =>
  h H1 e _ fun vs H2 e2 ⟨ds, hds⟩ hl => ⟨sz_of (by rw [hl]; exact hn), fun p hp => q (.ref p) _ (e2.trans (Ex.new hp)) ⟨.tuple ds, .tup (st_of upd_same) (dpAll_ex (Ex.new hp) ds vs hds)⟩⟩
theorem ed_lst {tr : TA} {n : Nat} (h : EvDs K tr σ H n) (hn : n ≤ 100000 := by decide) : EvD K (tLst tr) σ H := fun H1 e Q q =>
  h H1 e _ fun vs H2 e2 ⟨ds, hds⟩ hl => ⟨sz_of (by rw [hl]; exact hn), fun p hp => q (.ref p) _ (e2.trans (Ex.new hp)) ⟨.list ds, .lst (sq_of upd_same) (dpAll_ex (Ex.new hp) ds vs hds)⟩⟩
/-- a new list of data -/
def EvLD (K : PySem.W.Frag) (te : TE) (σ : L2.St) (H : Hp) (n : Nat) : Prop := ∀ H1, Ex H H1 → ∀ Q : VK, (∀ p vs H2, Ex H1 H2 → H1 p = none → H2 p = some (.lst vs) → (∃ ds, DpAll K H2 vs ds) → vs.length = n → Q (.ref p) H2) → te σ H1 Q
theorem eld_lst {tr : TA} {n : Nat} (h : EvDs K tr σ H n) (hn : n ≤ 100000 := by decide) : EvLD K (tLst tr) σ H n := fun H1 e Q q =>
  h H1 e _ fun vs H2 e2 ⟨ds, hds⟩ hl => ⟨sz_of (by rw [hl]; exact hn), fun p hp => q p vs _ (e2.trans (Ex.new hp)) (fresh_back e2 hp) upd_same ⟨ds, dpAll_ex (Ex.new hp) ds vs hds⟩ hl⟩
/-- at slot i stands a list of n data -/
def LdAt (K : PySem.W.Frag) (H : Hp) (v : V) (n : Nat) : Prop := ∃ p vs, v = .ref p ∧ H p = some (.lst vs) ∧ vs.length = n ∧ ∃ ds, DpAll K H vs ds
theorem ldAt_ex {v : V} {n : Nat} (e : Ex H H') (h : LdAt K H v n) : LdAt K H' v n := by
  obtain ⟨p, vs, e1, h1, h2, ds, h3⟩ := h
  exact ⟨p, vs, e1, e _ _ h1, h2, ds, dpAll_ex e ds vs h3⟩
theorem eld_cat {v : V} {i n m : Nat} (hv : σ[i]? = some (some v)) (hl : LdAt K H v n) (h : EvLD K tb σ H m) (hn : n + m ≤ 100000 := by decide) : EvLD K (tOp rCat (tVar i) tb) σ H (n + m) := fun H1 e Q q => by
  obtain ⟨a, us, rfl, h1, h2, ds, h3⟩ := hl
  refine ⟨.ref a, hv, h H1 e _ fun p vs H2 e2 hp hvs ⟨es, hes⟩ hlen => ?_⟩
  refine ⟨a, p, us, vs, rfl, rfl, (e.trans e2) _ _ h1, hvs, sz_of (by rw [h2, hlen]; exact hn), fun r hr => ?_⟩
  exact q r (us ++ vs) _ (e2.trans (Ex.new hr)) (fresh_back e2 hr) upd_same ⟨ds ++ es, dpAll_append (dpAll_ex ((e.trans e2).trans (Ex.new hr)) ds us h3) (dpAll_ex (Ex.new hr) es vs hes)⟩ (by rw [List.length_append, h2, hlen])
end
/-! ### isinstance by kinds -/
section
variable {K : PySem.W.Frag} {H : Hp} {v : V} {t : Value} {b : Bool} {Q : VK}
theorem isi_at {T : String} (h : TyX K H v t) (k : PySem.W.kitOne K t (.type T) = some b) (q : Q (.bl b) H) : rIsi K [v, .ty T] H Q := ⟨v, .ty T, t, .type T, b, rfl, .ty T, h, k, q⟩
theorem isi_tup {a : Addr} {xs : List V} (h : SqT K H a xs) (q : Q (.bl true) H) : rIsi K [.ref a, .ty "tuple"] H Q := isi_at (sqT_ty h) (kit_ty (by decide +kernel : kitB "tuple" "tuple" = some true)) q
theorem rd_isi {σ : L2.St} {i : Nat} {T : String} (hv : σ[i]? = some (some v)) (h : TyX K H v t) (k : PySem.W.kitOne K t (.type T) = some b) (q : Q (.bl b) H) : tCB (rIsi K) (tCons (tVar i) (tCons (tC (.ty T)) tNil)) σ H Q := ⟨v, hv, isi_at h k q⟩
theorem rd_tup {σ : L2.St} {i : Nat} {a : Addr} {xs : List V} (hv : σ[i]? = some (some (.ref a))) (h : SqT K H a xs) (q : Q (.bl true) H) : tCB (rIsi K) (tCons (tVar i) (tCons (tC (.ty "tuple")) tNil)) σ H Q := ⟨_, hv, isi_tup h q⟩
theorem rd_isiE {σ : L2.St} {ta : TE} {T : String} (hv : ∀ Q' : VK, Q' v H → ta σ H Q') (h : TyX K H v t) (k : PySem.W.kitOne K t (.type T) = some b) (q : Q (.bl b) H) : tCB (rIsi K) (tCons ta (tCons (tC (.ty T)) tNil)) σ H Q := hv _ (isi_at h k q)
theorem rd_tupC {σ : L2.St} {ta : TE} {W : V → Hp → Prop} (hv : ∀ Q' : VK, (∀ v H', W v H' → Q' v H') → ta σ H Q') (hW : ∀ v H', W v H' → ∃ a xs, v = .ref a ∧ SqT K H' a xs) (q : ∀ v H', W v H' → Q (.bl true) H') : tCB (rIsi K) (tCons ta (tCons (tC (.ty "tuple")) tNil)) σ H Q := hv _ fun v H' hw => by
  obtain ⟨a, xs, rfl, h⟩ := hW v H' hw
  exact isi_tup h (q _ H' hw)
theorem g_name {σ : L2.St} {i : Nat} {Q : L2.St → Hp → Prop} (h : Q (σ.set i (some v)) H) : gName i v σ H Q := h
section
variable {σ : L2.St} {D : Ends} {c u' : TT} {t1 t2 : TS} {te ta' tb' : TE} {B : Bool → Hp → Prop} {g : TG}
theorem o_if (h : c σ H fun b H1 => if b = true then t1 D σ H1 else t2 D σ H1) : tIfS c t1 t2 D σ H := h
theorem o_or (h : c σ H fun b H1 => if b = true then B true H1 else u' σ H1 B) : tOr c u' σ H B := h
theorem o_and (h : c σ H fun b H1 => if b = true then u' σ H1 B else B false H1) : tAnd c u' σ H B := h
theorem o_not (h : c σ H fun b H1 => B (!b) H1) : tNot c σ H B := h
theorem o_b (h : te σ H fun x H1 => ∃ b, x = .bl b ∧ B b H1) : tB te σ H B := h
theorem o_test (h : te σ H fun x H1 => ∃ b, x = .bl b ∧ B b H1) : tTest te σ H B := h
theorem o_seq (h : t1 { D with nx := t2 D } σ H) : tSeq t1 t2 D σ H := h
theorem o_asg (h : te σ H fun x H1 => g x σ H1 D.nx) : tAsg te g D σ H := h
theorem o_ret (h : te σ H D.rt) : tRet te D σ H := h
theorem o_orV (h : ta' σ H fun x H1 => ∃ b, x = .bl b ∧ if b = true then Q (.bl true) H1 else tb' σ H1 Q) : tOrV ta' tb' σ H Q := h
theorem o_andV (h : ta' σ H fun x H1 => ∃ b, x = .bl b ∧ if b = true then tb' σ H1 Q else Q (.bl false) H1) : tAndV ta' tb' σ H Q := h
end
theorem isi_noTup (h : TyX K H v t) (k : PySem.W.kitOne K t (.type "tuple") = some false) (q : Q (.bl false) H) : rIsi K [v, .ty "tuple"] H Q := isi_at h k q
end
/-! ### x is True, x & 1 of what may be a truth -/
def intOrBl : V → Bool
  | .int _ => true
  | .bl _ => true
  | _ => false
def rIsT : R2 := fun x y H Q => ∃ b, y = .bl b ∧ intOrBl x = true ∧ Q (.bl (decide (x = .bl b))) H
def rNotT : R2 := fun x y H Q => ∃ b, y = .bl b ∧ intOrBl x = true ∧ Q (.bl (!decide (x = .bl b))) H
theorem gives_int_and_bi (p : Bool) (b : Int) (u : Tok) : Gives (Builtin.«int.__and__» ⟨[.bool p, .int b u], []⟩) (.int (Builtin.bitAnd (if p = true then (1 : Int) else 0) b)) :=
  .of_wp fun M A E s Q h => by obtain ⟨hp, g, d, tk, os⟩ := s; wp_walk; exact ⟨_, rfl, h⟩
theorem gives_bool_and_bi (p : Bool) (b : Int) (u : Tok) : Gives (Builtin.«bool.__and__» ⟨[.bool p, .int b u], []⟩) (.int (Builtin.bitAnd (if p = true then (1 : Int) else 0) b)) := by
  show Gives (do rule "bool.bitwise.as-ints"; again (.builtin "int.__and__" ⟨[.bool p, .int b u], []⟩)) _
  exact .rule (.again rfl (by decide +kernel) PySem.F.entry_int_and (gives_int_and_bi p b u))
theorem and_bool_int {prog : Program} {w : World} {A : Around} {E : Value → Shared → Prop} {s : Shared} {p : Bool} {b : Int} {u : Tok} {Q : Value → Shared → Prop} (h : Q (.int (Builtin.bitAnd (if p = true then (1 : Int) else 0) b) s.toks) { s with toks := s.toks + 1 }) : wpAny (model prog w) A (binaryOp .BitAnd (.bool p) (.int b u)) Q E s :=
  binaryOp_left_gives (op := .BitAnd) (T := "bool") (U := "int") (by decide) (typeIs_bool' s p) (fun s' => typeIs_int s' b u) PySem.F.fills_bool_and PySem.F.fills_int_and isSubtype_int_bool PySem.F.slot_bool_and PySem.F.slot_int_rand PySem.F.entry_bool_and (PySem.F.args_bool_and_2 _ _) (gives_bool_and_bi p b u) trivial h
def rAnd1 : R2 := fun x y H Q => y = .int 1 ∧ ((∃ i, x = .int i ∧ Q (.int (i % 2)) H) ∨ (∃ k : Bool, x = .bl k ∧ Q (.int (if k = true then 1 else 0)) H))
section
variable {X : Cx}
theorem op_isT : OpR X (compareOp .Is) rIsT := by
  intro pins s σ H x y v u Q I rx ry h
  obtain ⟨b, rfl, hx, q⟩ := h
  cases (show u = Value.bool b from ry)
  cases x with
  | int i =>
    obtain ⟨t, rfl⟩ := rx
    refine wpAny_is_other rfl (fun z => by cases z) ⟨.bl false, H, I, rfl, ?_⟩
    rw [decide_eq_false (fun z => by cases z)] at q
    exact q
  | bl a =>
    cases (show v = Value.bool a from rx)
    by_cases e : a = b
    · subst e
      exact wpAny_is_self rfl ⟨.bl true, H, I, rfl, by simpa using q⟩
    · exact wpAny_is_other rfl (fun z => e (Value.bool.inj z)) ⟨.bl false, H, I, rfl, by simpa [e] using q⟩
  | _ => cases hx
theorem op_notT : OpR X (compareOp .IsNot) rNotT := by
  intro pins s σ H x y v u Q I rx ry h
  obtain ⟨b, rfl, hx, q⟩ := h
  cases (show u = Value.bool b from ry)
  cases x with
  | int i =>
    obtain ⟨t, rfl⟩ := rx
    refine wpAny_isNot_other rfl (fun z => by cases z) ⟨.bl true, H, I, rfl, ?_⟩
    rw [decide_eq_false (fun z => by cases z)] at q
    exact q
  | bl a =>
    cases (show v = Value.bool a from rx)
    by_cases e : a = b
    · subst e
      exact wpAny_isNot_self rfl ⟨.bl false, H, I, rfl, by simpa using q⟩
    · exact wpAny_isNot_other rfl (fun z => e (Value.bool.inj z)) ⟨.bl true, H, I, rfl, by simpa [e] using q⟩
  | _ => cases hx
theorem op_and1 : OpR X (binaryOp .BitAnd) rAnd1 := by
  intro pins s σ H x y v u Q I rx ry h
  obtain ⟨rfl, ⟨i, rfl, q⟩ | ⟨k, rfl, q⟩⟩ := h
  · obtain ⟨t, rfl⟩ := rx
    obtain ⟨t', rfl⟩ := ry
    rw [← bitAnd_m1] at q
    exact and_int ⟨.int _, H, I.tok _, ⟨_, rfl⟩, q⟩
  · obtain ⟨t', rfl⟩ := ry
    cases (show v = Value.bool k from rx)
    have e : Builtin.bitAnd (if k = true then (1 : Int) else 0) 1 = if k = true then 1 else 0 := by cases k <;> decide
    exact and_bool_int (by rw [e]; exact ⟨.int _, H, I.tok _, ⟨_, rfl⟩, q⟩)
end
/-! ### odd parts -/
theorem pow_pos2 (k : Nat) : (0 : Int) < 2 ^ k := Int.pow_pos (by decide)
theorem pow_two_cast (k : Nat) : ((2 ^ k : Nat) : Int) = 2 ^ k := by
  induction k with
  | zero => rfl
  | succ n ih => rw [Nat.pow_succ, Int.pow_succ, Int.natCast_mul, ih] <;> rfl
def tz : Nat → Nat → Nat
  | 0, _ => 0
  | f + 1, n => if n % 2 = 0 then tz f (n / 2) + 1 else 0
theorem tz_spec : ∀ (f n : Nat), 0 < n → n ≤ f → ∃ a, n = 2 ^ tz f n * (2 * a + 1)
  | 0, n, h, l => by omega
  | f + 1, n, h, l => by
    unfold tz
    by_cases e : n % 2 = 0
    · rw [if_pos e]
      obtain ⟨a, ha⟩ := tz_spec f (n / 2) (by omega) (by omega)
      refine ⟨a, ?_⟩
      rw [Nat.pow_succ, Nat.mul_comm (2 ^ tz f (n / 2)) 2, Nat.mul_assoc, ← ha]
      omega
    · rw [if_neg e]
      exact ⟨n / 2, by omega⟩
def v2 (m : Int) : Nat := tz m.natAbs m.natAbs
theorem v2_spec {m : Int} (h : m ≠ 0) : ∃ a : Int, m = 2 ^ v2 m * (2 * a + 1) := by
  obtain ⟨a, ha⟩ := tz_spec m.natAbs m.natAbs (by omega) (Nat.le_refl _)
  have hc : (m.natAbs : Int) = 2 ^ v2 m * (2 * (a : Int) + 1) := by
    have h1 : (m.natAbs : Int) = ((2 ^ v2 m * (2 * a + 1) : Nat) : Int) := congrArg Int.ofNat ha
    rw [h1, Int.natCast_mul, pow_two_cast]
    rfl
  rcases Int.natAbs_eq m with e | e
  · exact ⟨a, e.trans hc⟩
  · refine ⟨-(a : Int) - 1, ?_⟩
    have h2 : m = -(2 ^ v2 m * (2 * (a : Int) + 1)) := by rw [← hc]; exact e
    have h3 : (2 * (-(a : Int) - 1) + 1) = -(2 * (a : Int) + 1) := by omega
    rw [h3, Int.mul_neg]
    exact h2
theorem odd_unique {k j : Nat} {a b : Int} (h : (2 : Int) ^ k * (2 * a + 1) = 2 ^ j * (2 * b + 1)) : k = j ∧ a = b := by
  rcases Nat.lt_trichotomy k j with l | l | l
  · obtain ⟨i, rfl⟩ : ∃ i, j = k + (i + 1) := ⟨j - k - 1, by omega⟩
    rw [Int.pow_add, Int.mul_assoc] at h
    have h2 := Int.eq_of_mul_eq_mul_left (Int.ne_of_gt (pow_pos2 k)) h
    rw [Int.pow_succ, Int.mul_assoc, Int.mul_left_comm] at h2
    generalize (2 : Int) ^ i * (2 * b + 1) = z at h2
    omega
  · subst l
    have h2 := Int.eq_of_mul_eq_mul_left (Int.ne_of_gt (pow_pos2 k)) h
    exact ⟨rfl, by omega⟩
  · obtain ⟨i, rfl⟩ : ∃ i, k = j + (i + 1) := ⟨k - j - 1, by omega⟩
    rw [Int.pow_add, Int.mul_assoc] at h
    have h2 := Int.eq_of_mul_eq_mul_left (Int.ne_of_gt (pow_pos2 j)) h
    rw [Int.pow_succ, Int.mul_assoc, Int.mul_left_comm] at h2
    generalize (2 : Int) ^ i * (2 * a + 1) = z at h2
    omega
/-- the number m times 2 ** e, told its one way -/
def nrm (m e : Int) : Int × Int := if m = 0 then (0, 0) else (m / 2 ^ v2 m, e + v2 m)
theorem nrm_zero (e : Int) : nrm 0 e = (0, 0) := rfl
theorem nrm_of {m a : Int} {k : Nat} (e : Int) (h : m = 2 ^ k * (2 * a + 1)) : nrm m e = (2 * a + 1, e + k) := by
  have h0 : m ≠ 0 := by
    intro z
    rw [z] at h
    rcases Int.mul_eq_zero.mp h.symm with q | q
    · exact absurd q (Int.ne_of_gt (pow_pos2 k))
    · omega
  obtain ⟨b, hb⟩ := v2_spec h0
  obtain ⟨e1, e2⟩ := odd_unique (hb.symm.trans h)
  unfold nrm
  rw [if_neg h0, e1]
  have h3 : m / 2 ^ k = 2 * a + 1 := by
    rw [h]
    exact Int.mul_ediv_cancel_left _ (Int.ne_of_gt (pow_pos2 k))
  rw [h3]
theorem nrm_num (m e : Int) : isNumB (nrm m e).1 (nrm m e).2 = true := by
  by_cases h : m = 0
  · subst h
    rfl
  · obtain ⟨a, ha⟩ := v2_spec h
    rw [nrm_of e ha]
    unfold isNumB
    rw [decide_eq_true (show (2 * a + 1) % 2 = 1 by omega)]
    rfl
theorem nrm_self {m e : Int} (h : isNumB m e = true) : nrm m e = (m, e) := by
  unfold isNumB at h
  rcases Bool.or_eq_true_iff.mp h with q | q
  · have q2 : m % 2 = 1 := of_decide_eq_true q
    have e1 : m = 2 ^ 0 * (2 * (m / 2) + 1) := by
      rw [Int.pow_zero, Int.one_mul]
      omega
    rw [nrm_of e e1]
    have e2 : 2 * (m / 2) + 1 = m := by omega
    rw [e2]
    show (m, e + 0) = (m, e)
    rw [Int.add_zero]
  · obtain ⟨q1, q2⟩ := Bool.and_eq_true_iff.mp q
    have e1 : m = 0 := of_decide_eq_true q1
    have e2 : e = 0 := of_decide_eq_true q2
    subst e1 e2
    rfl
theorem nrm_abs (m e : Int) : (nrm m e).1.natAbs ≤ m.natAbs := by
  by_cases h : m = 0
  · subst h
    exact Nat.le_refl _
  · obtain ⟨a, ha⟩ := v2_spec h
    rw [nrm_of e ha]
    show (2 * a + 1).natAbs ≤ m.natAbs
    have e1 : m.natAbs = ((2 : Int) ^ v2 m).natAbs * (2 * a + 1).natAbs := by
      have := congrArg Int.natAbs ha
      rw [Int.natAbs_mul] at this
      exact this
    rw [e1]
    refine Nat.le_mul_of_pos_left _ ?_
    have := pow_pos2 (v2 m)
    omega
theorem v2_lt {m : Int} {k : Nat} (h : m.natAbs < 2 ^ k) (h0 : m ≠ 0) : v2 m < k := by
  obtain ⟨a, ha⟩ := v2_spec h0
  have e1 : m.natAbs = ((2 : Int) ^ v2 m).natAbs * (2 * a + 1).natAbs := by
    have := congrArg Int.natAbs ha
    rw [Int.natAbs_mul] at this
    exact this
  have e2 : ((2 : Int) ^ v2 m).natAbs = 2 ^ v2 m := by rw [← pow_two_cast]; rfl
  have h1 : 2 ^ v2 m ≤ m.natAbs := by
    rw [e1, e2]
    exact Nat.le_mul_of_pos_right _ (by omega)
  exact (Nat.pow_lt_pow_iff_right (by decide)).mp (Nat.lt_of_le_of_lt h1 h)
theorem nrm_exp {m e : Int} {k : Nat} (h : m.natAbs < 2 ^ k) : (nrm m e).2.natAbs ≤ e.natAbs + k := by
  by_cases h0 : m = 0
  · subst h0
    exact Nat.zero_le _
  · have := v2_lt h h0
    unfold nrm
    rw [if_neg h0]
    show (e + (v2 m : Int)).natAbs ≤ _
    omega
theorem bits_two (k : Nat) : Builtin.Int.intBits (2 ^ k) = k + 1 := by
  have h : (2 : Int) ^ k ≠ 0 := Int.ne_of_gt (pow_pos2 k)
  unfold Builtin.Int.intBits
  have e : ((2 : Int) ^ k == 0) = false := by
    rw [beq_eq_false_iff_ne]
    exact h
  rw [e]
  have e2 : ((2 : Int) ^ k).natAbs = 2 ^ k := by rw [← pow_two_cast]; rfl
  rw [e2, Nat.log2_two_pow]
  rfl
end Onc

namespace Onc
open PySem PySem.Spec PyProof.Rows L2 Evl
/-! ### numbers at a power -/
def at_ (n : Int × Int) (E : Int) : Int := n.1 * 2 ^ (n.2 - E).toNat
theorem nrm_shift (m e : Int) (k : Nat) : nrm (m * 2 ^ k) e = nrm m (e + k) := by
  by_cases h : m = 0
  · subst h
    rw [Int.zero_mul]
    rfl
  · obtain ⟨a, ha⟩ := v2_spec h
    have e1 : m * 2 ^ k = 2 ^ (v2 m + k) * (2 * a + 1) := by
      rw [Int.pow_add, Int.mul_assoc, Int.mul_comm (2 ^ k) (2 * a + 1), ← Int.mul_assoc, ← ha]
    rw [nrm_of e e1, nrm_of (e + k) ha]
    congr 1
    omega
theorem nrm_at {x E E' : Int} (h : E' ≤ E) : at_ (nrm x E) E' = x * 2 ^ (E - E').toNat := by
  by_cases h0 : x = 0
  · subst h0
    unfold at_
    rw [nrm_zero, Int.zero_mul, Int.zero_mul]
  · obtain ⟨a, ha⟩ := v2_spec h0
    rw [nrm_of E ha]
    show (2 * a + 1) * 2 ^ (E + (v2 x : Int) - E').toNat = x * 2 ^ (E - E').toNat
    have e1 : (E + (v2 x : Int) - E').toNat = v2 x + (E - E').toNat := by omega
    rw [e1, Int.pow_add, ← Int.mul_assoc, Int.mul_comm (2 * a + 1) (2 ^ v2 x), ← ha]
theorem at_same (x E : Int) : at_ (nrm x E) E = x := by
  rw [nrm_at (Int.le_refl E), show (E - E).toNat = 0 by omega, Int.pow_zero, Int.mul_one]
theorem nrm_le {x E : Int} (h : E ≤ 0) : E ≤ (nrm x E).2 := by
  unfold nrm
  by_cases h0 : x = 0
  · rw [if_pos h0]
    exact h
  · rw [if_neg h0]
    show E ≤ E + (v2 x : Int)
    omega
theorem nrm_inj {x y E : Int} (h : nrm x E = nrm y E) : x = y := by
  rw [← at_same x E, h, at_same]
theorem at_split {n : Int × Int} {E M : Int} (h : E ≤ M) (hM : M ≤ n.2) : at_ n E = at_ n M * 2 ^ (M - E).toNat := by
  unfold at_
  rw [show (n.2 - E).toNat = (n.2 - M).toNat + (M - E).toNat by omega, Int.pow_add, Int.mul_assoc]
theorem num_at {n : Int × Int} {E : Int} (hn : isNumB n.1 n.2 = true) (h : E ≤ n.2) : nrm (at_ n E) E = n := by
  unfold at_
  rw [nrm_shift, show E + ((n.2 - E).toNat : Int) = n.2 by omega, nrm_self hn]
def padd (a b : Int × Int) : Int × Int := nrm (at_ a (min a.2 b.2) + at_ b (min a.2 b.2)) (min a.2 b.2)
theorem padd_at {a b : Int × Int} {E : Int} (ha : E ≤ a.2) (hb : E ≤ b.2) : padd a b = nrm (at_ a E + at_ b E) E := by
  have hM : E ≤ min a.2 b.2 := by omega
  rw [at_split (n := a) hM (by omega), at_split (n := b) hM (by omega), ← Int.add_mul, nrm_shift, show E + ((min a.2 b.2 - E).toNat : Int) = min a.2 b.2 by omega]
  rfl
def pneg (a : Int × Int) : Int × Int := (-a.1, a.2)
theorem at_neg (a : Int × Int) (E : Int) : at_ (pneg a) E = -at_ a E := by
  unfold at_ pneg
  rw [Int.neg_mul]
def psub (a b : Int × Int) : Int × Int := padd a (pneg b)
theorem psub_at {a b : Int × Int} {E : Int} (ha : E ≤ a.2) (hb : E ≤ b.2) : psub a b = nrm (at_ a E - at_ b E) E := by
  unfold psub
  rw [padd_at ha (show E ≤ (pneg b).2 from hb), at_neg]
  rfl
def pmul (a b : Int × Int) : Int × Int := nrm (a.1 * b.1) (a.2 + b.2)
theorem pmul_at {a b : Int × Int} {E F : Int} (ha : E ≤ a.2) (hb : F ≤ b.2) : pmul a b = nrm (at_ a E * at_ b F) (E + F) := by
  unfold at_
  have e1 : a.1 * 2 ^ (a.2 - E).toNat * (b.1 * 2 ^ (b.2 - F).toNat) = a.1 * b.1 * 2 ^ ((a.2 - E).toNat + (b.2 - F).toNat) := by
    rw [Int.pow_add, Int.mul_assoc, Int.mul_assoc, Int.mul_left_comm (2 ^ (a.2 - E).toNat) b.1]
  rw [e1, nrm_shift, show E + F + (((a.2 - E).toNat + (b.2 - F).toNat : Nat) : Int) = a.2 + b.2 by omega]
  rfl
/-! ### signs -/
def sgn (x : Int) : Int := if x = 0 then 0 else if 0 < x then 1 else -1
theorem sgn_pos {x : Int} (h : 0 < x) : sgn x = 1 := by
  unfold sgn
  rw [if_neg (by omega), if_pos h]
theorem sgn_neg {x : Int} (h : x < 0) : sgn x = -1 := by
  unfold sgn
  rw [if_neg (by omega), if_neg (by omega)]
theorem sgn_zero : sgn 0 = 0 := rfl
theorem sgn_mul (x : Int) (k : Nat) : sgn (x * 2 ^ k) = sgn x := by
  have hp := pow_pos2 k
  rcases Int.lt_trichotomy x 0 with h | h | h
  · rw [sgn_neg h, sgn_neg (Int.mul_neg_of_neg_of_pos h hp)]
  · subst h
    rw [Int.zero_mul]
  · rw [sgn_pos h, sgn_pos (Int.mul_pos h hp)]
theorem sgn_nrm (x E : Int) : sgn (nrm x E).1 = sgn x := by
  have h := nrm_at (x := x) (E := E) (E' := E) (Int.le_refl E)
  unfold at_ at h
  rw [show (E - E).toNat = 0 by omega, Int.pow_zero, Int.mul_one] at h
  rw [← sgn_mul (nrm x E).1, h]
def pord (a b : Int × Int) : Int := sgn (at_ a (min a.2 b.2) - at_ b (min a.2 b.2))
theorem pord_at {a b : Int × Int} {E : Int} (ha : E ≤ a.2) (hb : E ≤ b.2) : pord a b = sgn (at_ a E - at_ b E) := by
  have hM : E ≤ min a.2 b.2 := by omega
  rw [at_split (n := a) hM (by omega), at_split (n := b) hM (by omega), ← Int.sub_mul, sgn_mul]
  rfl
theorem pord_sub (a b : Int × Int) : sgn (psub a b).1 = pord a b := by
  rw [psub_at (E := min a.2 b.2) (by omega) (by omega), sgn_nrm]
  rfl
/-! ### sizes -/
def psize (a : Int × Int) : Int := (Builtin.Int.intBits a.1 : Int) - 1 + a.2
def prank (a : Int × Int) : Int × Int := (sgn a.1, sgn a.1 * psize a)
theorem bits_of {m : Int} (h : m ≠ 0) : Builtin.Int.intBits m = m.natAbs.log2 + 1 := by
  unfold Builtin.Int.intBits
  rw [show (m == 0) = false from by rw [beq_eq_false_iff_ne]; exact h]
  rfl
theorem at_abs (a : Int × Int) (E : Int) : (at_ a E).natAbs = a.1.natAbs * 2 ^ (a.2 - E).toNat := by
  unfold at_
  rw [Int.natAbs_mul]
  have e : ((2 : Int) ^ (a.2 - E).toNat).natAbs = 2 ^ (a.2 - E).toNat := by
    rw [← pow_two_cast]
    rfl
  rw [e]
theorem size_lt {a b : Int × Int} {E : Int} (ha : a.1 ≠ 0) (hb : b.1 ≠ 0) (ea : E ≤ a.2) (eb : E ≤ b.2) (h : psize a < psize b) : (at_ a E).natAbs < (at_ b E).natAbs := by
  unfold psize at h
  rw [bits_of ha, bits_of hb] at h
  rw [at_abs, at_abs]
  have l1 : a.1.natAbs < 2 ^ (a.1.natAbs.log2 + 1) := Nat.lt_log2_self
  have l2 : 2 ^ b.1.natAbs.log2 ≤ b.1.natAbs := Nat.log2_self_le (by omega)
  have hp : ∀ k : Nat, 0 < 2 ^ k := fun k => Nat.pow_pos (by decide)
  refine Nat.lt_of_lt_of_le (Nat.mul_lt_mul_of_pos_right l1 (hp _)) (Nat.le_trans ?_ (Nat.mul_le_mul_right _ l2))
  rw [← Nat.pow_add, ← Nat.pow_add]
  exact Nat.pow_le_pow_right (by decide) (by omega)
theorem at_sgn (a : Int × Int) (E : Int) : sgn (at_ a E) = sgn a.1 := sgn_mul _ _
theorem sgn_of_pos {x : Int} (h : sgn x = 1) : 0 < x := by
  rcases Int.lt_trichotomy x 0 with q | q | q
  · rw [sgn_neg q] at h
    cases h
  · subst q
    cases h
  · exact q
theorem sgn_of_neg {x : Int} (h : sgn x = -1) : x < 0 := by
  rcases Int.lt_trichotomy x 0 with q | q | q
  · exact q
  · subst q
    cases h
  · rw [sgn_pos q] at h
    cases h
theorem sgn_of_zero {x : Int} (h : sgn x = 0) : x = 0 := by
  rcases Int.lt_trichotomy x 0 with q | q | q
  · rw [sgn_neg q] at h
    cases h
  · exact q
  · rw [sgn_pos q] at h
    cases h
theorem sgn_cases (x : Int) : sgn x = 1 ∨ sgn x = -1 ∨ sgn x = 0 := by
  rcases Int.lt_trichotomy x 0 with q | q | q
  · exact .inr (.inl (sgn_neg q))
  · subst q
    exact .inr (.inr rfl)
  · exact .inl (sgn_pos q)
/-- ranks that differ are in the order of the numbers -/
theorem rank_gt {a b : Int × Int} (h : (prank b).1 < (prank a).1 ∨ ((prank b).1 = (prank a).1 ∧ (prank b).2 < (prank a).2)) : pord a b = 1 := by
  have ea : min a.2 b.2 ≤ a.2 := by omega
  have eb : min a.2 b.2 ≤ b.2 := by omega
  refine sgn_pos ?_
  generalize min a.2 b.2 = E at *
  have sa := at_sgn a E
  have sb := at_sgn b E
  unfold prank at h
  simp only at h
  rcases sgn_cases a.1 with qa | qa | qa <;> rcases sgn_cases b.1 with qb | qb | qb <;> rw [qa] at sa h <;> rw [qb] at sb h
  · have pa := sgn_of_pos sa
    have pb := sgn_of_pos sb
    have na : a.1 ≠ 0 := fun z => by rw [z] at qa; cases qa
    have nb : b.1 ≠ 0 := fun z => by rw [z] at qb; cases qb
    have := size_lt (E := E) nb na eb ea (by omega)
    omega
  · have pa := sgn_of_pos sa
    have pb := sgn_of_neg sb
    omega
  · have pa := sgn_of_pos sa
    have pb := sgn_of_zero sb
    omega
  · omega
  · have pa := sgn_of_neg sa
    have pb := sgn_of_neg sb
    have na : a.1 ≠ 0 := fun z => by rw [z] at qa; cases qa
    have nb : b.1 ≠ 0 := fun z => by rw [z] at qb; cases qb
    have := size_lt (E := E) na nb ea eb (by omega)
    omega
  · omega
  · omega
  · have pa := sgn_of_zero sa
    have pb := sgn_of_neg sb
    omega
  · omega
theorem sgn_swap (x : Int) : sgn (-x) = -sgn x := by
  rcases Int.lt_trichotomy x 0 with q | q | q
  · rw [sgn_neg q, sgn_pos (by omega)]
    rfl
  · subst q
    rfl
  · rw [sgn_pos q, sgn_neg (by omega)]
theorem pord_swap (a b : Int × Int) : pord b a = -pord a b := by
  rw [pord_at (a := b) (b := a) (E := min a.2 b.2) (by omega) (by omega), ← Int.neg_sub, sgn_swap]
  rfl
/-! ### bounds -/
def Bd (a : Int × Int) (B : Nat) : Prop := a.1.natAbs < 2 ^ B ∧ a.2.natAbs ≤ B
theorem Bd.mono {a : Int × Int} {B C : Nat} (h : Bd a B) (l : B ≤ C) : Bd a C := ⟨Nat.lt_of_lt_of_le h.1 (Nat.pow_le_pow_right (by decide) l), Nat.le_trans h.2 l⟩
theorem bd_neg {a : Int × Int} {B : Nat} (h : Bd a B) : Bd (pneg a) B := ⟨by show (-a.1).natAbs < _; rw [Int.natAbs_neg]; exact h.1, h.2⟩
theorem bd_nrm {m e : Int} {k B : Nat} (hm : m.natAbs < 2 ^ k) (he : e.natAbs + k ≤ B) : Bd (nrm m e) B :=
  ⟨Nat.lt_of_le_of_lt (nrm_abs m e) (Nat.lt_of_lt_of_le hm (Nat.pow_le_pow_right (by decide) (by omega))), Nat.le_trans (nrm_exp hm) he⟩
theorem at_bd {a : Int × Int} {B C : Nat} {E : Int} (h : Bd a B) (hE : E.natAbs ≤ C) : (at_ a E).natAbs < 2 ^ (2 * B + C) := by
  rw [at_abs]
  have h1 : a.1.natAbs * 2 ^ (a.2 - E).toNat < 2 ^ B * 2 ^ (a.2 - E).toNat := Nat.mul_lt_mul_of_pos_right h.1 (Nat.pow_pos (by decide))
  rw [← Nat.pow_add] at h1
  have h2 := h.2
  exact Nat.lt_of_lt_of_le h1 (Nat.pow_le_pow_right (by decide) (by omega))
theorem bd_add {a b : Int × Int} {B : Nat} (ha : Bd a B) (hb : Bd b B) : Bd (padd a b) (4 * B + 1) := by
  have hE : (min a.2 b.2).natAbs ≤ B := by
    have := ha.2
    have := hb.2
    omega
  have h1 := at_bd ha hE
  have h2 := at_bd hb hE
  refine bd_nrm (k := 2 * B + B + 1) ?_ (by omega)
  have e : 2 ^ (2 * B + B + 1) = 2 ^ (2 * B + B) * 2 := Nat.pow_succ ..
  omega
theorem bd_sub {a b : Int × Int} {B : Nat} (ha : Bd a B) (hb : Bd b B) : Bd (psub a b) (4 * B + 1) := bd_add ha (bd_neg hb)
theorem bd_mul {a b : Int × Int} {B : Nat} (ha : Bd a B) (hb : Bd b B) : Bd (pmul a b) (4 * B) := by
  refine bd_nrm (k := 2 * B) ?_ ?_
  · rw [Int.natAbs_mul, Nat.two_mul, Nat.pow_add]
    exact Nat.mul_lt_mul'' ha.1 hb.1
  · have := ha.2
    have := hb.2
    omega
theorem num_neg {a : Int × Int} (h : isNumB a.1 a.2 = true) : isNumB (pneg a).1 (pneg a).2 = true := by
  unfold isNumB at *
  show (decide (-a.1 % 2 = 1) || (decide (-a.1 = 0) && decide (a.2 = 0))) = true
  rcases Bool.or_eq_true_iff.mp h with q | q
  · have q2 : a.1 % 2 = 1 := of_decide_eq_true q
    rw [decide_eq_true (show -a.1 % 2 = 1 by omega)]
    rfl
  · obtain ⟨q1, q2⟩ := Bool.and_eq_true_iff.mp q
    have e1 : a.1 = 0 := of_decide_eq_true q1
    rw [q2, decide_eq_true (show -a.1 = 0 by omega), Bool.and_true, Bool.or_true]
theorem num_add (a b : Int × Int) : isNumB (padd a b).1 (padd a b).2 = true := nrm_num _ _
theorem num_mul (a b : Int × Int) : isNumB (pmul a b).1 (pmul a b).2 = true := nrm_num _ _
/-! ### t > u of data -/
section
variable {X : Cx}
def rGtD (K : PySem.W.Frag) : R2 := fun x y H Q => ∃ d e, Dp K H x d ∧ Dp K H y e ∧ PySem.W.alike d e = true ∧ d ≠ .none ∧ d.depth ≤ 64 ∧ Q (.bl (PySem.W.dataLt e d)) H
theorem op_gtD (hu : X.A.units + 64 < cLine) : OpR X (compareOp .Gt) (rGtD X.K) := by
  intro pins s σ H x y v u Q I rx ry h
  obtain ⟨d, e, hd, he, al, nn, dp, q⟩ := h
  obtain ⟨as, r1⟩ := Dp.reads I d x v hd rx
  obtain ⟨bs, r2⟩ := Dp.reads I e y u he ry
  exact PySem.W.gt_data r1 r2 al nn (by have := Nat.min_le_left d.depth e.depth; omega) ⟨.bl _, H, I, rfl, q⟩
end
theorem lt_pairs (a b c d : Int) : PySem.W.dataLt (.tuple [.int a, .int b]) (.tuple [.int c, .int d]) = if a = c then decide (b < d) else decide (a < c) := by
  show lexLt itemOrd [.inl 1, .inl a, .inl 1, .inl b, .inl 0] [.inl 1, .inl c, .inl 1, .inl d, .inl 0] = _
  rw [lex_self (O := itemOrd)]
  by_cases h : a = c
  · subst h
    rw [if_pos rfl, lex_self (O := itemOrd), lex_self (O := itemOrd)]
    by_cases h2 : b = d
    · subst h2
      rw [lex_self (O := itemOrd), lex_self (O := itemOrd), decide_eq_false (Int.lt_irrefl b)]
      rfl
    · rw [lex_diff (O := itemOrd) (fun z => h2 (Sum.inl.inj z))]
      rfl
  · rw [if_neg h, lex_diff (O := itemOrd) (fun z => h (Sum.inl.inj z))]
    rfl
theorem alike_pairs (a b c d : Int) : PySem.W.alike (.tuple [.int a, .int b]) (.tuple [.int c, .int d]) = true := by
  simp [PySem.W.alike, PySem.W.alikeAll]
theorem depth_pair (a b : Int) : (PyData.tuple [.int a, .int b]).depth ≤ 64 := by
  simp [PyData.depth, PyData.depthAll]
theorem eqv_pairs (a b c d : Int) : PyData.eqv (.tuple [.int a, .int b]) (.tuple [.int c, .int d]) = (decide (a = c) && decide (b = d)) := by
  simp [PyData.eqv, PyData.eqvAll]
  rfl
/-! ### numbers in the heap -/
def NumAt (K : PySem.W.Frag) (H : Hp) (v : V) (n : Int × Int) : Prop := ∃ a, v = .ref a ∧ SqT K H a [.int n.1, .int n.2]
theorem numAt_ex {K : PySem.W.Frag} {H H' : Hp} {v : V} {n : Int × Int} (e : Ex H H') (h : NumAt K H v n) : NumAt K H' v n := by
  obtain ⟨a, rfl, h⟩ := h
  exact ⟨a, rfl, ex_t e h⟩
theorem numAt_of {K : PySem.W.Frag} {H : Hp} {p : Addr} {m e : Int} (h : H p = some (.tup [.int m, .int e])) : NumAt K H (.ref p) (m, e) := ⟨p, rfl, st_of h⟩
/-- a good number within bounds -/
structure Gn (K : PySem.W.Frag) (H : Hp) (v : V) (n : Int × Int) (B : Nat) : Prop where
  at_ : NumAt K H v n
  nb : isNumB n.1 n.2 = true
  bd : Bd n B
theorem Gn.ex {K : PySem.W.Frag} {H H' : Hp} {v : V} {n : Int × Int} {B : Nat} (g : Gn K H v n B) (e : Ex H H') : Gn K H' v n B := ⟨numAt_ex e g.at_, g.nb, g.bd⟩
theorem Gn.mono {K : PySem.W.Frag} {H : Hp} {v : V} {n : Int × Int} {B C : Nat} (g : Gn K H v n B) (l : B ≤ C) : Gn K H v n C := ⟨g.at_, g.nb, g.bd.mono l⟩
theorem Gn.num {K : PySem.W.Frag} {H : Hp} {v : V} {n : Int × Int} {B : Nat} (g : Gn K H v n B) : NumIs K H v true := by
  obtain ⟨a, rfl, h⟩ := g.at_
  have := NumIs.num h
  rw [g.nb] at this
  exact this
def LIM : Nat := 20000000
/-- a new pair -/
def NewP (H : Hp) (Q : VK) (n : Int × Int) : Prop := ∀ H' p, Ex H H' → H p = none → H' p = some (.tup [.int n.1, .int n.2]) → Q (.ref p) H'
def spNeed (K : PySem.W.Frag) : Sp := fun vs H Q _ => ∃ v, vs = [v] ∧ NumIs K H v true ∧ ∀ H', Ex H H' → Q .non H'
def spSign : Sp := fun vs H Q _ => ∃ x : Int, vs = [.int x] ∧ Q (.int (sgn x)) H
def spNeg (K : PySem.W.Frag) : Sp := fun vs H Q _ => ∃ v n, vs = [v] ∧ NumAt K H v n ∧ NewP H Q (pneg n)
def spSize (K : PySem.W.Frag) : Sp := fun vs H Q _ => ∃ v n, vs = [v] ∧ NumAt K H v n ∧ Q (.int (psize n)) H
def spFloor (K : PySem.W.Frag) : Sp := fun vs H Q _ => ∃ v n E, vs = [v, .int E] ∧ NumAt K H v n ∧ E ≤ n.2 ∧ Bd n LIM ∧ E.natAbs ≤ LIM ∧ Q (.int (at_ n E)) H
def spRank (K : PySem.W.Frag) : Sp := fun vs H Q _ => ∃ v n, vs = [v] ∧ NumAt K H v n ∧ NewP H Q (prank n)
def spNeed2 (K : PySem.W.Frag) : Sp := fun vs H Q _ => ∃ u v, vs = [u, v] ∧ NumIs K H u true ∧ NumIs K H v true ∧ ∀ H', Ex H H' → Q .non H'
/-- a pair, new or handed in -/
def GotP (K : PySem.W.Frag) (H : Hp) (Q : VK) (n : Int × Int) : Prop := ∀ H' v, Ex H H' → NumAt K H' v n → Q v H'
def spTwo (K : PySem.W.Frag) (g : Int × Int → Int × Int → Int × Int) : Sp := fun vs H Q _ => ∃ u v a b, vs = [u, v] ∧ Gn K H u a LIM ∧ Gn K H v b LIM ∧ GotP K H Q (g a b)
def spLes (K : PySem.W.Frag) : Sp := fun vs H Q _ => ∃ u v a b, vs = [u, v] ∧ Gn K H u a LIM ∧ Gn K H v b LIM ∧ ((pord a b ≤ 0 → ∀ H', Ex H H' → Q u H') ∧ (0 < pord a b → ∀ H', Ex H H' → Q v H'))
def spGre (K : PySem.W.Frag) : Sp := fun vs H Q _ => ∃ u v a b, vs = [u, v] ∧ Gn K H u a LIM ∧ Gn K H v b LIM ∧ ((0 ≤ pord a b → ∀ H', Ex H H' → Q u H') ∧ (pord a b < 0 → ∀ H', Ex H H' → Q v H'))
def spOrd (K : PySem.W.Frag) : Sp := fun vs H Q _ => ∃ u v a b, vs = [u, v] ∧ Gn K H u a LIM ∧ Gn K H v b LIM ∧ ∀ H', Ex H H' → Q (.int (pord a b)) H'
/-! ### evaluation to something -/
section
variable {K : PySem.W.Frag} {σ : L2.St} {H H' : Hp} {ta tb tc te : TE}
def Mono (P : Hp → V → Prop) : Prop := ∀ H H' v, Ex H H' → P H v → P H' v
def EvP (P : Hp → V → Prop) (te : TE) (σ : L2.St) (H : Hp) : Prop := ∀ H1, Ex H H1 → ∀ Q : VK, (∀ v H2, Ex H1 H2 → P H2 v → Q v H2) → te σ H1 Q
theorem EvP.mono {P : Hp → V → Prop} (h : EvP P te σ H) (e : Ex H H') : EvP P te σ H' := fun H1 e1 Q q => h H1 (e.trans e1) Q q
theorem evp_of {P : Hp → V → Prop} {v : V} (h : Ev te σ H v) (m : Mono P) (hv : P H v) : EvP P te σ H := fun H1 e Q q => h H1 e Q fun H2 e2 => q v H2 e2 (m _ _ _ (e.trans e2) hv)
theorem evp_tup2 {P1 P2 : Hp → V → Prop} (m1 : Mono P1) (m2 : Mono P2) (h1 : EvP P1 ta σ H) (h2 : EvP P2 tb σ H) :
    EvP (fun H v => ∃ p x y, v = .ref p ∧ H p = some (.tup [x, y]) ∧ P1 H x ∧ P2 H y) (tTup (tCons ta (tCons tb tNil))) σ H := fun H1 e Q q =>
  h1 H1 e _ fun x H2 e2 p1 => h2 H2 (e.trans e2) _ fun y H3 e3 p2 => ⟨by show 2 ≤ sizeLine; decide, fun p hp => q (.ref p) _ ((e2.trans e3).trans (Ex.new hp)) ⟨p, x, y, rfl, upd_same, m1 _ _ _ (e3.trans (Ex.new hp)) p1, m2 _ _ _ (Ex.new hp) p2⟩⟩
theorem evp_tup3 {P1 P2 P3 : Hp → V → Prop} (m1 : Mono P1) (m2 : Mono P2) (m3 : Mono P3) (h1 : EvP P1 ta σ H) (h2 : EvP P2 tb σ H) (h3 : EvP P3 tc σ H) :
    EvP (fun H v => ∃ p x y z, v = .ref p ∧ H p = some (.tup [x, y, z]) ∧ P1 H x ∧ P2 H y ∧ P3 H z) (tTup (tCons ta (tCons tb (tCons tc tNil)))) σ H := fun H1 e Q q =>
  h1 H1 e _ fun x H2 e2 p1 => h2 H2 (e.trans e2) _ fun y H3 e3 p2 => h3 H3 ((e.trans e2).trans e3) _ fun z H4 e4 p3 => ⟨by show 3 ≤ sizeLine; decide, fun p hp => q (.ref p) _ (((e2.trans e3).trans e4).trans (Ex.new hp)) ⟨p, x, y, z, rfl, upd_same, m1 _ _ _ ((e3.trans e4).trans (Ex.new hp)) p1, m2 _ _ _ (e4.trans (Ex.new hp)) p2, m3 _ _ _ (Ex.new hp) p3⟩⟩
def EvAll (P : Hp → V → Prop) (ta : TA) (σ : L2.St) (H : Hp) (n : Nat) : Prop := ∀ H1, Ex H H1 → ∀ Q : List V → Hp → Prop, (∀ vs H2, Ex H1 H2 → vs.length = n → (∀ v ∈ vs, P H2 v) → Q vs H2) → ta σ H1 Q
theorem eva_nil {P : Hp → V → Prop} : EvAll P tNil σ H 0 := fun H1 _ _ q => q [] H1 (Ex.refl H1) rfl (fun _ h => by cases h)
theorem eva_cons {P : Hp → V → Prop} {tr : TA} {n : Nat} (m : Mono P) (h : EvP P ta σ H) (hr : EvAll P tr σ H n) : EvAll P (tCons ta tr) σ H (n + 1) := fun H1 e Q q =>
  h H1 e _ fun v H2 e2 p => hr H2 (e.trans e2) _ fun vs H3 e3 hl hv => q (v :: vs) H3 (e2.trans e3) (congrArg Nat.succ hl) fun x hx => by
    rcases List.mem_cons.mp hx with z | z
    · rw [z]
      exact m _ _ _ e3 p
    · exact hv x z
/-- a new list, all of P -/
def EvLP (P : Hp → V → Prop) (te : TE) (σ : L2.St) (H : Hp) (n : Nat) : Prop := ∀ H1, Ex H H1 → ∀ Q : VK, (∀ p vs H2, Ex H1 H2 → H1 p = none → H2 p = some (.lst vs) → vs.length = n → (∀ v ∈ vs, P H2 v) → Q (.ref p) H2) → te σ H1 Q
theorem elp_lst {P : Hp → V → Prop} {tr : TA} {n : Nat} (m : Mono P) (h : EvAll P tr σ H n) (hn : n ≤ 100000 := by decide) : EvLP P (tLst tr) σ H n := fun H1 e Q q =>
  h H1 e _ fun vs H2 e2 hl hv => ⟨sz_of (by rw [hl]; exact hn), fun p hp => q p vs _ (e2.trans (Ex.new hp)) (fresh_back e2 hp) upd_same hl fun v hx => m _ _ _ (Ex.new hp) (hv v hx)⟩
def LpAt (P : Hp → V → Prop) (H : Hp) (v : V) (n : Nat) : Prop := ∃ p vs, v = .ref p ∧ H p = some (.lst vs) ∧ vs.length = n ∧ ∀ x ∈ vs, P H x
theorem elp_cat {P : Hp → V → Prop} {v : V} {i n k : Nat} (m : Mono P) (hv : σ[i]? = some (some v)) (hl : LpAt P H v n) (h : EvLP P tb σ H k) (hn : n + k ≤ 100000 := by decide) : EvLP P (tOp rCat (tVar i) tb) σ H (n + k) := fun H1 e Q q => by
  obtain ⟨a, us, rfl, h1, h2, h3⟩ := hl
  refine ⟨.ref a, hv, h H1 e _ fun p vs H2 e2 hp hvs hlen hall => ?_⟩
  refine ⟨a, p, us, vs, rfl, rfl, (e.trans e2) _ _ h1, hvs, sz_of (by rw [h2, hlen]; exact hn), fun r hr => ?_⟩
  refine q r (us ++ vs) _ (e2.trans (Ex.new hr)) (fresh_back e2 hr) upd_same (by rw [List.length_append, h2, hlen]) fun x hx => ?_
  rcases List.mem_append.mp hx with z | z
  · exact m _ _ _ ((e.trans e2).trans (Ex.new hr)) (h3 x z)
  · exact m _ _ _ (Ex.new hr) (hall x z)
theorem q_asgLP {P : Hp → V → Prop} {tz : TS} {D : Ends} {i n : Nat} (h : EvLP P te σ H n) (k : ∀ v H1, Ex H H1 → LpAt P H1 v n → tz D (σ.set i (some v)) H1) : tSeq (tAsg te (gName i)) tz D σ H :=
  h H (Ex.refl H) _ fun p vs H2 e2 _ hv hl hd => k (.ref p) H2 e2 ⟨p, vs, rfl, hv, hl, hd⟩
theorem q_asgP {P : Hp → V → Prop} {tz : TS} {D : Ends} {i : Nat} (h : EvP P te σ H) (k : ∀ v H1, Ex H H1 → P H1 v → tz D (σ.set i (some v)) H1) : tSeq (tAsg te (gName i)) tz D σ H :=
  h H (Ex.refl H) _ fun v H2 e2 p => k v H2 e2 p
theorem s_forLP {P : Hp → V → Prop} {n : Nat} {tl : TE} {g : TG} {tu : TS} {D : Ends} (m : Mono P) (h : EvLP P tl σ H n) (Iv : L2.St → Prop) (h0 : Iv σ)
    (hs : ∀ H2 v σ' H', Ex H H2 → Ex H2 H' → Iv σ' → P H' v → g v σ' H' fun σ2 H3 => tu { D with nx := fun σ3 H4 => Iv σ3 ∧ Ex H2 H4, ct := fun σ3 H4 => Iv σ3 ∧ Ex H2 H4, bk := D.nx } σ2 H3)
    (hd : ∀ σ' H', Ex H H' → Iv σ' → D.nx σ' H') : tFor (iList K tl) g tu D σ H :=
  h H (Ex.refl H) _ fun p vs H2 e2 _ hv _ hall => ⟨p, rfl, ⟨_, sq_of hv⟩, for_list (xs := vs) (fun _ σ' H' => Iv σ' ∧ Ex H2 H') ⟨h0, Ex.refl H2⟩ (fun _ _ _ _ hp => sq_of (hp.2 _ _ hv))
    (fun i x σ' H' hx hp => hs H2 x σ' H' e2 hp.2 hp.1 (m _ _ _ hp.2 (hall x (List.mem_of_getElem? hx)))) (fun σ' H' hp => hd σ' H' (e2.trans hp.2) hp.1)⟩
theorem s_forLA {P : Hp → V → Prop} {n i : Nat} {v : V} {g : TG} {tu : TS} {D : Ends} (m : Mono P) (hv : σ[i]? = some (some v)) (h : LpAt P H v n) (Iv : L2.St → Prop) (h0 : Iv σ)
    (hs : ∀ v σ' H', Ex H H' → Iv σ' → P H' v → g v σ' H' fun σ2 H3 => tu { D with nx := fun σ3 H4 => Iv σ3 ∧ Ex H H4, ct := fun σ3 H4 => Iv σ3 ∧ Ex H H4, bk := D.nx } σ2 H3)
    (hd : ∀ σ' H', Ex H H' → Iv σ' → D.nx σ' H') : tFor (iList K (tVar i)) g tu D σ H := by
  obtain ⟨p, vs, rfl, hp, _, hall⟩ := h
  exact ⟨.ref p, hv, p, rfl, ⟨_, sq_of hp⟩, for_list (xs := vs) (fun _ σ' H' => Iv σ' ∧ Ex H H') ⟨h0, Ex.refl H⟩ (fun _ _ _ _ hq => sq_of (hq.2 _ _ hp))
    (fun i x σ' H' hx hq => hs x σ' H' hq.2 hq.1 (m _ _ _ hq.2 (hall x (List.mem_of_getElem? hx)))) (fun σ' H' hq => hd σ' H' hq.2 hq.1)⟩
theorem o_yes {Q : Bool → Hp → Prop} (h : Q true H) : tYes σ H Q := h
/-! ### numbers by evaluation -/
abbrev EvN (K : PySem.W.Frag) (te : TE) (σ : L2.St) (H : Hp) (n : Int × Int) (B : Nat) : Prop := EvP (fun H v => Gn K H v n B) te σ H
theorem gn_mono {n : Int × Int} {B : Nat} : Mono (fun H v => Gn K H v n B) := fun _ _ _ e g => g.ex e
theorem evn_var {i : Nat} {v : V} {n : Int × Int} {B : Nat} (hv : σ[i]? = some (some v)) (g : Gn K H v n B) : EvN K (tVar i) σ H n B := evp_of (ev_var hv) gn_mono g
theorem evn_new {n : Int × Int} {B : Nat} (hn : isNumB n.1 n.2 = true) (hb : Bd n B) (h : ∀ H1, Ex H H1 → ∀ Q : VK, NewP H1 Q n → te σ H1 Q) : EvN K te σ H n B := fun H1 e Q q => h H1 e Q fun H2 p e2 _ hp => q (.ref p) H2 e2 ⟨numAt_of hp, hn, hb⟩
theorem evn_two {g : Int × Int → Int × Int → Int × Int} {a b : Int × Int} {B1 B2 C : Nat} (ha : EvN K ta σ H a B1) (hb : EvN K tb σ H b B2) (l : B1 + B2 ≤ LIM) (hn : isNumB (g a b).1 (g a b).2 = true) (hC : Bd a (B1 + B2) → Bd b (B1 + B2) → Bd (g a b) C) :
    EvN K (tCall (spTwo K g) [] E0 (tCons ta (tCons tb tNil))) σ H (g a b) C := fun H1 e Q q =>
  ha H1 e _ fun u H2 e2 gu => hb H2 (e.trans e2) _ fun v H3 e3 gv => ⟨u, v, a, b, rfl, (gu.ex e3).mono (by omega), gv.mono (by omega), fun H4 w e4 hw => q w H4 ((e2.trans e3).trans e4) ⟨hw, hn, hC (gu.bd.mono (by omega)) (gv.bd.mono (by omega))⟩⟩
theorem evn_plus {a b : Int × Int} {B1 B2 : Nat} (ha : EvN K ta σ H a B1) (hb : EvN K tb σ H b B2) (l : B1 + B2 ≤ LIM := by decide) : EvN K (tCall (spTwo K padd) [] E0 (tCons ta (tCons tb tNil))) σ H (padd a b) (4 * (B1 + B2) + 1) := evn_two ha hb l (num_add a b) bd_add
theorem evn_less {a b : Int × Int} {B1 B2 : Nat} (ha : EvN K ta σ H a B1) (hb : EvN K tb σ H b B2) (l : B1 + B2 ≤ LIM := by decide) : EvN K (tCall (spTwo K psub) [] E0 (tCons ta (tCons tb tNil))) σ H (psub a b) (4 * (B1 + B2) + 1) := evn_two ha hb l (num_add a _) bd_sub
theorem evn_times {a b : Int × Int} {B1 B2 : Nat} (ha : EvN K ta σ H a B1) (hb : EvN K tb σ H b B2) (l : B1 + B2 ≤ LIM := by decide) : EvN K (tCall (spTwo K pmul) [] E0 (tCons ta (tCons tb tNil))) σ H (pmul a b) (4 * (B1 + B2)) := evn_two ha hb l (num_mul a b) bd_mul
theorem ev_ord {a b : Int × Int} {B1 B2 : Nat} (ha : EvN K ta σ H a B1) (hb : EvN K tb σ H b B2) (l : B1 + B2 ≤ LIM := by decide) : Ev (tCall (spOrd K) [] E0 (tCons ta (tCons tb tNil))) σ H (.int (pord a b)) := fun H1 e Q q =>
  ha H1 e _ fun u H2 e2 gu => hb H2 (e.trans e2) _ fun v H3 e3 gv => ⟨u, v, a, b, rfl, (gu.ex e3).mono (by omega), gv.mono (by omega), fun H4 e4 => q H4 ((e2.trans e3).trans e4)⟩
theorem evn_lit {m e : Int} {B : Nat} (ha : Ev ta σ H (.int m)) (hb : Ev tb σ H (.int e)) (hn : isNumB m e = true) (hB : Bd (m, e) B) : EvN K (tTup (tCons ta (tCons tb tNil))) σ H (m, e) B := fun H1 e1 Q q =>
  ha H1 e1 _ fun H2 e2 => hb H2 (e1.trans e2) _ fun H3 e3 => ⟨by show 2 ≤ sizeLine; decide, fun p hp => q (.ref p) _ ((e2.trans e3).trans (Ex.new hp)) ⟨numAt_of upd_same, hn, hB⟩⟩
theorem numAt_dp {v : V} {n : Int × Int} (h : NumAt K H v n) : Dp K H v (.tuple [.int n.1, .int n.2]) := by
  obtain ⟨a, rfl, h⟩ := h
  exact .tup h (.cons (.int _) (.cons (.int _) .nil))
theorem pair_shaped (m e : Int) : SeqAt.shaped (.tuple [.int m, .int e]) = true := rfl
theorem evb_ne {a b : Int × Int} {B1 B2 : Nat} (ha : EvN K ta σ H a B1) (hb : EvN K tb σ H b B2) : Ev (tOp (rNeD K) ta tb) σ H (.bl (!decide (a = b))) := fun H1 e Q q =>
  ha H1 e _ fun u H2 e2 gu => hb H2 (e.trans e2) _ fun v H3 e3 gv => by
    refine ⟨_, _, numAt_dp (gu.ex e3).at_, numAt_dp gv.at_, pair_shaped _ _, pair_shaped _ _, ?_⟩
    rw [eqv_pairs]
    have e4 : (decide (a.1 = b.1) && decide (a.2 = b.2)) = decide (a = b) := by
      rw [← Bool.decide_and]
      exact decide_eq_decide.mpr ⟨fun z => Prod.ext z.1 z.2, fun z => by rw [z]; exact ⟨rfl, rfl⟩⟩
    rw [e4]
    exact q H3 (e2.trans e3)
theorem evb_eq {a b : Int × Int} {B1 B2 : Nat} (ha : EvN K ta σ H a B1) (hb : EvN K tb σ H b B2) : Ev (tOp (rEqD K) ta tb) σ H (.bl (decide (a = b))) := fun H1 e Q q =>
  ha H1 e _ fun u H2 e2 gu => hb H2 (e.trans e2) _ fun v H3 e3 gv => by
    refine ⟨_, _, numAt_dp (gu.ex e3).at_, numAt_dp gv.at_, pair_shaped _ _, pair_shaped _ _, ?_⟩
    rw [eqv_pairs]
    have e4 : (decide (a.1 = b.1) && decide (a.2 = b.2)) = decide (a = b) := by
      rw [← Bool.decide_and]
      exact decide_eq_decide.mpr ⟨fun z => Prod.ext z.1 z.2, fun z => by rw [z]; exact ⟨rfl, rfl⟩⟩
    rw [e4]
    exact q H3 (e2.trans e3)
/-- two ways to one number are told as no difference -/
theorem evt_same {a b : Int × Int} {B1 B2 : Nat} (ha : EvN K ta σ H a B1) (hb : EvN K tb σ H b B2) (h : a = b) : EvT (tTest (tOp (rNeD K) ta tb)) σ H false := by
  have := et_test (evb_ne ha hb)
  rw [decide_eq_true h] at this
  exact this
theorem q_pass {t : TT} {tu tz : TS} {D : Ends} (h : EvT t σ H false) (k : ∀ H1, Ex H H1 → tz D σ H1) : tSeq (tIfS t tu tNext) tz D σ H := q_when h (fun z => by cases z) (fun _ => k)
/-! ### what is kept where one list changes -/
def Keeps (p : Addr) (H H' : Hp) : Prop := ∀ b o, H b = some o → b ≠ p → H' b = some o
theorem sqT_keep {p a : Addr} {xs ys : List V} (h : SqT K H a xs) (hp : H p = some (.lst ys)) (k : Keeps p H H') : SqT K H' a xs := by
  rcases h with (h | ⟨o, h⟩) | h
  · exact .inl (.inl (k _ _ h (fun z => by rw [z, hp] at h; cases h)))
  · exact .inl (.inr ⟨o, k _ _ h (fun z => by rw [z, hp] at h; cases h)⟩)
  · exact .inr h
theorem gn_keep {p : Addr} {v : V} {n : Int × Int} {B : Nat} {ys : List V} (g : Gn K H v n B) (hp : H p = some (.lst ys)) (k : Keeps p H H') : Gn K H' v n B := by
  obtain ⟨⟨a, rfl, h⟩, h2, h3⟩ := g
  exact ⟨⟨a, rfl, sqT_keep h hp k⟩, h2, h3⟩
theorem keeps_upd {p : Addr} {o : HO} : Keeps p H (upd H p o) := fun b o' h hb => by
  rw [upd_ne hb]
  exact h
theorem Keeps.trans {p : Addr} {H1 : Hp} (a : Keeps p H H') (b : Keeps p H' H1) : Keeps p H H1 := fun c o h hc => b c o (a c o h hc) hc
theorem keeps_ex {p : Addr} (e : Ex H H') : Keeps p H H' := fun b o h _ => e b o h
end
end Onc

namespace Onc
open PySem PySem.Spec PyProof.Rows L2 Evl
/-! ### how sums, products and orders go together -/
section
variable {a b c : Int × Int} {E : Int}
theorem padd_comm (a b : Int × Int) : padd a b = padd b a := by
  rw [padd_at (E := min a.2 b.2) (by omega) (by omega), padd_at (a := b) (b := a) (E := min a.2 b.2) (by omega) (by omega), Int.add_comm]
theorem pmul_comm (a b : Int × Int) : pmul a b = pmul b a := by
  unfold pmul
  rw [Int.mul_comm, Int.add_comm]
theorem at_add (ha : E ≤ a.2) (hb : E ≤ b.2) : at_ (padd a b) E = at_ a E + at_ b E := by
  rw [padd_at ha hb, at_same]
theorem at_sub (ha : E ≤ a.2) (hb : E ≤ b.2) : at_ (psub a b) E = at_ a E - at_ b E := by
  rw [psub_at ha hb, at_same]
theorem le_add (ha : E ≤ a.2) (hb : E ≤ b.2) (h0 : E ≤ 0) : E ≤ (padd a b).2 := by
  rw [padd_at ha hb]
  exact nrm_le h0
theorem le_sub (ha : E ≤ a.2) (hb : E ≤ b.2) (h0 : E ≤ 0) : E ≤ (psub a b).2 := by
  rw [psub_at ha hb]
  exact nrm_le h0
theorem at_mul {F : Int} (ha : E ≤ a.2) (hb : F ≤ b.2) : at_ (pmul a b) (E + F) = at_ a E * at_ b F := by
  rw [pmul_at ha hb, at_same]
theorem le_mul {F : Int} (ha : E ≤ a.2) (hb : F ≤ b.2) (h0 : E + F ≤ 0) : E + F ≤ (pmul a b).2 := by
  rw [pmul_at ha hb]
  exact nrm_le h0
/-- a power below all -/
theorem low3 (a b c : Int × Int) : ∃ E : Int, E ≤ a.2 ∧ E ≤ b.2 ∧ E ≤ c.2 ∧ E ≤ 0 := ⟨min (min a.2 b.2) (min c.2 0), by omega, by omega, by omega, by omega⟩
theorem padd_assoc (a b c : Int × Int) : padd (padd a b) c = padd a (padd b c) := by
  obtain ⟨E, ha, hb, hc, h0⟩ := low3 a b c
  rw [padd_at (le_add ha hb h0) hc, padd_at (b := padd b c) ha (le_add hb hc h0), at_add ha hb, at_add hb hc, Int.add_assoc]
theorem pmul_assoc (a b c : Int × Int) : pmul (pmul a b) c = pmul a (pmul b c) := by
  obtain ⟨E, ha, hb, hc, h0⟩ := low3 a b c
  rw [pmul_at (E := E + E) (F := E) (le_mul ha hb (by omega)) hc, pmul_at (b := pmul b c) (E := E) (F := E + E) ha (le_mul hb hc (by omega)), at_mul ha hb, at_mul hb hc, Int.mul_assoc, Int.add_assoc]
theorem pmul_add (a b c : Int × Int) : pmul a (padd b c) = padd (pmul a b) (pmul a c) := by
  obtain ⟨E, ha, hb, hc, h0⟩ := low3 a b c
  rw [pmul_at (E := E) (F := E) ha (le_add hb hc h0), padd_at (E := E + E) (le_mul ha hb (by omega)) (le_mul ha hc (by omega)), at_add hb hc, at_mul ha hb, at_mul ha hc, Int.mul_add]
theorem sub_add (hn : isNumB a.1 a.2 = true) : psub (padd a b) b = a := by
  obtain ⟨E, ha, hb, hc, h0⟩ := low3 a b b
  rw [psub_at (le_add ha hb h0) hb, at_add ha hb, Int.add_sub_cancel, num_at hn ha]
theorem add_sub (hn : isNumB a.1 a.2 = true) : padd (psub a b) b = a := by
  obtain ⟨E, ha, hb, hc, h0⟩ := low3 a b b
  rw [padd_at (le_sub ha hb h0) hb, at_sub ha hb, Int.sub_add_cancel, num_at hn ha]
theorem sub_self (a : Int × Int) : psub a a = (0, 0) := by
  rw [psub_at (E := a.2) (by omega) (by omega), Int.sub_self]
  rfl
theorem mul_one (hn : isNumB a.1 a.2 = true) : pmul a (1, 0) = a := by
  show nrm (a.1 * 1) (a.2 + 0) = a
  rw [Int.mul_one, Int.add_zero, nrm_self hn]
theorem add_zero (hn : isNumB a.1 a.2 = true) : padd a (0, 0) = a := by
  obtain ⟨E, ha, _, _, h0⟩ := low3 a a a
  rw [padd_at (b := (0, 0)) ha h0]
  have e : at_ (0, 0) E = 0 := Int.zero_mul _
  rw [e, Int.add_zero, num_at hn ha]
theorem mul_zero (a : Int × Int) : pmul a (0, 0) = (0, 0) := by
  show nrm (a.1 * 0) (a.2 + 0) = (0, 0)
  rw [Int.mul_zero]
  rfl
theorem zero_sub (a : Int × Int) : psub (0, 0) a = pmul a (-1, 0) := by
  obtain ⟨E, ha, _, _, h0⟩ := low3 a a a
  rw [psub_at (a := (0, 0)) h0 ha]
  have e : at_ (0, 0) E = 0 := Int.zero_mul _
  rw [e, pmul_at (b := (-1, 0)) (E := E) (F := 0) ha (Int.le_refl 0), Int.add_zero]
  have e2 : at_ (-1, 0) 0 = -1 := rfl
  rw [e2]
  congr 1
  omega
theorem ord_add (a b c : Int × Int) : pord (padd a c) (padd b c) = pord a b := by
  obtain ⟨E, ha, hb, hc, h0⟩ := low3 a b c
  rw [pord_at (le_add ha hc h0) (le_add hb hc h0), pord_at ha hb, at_add ha hc, at_add hb hc]
  congr 1
  omega
theorem sgn_prod (x y : Int) : sgn (x * y) = sgn x * sgn y := by
  rcases Int.lt_trichotomy x 0 with h | h | h <;> rcases Int.lt_trichotomy y 0 with g | g | g
  · rw [sgn_neg h, sgn_neg g, sgn_pos (Int.mul_pos_of_neg_of_neg h g)]
    rfl
  · subst g
    rw [Int.mul_zero, sgn_zero, Int.mul_zero]
  · rw [sgn_neg h, sgn_pos g, sgn_neg (Int.mul_neg_of_neg_of_pos h g)]
    rfl
  · subst h
    rw [Int.zero_mul, sgn_zero, Int.zero_mul]
  · subst h
    rw [Int.zero_mul, sgn_zero, Int.zero_mul]
  · subst h
    rw [Int.zero_mul, sgn_zero, Int.zero_mul]
  · rw [sgn_pos h, sgn_neg g, sgn_neg (Int.mul_neg_of_pos_of_neg h g)]
    rfl
  · subst g
    rw [Int.mul_zero, sgn_zero, Int.mul_zero]
  · rw [sgn_pos h, sgn_pos g, sgn_pos (Int.mul_pos h g)]
    rfl
theorem ord_mul (a b c : Int × Int) : pord (pmul a c) (pmul b c) = pord a b * sgn c.1 := by
  obtain ⟨E, ha, hb, hc, h0⟩ := low3 a b c
  rw [pord_at (E := E + E) (le_mul ha hc (by omega)) (le_mul hb hc (by omega)), pord_at ha hb, at_mul ha hc, at_mul hb hc, ← Int.sub_mul, sgn_prod, at_sgn c]
theorem ord_zero (hn : isNumB a.1 a.2 = true) (hm : isNumB b.1 b.2 = true) : pord a b = 0 ↔ a = b := by
  obtain ⟨E, ha, hb, _, h0⟩ := low3 a b b
  constructor
  · intro h
    rw [pord_at ha hb] at h
    have := sgn_of_zero h
    rw [← num_at hn ha, ← num_at hm hb, show at_ a E = at_ b E by omega]
  · intro h
    subst h
    unfold pord
    rw [Int.sub_self]
    rfl
theorem sgn_le {x : Int} (h : sgn x ≤ 0) : x ≤ 0 := by
  rcases Int.lt_trichotomy x 0 with q | q | q
  · omega
  · omega
  · rw [sgn_pos q] at h
    omega
theorem ord_trans (h1 : pord a b ≤ 0) (h2 : pord b c ≤ 0) : ¬ 0 < pord a c := by
  obtain ⟨E, ha, hb, hc, h0⟩ := low3 a b c
  rw [pord_at ha hb] at h1
  rw [pord_at hb hc] at h2
  rw [pord_at ha hc]
  have h1 := sgn_le h1
  have h2 := sgn_le h2
  intro h
  have h3 : ¬ 0 < at_ a E - at_ c E := by omega
  rcases sgn_cases (at_ a E - at_ c E) with q | q | q
  · exact h3 (sgn_of_pos q)
  · omega
  · omega
theorem pord_range (a b : Int × Int) : -1 ≤ pord a b ∧ pord a b ≤ 1 := by
  unfold pord
  rcases sgn_cases (at_ a (min a.2 b.2) - at_ b (min a.2 b.2)) with z | z | z <;> rw [z] <;> decide
theorem b2i_sgn (x : Int) : (if decide (0 < x) = true then (1 : Int) else 0) - (if decide (x < 0) = true then 1 else 0) = sgn x := by
  rcases Int.lt_trichotomy x 0 with q | q | q
  · rw [sgn_neg q, decide_eq_true q, decide_eq_false (by omega)]
    rfl
  · subst q
    rfl
  · rw [sgn_pos q, decide_eq_true q, decide_eq_false (by omega)]
    rfl
end
theorem num_zero {n : Int × Int} (h : isNumB n.1 n.2 = true) (h0 : n.1 = 0) : n = (0, 0) := by
  unfold isNumB at h
  rw [h0] at h
  rcases Bool.or_eq_true_iff.mp h with q | q
  · exact absurd (of_decide_eq_true q) (by decide)
  · exact Prod.ext h0 (of_decide_eq_true (Bool.and_eq_true_iff.mp q).2)
theorem num_odd {n : Int × Int} (h : isNumB n.1 n.2 = true) (h0 : n.1 ≠ 0) : n.1 % 2 = 1 := by
  unfold isNumB at h
  rcases Bool.or_eq_true_iff.mp h with q | q
  · exact of_decide_eq_true q
  · exact absurd (of_decide_eq_true (Bool.and_eq_true_iff.mp q).1) h0
theorem odd_num {m e : Int} (h : m % 2 = 1) : isNumB m e = true := by
  unfold isNumB
  rw [decide_eq_true h]
  rfl
theorem padd_zero_r {a b : Int × Int} (ha : isNumB a.1 a.2 = true) (h : b = (0, 0)) : padd a b = a := by
  subst h
  exact add_zero ha
/-- the sum at the lesser power, where the other one is even there -/
theorem padd_gt {a b : Int × Int} (hb : isNumB b.1 b.2 = true) (h0 : b.1 ≠ 0) (h : b.2 < a.2) : padd a b = (a.1 * 2 ^ (a.2 - b.2).toNat + b.1, b.2) := by
  rw [padd_at (E := b.2) (by omega) (by omega)]
  have e1 : at_ b b.2 = b.1 := by
    unfold at_
    rw [show (b.2 - b.2).toNat = 0 by omega, Int.pow_zero, Int.mul_one]
  rw [e1]
  refine nrm_self (odd_num ?_)
  have o := num_odd hb h0
  show (a.1 * 2 ^ (a.2 - b.2).toNat + b.1) % 2 = 1
  obtain ⟨k, hk⟩ : ∃ k, (a.2 - b.2).toNat = k + 1 := ⟨(a.2 - b.2).toNat - 1, by omega⟩
  rw [hk, Int.pow_succ, ← Int.mul_assoc]
  generalize a.1 * 2 ^ k = z
  omega
end Onc

namespace Onc
open PySem PySem.Spec PyProof.Rows L2 Evl
/-! ### lists of numbers -/
section
variable {K : PySem.W.Frag} {σ : L2.St} {H H' : Hp} {ta tb tc te : TE}
def GnL (K : PySem.W.Frag) (H : Hp) (B : Nat) : List V → List (Int × Int) → Prop
  | [], [] => True
  | v :: vs, n :: ns => Gn K H v n B ∧ GnL K H B vs ns
  | _, _ => False
theorem gnL_ex {B : Nat} (e : Ex H H') : ∀ {vs : List V} {ns : List (Int × Int)}, GnL K H B vs ns → GnL K H' B vs ns
  | [], [], _ => trivial
  | _ :: _, _ :: _, h => ⟨h.1.ex e, gnL_ex e h.2⟩
theorem gnL_len {B : Nat} : ∀ {vs : List V} {ns : List (Int × Int)}, GnL K H B vs ns → vs.length = ns.length
  | [], [], _ => rfl
  | _ :: _, _ :: _, h => congrArg Nat.succ (gnL_len h.2)
theorem gnL_keep {B : Nat} {p : Addr} {ys : List V} (hp : H p = some (.lst ys)) (k : Keeps p H H') : ∀ {vs : List V} {ns : List (Int × Int)}, GnL K H B vs ns → GnL K H' B vs ns
  | [], [], _ => trivial
  | _ :: _, _ :: _, h => ⟨gn_keep h.1 hp k, gnL_keep hp k h.2⟩
theorem gnL_app {B : Nat} : ∀ {vs ws : List V} {ns ms : List (Int × Int)}, GnL K H B vs ns → GnL K H B ws ms → GnL K H B (vs ++ ws) (ns ++ ms)
  | [], _, [], _, _, h => h
  | _ :: _, _, _ :: _, _, h1, h => ⟨h1.1, gnL_app h1.2 h⟩
theorem gnL_mem {B : Nat} : ∀ {vs : List V} {ns : List (Int × Int)}, GnL K H B vs ns → ∀ {i : Nat} {v : V}, vs[i]? = some v → ∃ n, Gn K H v n B
  | [], [], _, i, v, h => by simp at h
  | x :: _, n :: _, g, 0, v, h => by
    have e : x = v := Option.some.inj h
    subst e
    exact ⟨n, g.1⟩
  | _ :: _, _ :: _, g, i + 1, v, h => gnL_mem g.2 (i := i) h
def pairD (n : Int × Int) : PyData := .tuple [.int n.1, .int n.2]
theorem gnL_dp {B : Nat} : ∀ {vs : List V} {ns : List (Int × Int)}, GnL K H B vs ns → DpAll K H vs (ns.map pairD)
  | [], [], _ => .nil
  | _ :: _, _ :: _, h => .cons (numAt_dp h.1.at_) (gnL_dp h.2)
theorem lay_pairs : ∀ ns : List (Int × Int), PyData.canLayAll0 (ns.map pairD) = true
  | [] => rfl
  | n :: ns => by
    show (PyData.canLay0 (pairD n) && PyData.canLayAll0 (ns.map pairD)) = true
    rw [lay_pairs ns]
    rfl
theorem dep_pairs : ∀ ns : List (Int × Int), PyData.depthAll (ns.map pairD) ≤ 1
  | [] => by simp [PyData.depthAll]
  | n :: ns => by
    have h := dep_pairs ns
    have h2 : PyData.depth (pairD n) = 1 := by simp [pairD, PyData.depth, PyData.depthAll]
    have e : PyData.depthAll ((n :: ns).map pairD) = max (PyData.depth (pairD n)) (PyData.depthAll (ns.map pairD)) := by rw [List.map_cons, PyData.depthAll]
    rw [e, h2]
    omega
theorem list_lay (ns : List (Int × Int)) : PyData.canLay0 (.list (ns.map pairD)) = true := by
  rw [PyData.canLay0]
  exact lay_pairs ns
theorem list_shaped (ns : List (Int × Int)) : SeqAt.shaped (.list (ns.map pairD)) = true := by
  unfold SeqAt.shaped
  rw [list_lay ns, PyData.depth]
  have := dep_pairs ns
  rw [decide_eq_true (by omega)]
  rfl
/-- a list of these numbers -/
def LnAt (K : PySem.W.Frag) (H : Hp) (v : V) (ns : List (Int × Int)) (B : Nat) : Prop := ∃ p vs, v = .ref p ∧ H p = some (.lst vs) ∧ GnL K H B vs ns
theorem lnAt_ex {v : V} {ns : List (Int × Int)} {B : Nat} (e : Ex H H') (h : LnAt K H v ns B) : LnAt K H' v ns B := by
  obtain ⟨p, vs, e1, h1, h2⟩ := h
  exact ⟨p, vs, e1, e _ _ h1, gnL_ex e h2⟩
theorem evt_lists {u v : V} {i j : Nat} {ns : List (Int × Int)} {B C : Nat} (hu : σ[i]? = some (some u)) (hv : σ[j]? = some (some v)) (h1 : LnAt K H u ns B) (h2 : LnAt K H v ns C) : EvT (tTest (tOp (rNeD K) (tVar i) (tVar j))) σ H false := fun H1 e Q q => by
  obtain ⟨p, vs, rfl, hp, gp⟩ := lnAt_ex e h1
  obtain ⟨r, ws, rfl, hr, gr⟩ := lnAt_ex e h2
  refine ⟨.ref p, hu, .ref r, hv, .list (ns.map pairD), .list (ns.map pairD), .lst (sq_of hp) (gnL_dp gp), .lst (sq_of hr) (gnL_dp gr), list_shaped ns, list_shaped ns, false, ?_, q H1 (Ex.refl H1)⟩
  rw [SeqAt.eqv_refl _ (list_lay ns)]
  rfl
def EvNs (K : PySem.W.Frag) (ta : TA) (σ : L2.St) (H : Hp) (ns : List (Int × Int)) (B : Nat) : Prop := ∀ H1, Ex H H1 → ∀ Q : List V → Hp → Prop, (∀ vs H2, Ex H1 H2 → GnL K H2 B vs ns → Q vs H2) → ta σ H1 Q
theorem evns_nil {B : Nat} : EvNs K tNil σ H [] B := fun H1 _ _ q => q [] H1 (Ex.refl H1) trivial
theorem evns_cons {tr : TA} {n : Int × Int} {ns : List (Int × Int)} {B C : Nat} (h : EvN K ta σ H n C) (hr : EvNs K tr σ H ns B) (l : C ≤ B := by decide) : EvNs K (tCons ta tr) σ H (n :: ns) B := fun H1 e Q q =>
  h H1 e _ fun v H2 e2 g => hr H2 (e.trans e2) _ fun vs H3 e3 hv => q (v :: vs) H3 (e2.trans e3) ⟨(g.ex e3).mono l, hv⟩
theorem EvNs.mono {ta : TA} {ns : List (Int × Int)} {B : Nat} (h : EvNs K ta σ H ns B) (e : Ex H H') : EvNs K ta σ H' ns B := fun H1 e1 Q q => h H1 (e.trans e1) Q q
theorem q_asgLN {tr : TA} {ns : List (Int × Int)} {B i : Nat} {tz : TS} {D : Ends} (h : EvNs K tr σ H ns B) (hl : ns.length ≤ 1000) (k : ∀ p vs H1, Ex H H1 → H p = none → H1 p = some (.lst vs) → GnL K H1 B vs ns → tz D (σ.set i (some (.ref p))) H1) : tSeq (tAsg (tLst tr) (gName i)) tz D σ H :=
  h H (Ex.refl H) _ fun vs H2 e2 hv => ⟨sz_of (by rw [gnL_len hv]; omega), fun p hp => k p vs _ (e2.trans (Ex.new hp)) (fresh_back e2 hp) upd_same (gnL_ex (Ex.new hp) hv)⟩
theorem q_asgLNcat {tr : TA} {ns ms : List (Int × Int)} {B i j : Nat} {v : V} {tz : TS} {D : Ends} (hv : σ[j]? = some (some v)) (hn : LnAt K H v ns B) (h : EvNs K tr σ H ms B) (hl : ns.length + ms.length ≤ 1000) (k : ∀ w H1, Ex H H1 → LnAt K H1 w (ns ++ ms) B → tz D (σ.set i (some w)) H1) : tSeq (tAsg (tOp rCat (tVar j) (tLst tr)) (gName i)) tz D σ H := by
  obtain ⟨a, us, rfl, h1, h2⟩ := hn
  refine ⟨.ref a, hv, h H (Ex.refl H) _ fun vs H2 e2 hvs => ⟨sz_of (by rw [gnL_len hvs]; omega), fun p hp => ?_⟩⟩
  have ap : a ≠ p := ne_of_none (e2 _ _ h1) hp
  refine ⟨a, p, us, vs, rfl, rfl, by rw [upd_ne ap]; exact e2 _ _ h1, upd_same, sz_of (by rw [gnL_len h2, gnL_len hvs]; omega), fun r hr => ?_⟩
  have e3 := (e2.trans (Ex.new (o := .lst vs) hp)).trans (Ex.new (o := .lst (us ++ vs)) hr)
  exact k (.ref r) _ e3 ⟨r, us ++ vs, rfl, upd_same, gnL_app (gnL_ex e3 h2) (gnL_ex ((Ex.new hp).trans (Ex.new hr)) hvs)⟩
/-! ### by names -/
theorem evn_kw {g : Int × Int → Int × Int → Int × Int} {a b : Int × Int} {B1 B2 C : Nat} (ha : EvN K ta σ H a B1) (hb : EvN K tb σ H b B2) (l : B1 + B2 ≤ LIM) (hn : isNumB (g a b).1 (g a b).2 = true) (hC : Bd a (B1 + B2) → Bd b (B1 + B2) → Bd (g a b) C) :
    EvN K (tCallN 0 2 (spTwo K g) (fun _ zs => zs.reverse) E0 tNil (tCons tb (tCons ta tNil))) σ H (g a b) C := fun H1 e Q q =>
  hb H1 e _ fun v H2 e2 gv => ha H2 (e.trans e2) _ fun u H3 e3 gu => ⟨rfl, rfl, u, v, a, b, rfl, gu.mono (by omega), (gv.ex e3).mono (by omega), fun H4 w e4 hw => q w H4 ((e2.trans e3).trans e4) ⟨hw, hn, hC (gu.bd.mono (by omega)) (gv.bd.mono (by omega))⟩⟩
theorem ev_ordkw {a b : Int × Int} {B1 B2 : Nat} (ha : EvN K ta σ H a B1) (hb : EvN K tb σ H b B2) (l : B1 + B2 ≤ LIM) : Ev (tCallN 0 2 (spOrd K) (fun _ zs => zs.reverse) E0 tNil (tCons tb (tCons ta tNil))) σ H (.int (pord a b)) := fun H1 e Q q =>
  hb H1 e _ fun v H2 e2 gv => ha H2 (e.trans e2) _ fun u H3 e3 gu => ⟨rfl, rfl, u, v, a, b, rfl, gu.mono (by omega), (gv.ex e3).mono (by omega), fun H4 e4 => q H4 ((e2.trans e3).trans e4)⟩
end
theorem cmp_sgn (x y : Int) : (if decide (y < x) = true then (1 : Int) else 0) - (if decide (x < y) = true then 1 else 0) = sgn (x - y) := by
  rw [← b2i_sgn (x - y)]
  have e1 : decide (0 < x - y) = decide (y < x) := decide_eq_decide.mpr ⟨fun h => by omega, fun h => by omega⟩
  have e2 : decide (x - y < 0) = decide (x < y) := decide_eq_decide.mpr ⟨fun h => by omega, fun h => by omega⟩
  rw [e1, e2]
end Onc

namespace Onc
open PySem PySem.Spec PyProof.Rows L2 Evl
/-! ### least and greatest -/
def IsLeast (n : Int × Int) (ns : List (Int × Int)) : Prop := n ∈ ns ∧ ∀ m ∈ ns, pord n m ≤ 0
def IsGreat (n : Int × Int) (ns : List (Int × Int)) : Prop := n ∈ ns ∧ ∀ m ∈ ns, pord m n ≤ 0
def AllNum (ns : List (Int × Int)) : Prop := ∀ n ∈ ns, isNumB n.1 n.2 = true
theorem pord_anti {a b : Int × Int} (ha : isNumB a.1 a.2 = true) (hb : isNumB b.1 b.2 = true) (h1 : pord a b ≤ 0) (h2 : pord b a ≤ 0) : a = b := by
  rw [pord_swap a b] at h2
  exact (ord_zero ha hb).mp (by omega)
theorem least_unique {n m : Int × Int} {ns ms : List (Int × Int)} (h1 : IsLeast n ns) (h2 : IsLeast m ms) (hs : ∀ x, x ∈ ns ↔ x ∈ ms) (a : AllNum ns) : n = m :=
  pord_anti (a n h1.1) (a m ((hs m).mpr h2.1)) (h1.2 m ((hs m).mpr h2.1)) (h2.2 n ((hs n).mp h1.1))
theorem great_unique {n m : Int × Int} {ns ms : List (Int × Int)} (h1 : IsGreat n ns) (h2 : IsGreat m ms) (hs : ∀ x, x ∈ ns ↔ x ∈ ms) (a : AllNum ns) : n = m :=
  pord_anti (a n h1.1) (a m ((hs m).mpr h2.1)) (h2.2 n ((hs n).mp h1.1)) (h1.2 m ((hs m).mpr h2.1))
theorem pneg_pneg (a : Int × Int) : pneg (pneg a) = a := by
  unfold pneg
  simp
theorem pord_neg (a b : Int × Int) : pord (pneg a) (pneg b) = pord b a := by
  have ha : min a.2 b.2 ≤ (pneg a).2 := by show min a.2 b.2 ≤ a.2; omega
  have hb : min a.2 b.2 ≤ (pneg b).2 := by show min a.2 b.2 ≤ b.2; omega
  rw [pord_at ha hb, at_neg, at_neg, pord_at (a := b) (b := a) (E := min a.2 b.2) (by omega) (by omega)]
  congr 1
  omega
theorem great_neg {n : Int × Int} {ns : List (Int × Int)} (h : IsLeast n (ns.map pneg)) : IsGreat (pneg n) ns := by
  obtain ⟨h1, h2⟩ := h
  obtain ⟨m, hm, e⟩ := List.mem_map.mp h1
  refine ⟨by rw [← e, pneg_pneg]; exact hm, fun x hx => ?_⟩
  have := h2 (pneg x) (List.mem_map.mpr ⟨x, hx, rfl⟩)
  rw [← pneg_pneg x, pord_neg]
  exact this
theorem least_le_great {n m : Int × Int} {ns : List (Int × Int)} (h1 : IsLeast n ns) (h2 : IsGreat m ns) : pord n m ≤ 0 := h1.2 m h2.1
theorem add_le {a b c d : Int × Int} (h1 : pord a b ≤ 0) (h2 : pord c d ≤ 0) : pord (padd a c) (padd b d) ≤ 0 := by
  obtain ⟨E, ha, hb, hc, h0⟩ := low3 a b c
  obtain ⟨E2, ha2, hd, hc2, h02⟩ := low3 a d c
  have l : min E E2 ≤ a.2 ∧ min E E2 ≤ b.2 ∧ min E E2 ≤ c.2 ∧ min E E2 ≤ d.2 ∧ min E E2 ≤ 0 := by omega
  obtain ⟨la, lb, lc, ld, l0⟩ := l
  rw [pord_at la lb] at h1
  rw [pord_at lc ld] at h2
  rw [pord_at (le_add la lc l0) (le_add lb ld l0), at_add la lc, at_add lb ld]
  have h1 := sgn_le h1
  have h2 := sgn_le h2
  rcases sgn_cases (at_ a (min E E2) + at_ c (min E E2) - (at_ b (min E E2) + at_ d (min E E2))) with q | q | q
  · have := sgn_of_pos q
    omega
  · omega
  · omega
theorem pord_self (a : Int × Int) : pord a a = 0 := by
  unfold pord
  rw [Int.sub_self]
  rfl
/-! ### products of ends -/
theorem ord_at {a b : Int × Int} {E : Int} (ha : E ≤ a.2) (hb : E ≤ b.2) : pord a b ≤ 0 ↔ at_ a E ≤ at_ b E := by
  rw [pord_at ha hb]
  constructor
  · intro h
    have := sgn_le h
    omega
  · intro h
    rcases sgn_cases (at_ a E - at_ b E) with q | q | q
    · have := sgn_of_pos q
      omega
    · omega
    · omega
theorem at_nonneg {a : Int × Int} {E : Int} (h : 0 ≤ a.1) : 0 ≤ at_ a E := Int.mul_nonneg h (Int.le_of_lt (pow_pos2 _))
theorem at_nonpos {a : Int × Int} {E : Int} (h : a.1 ≤ 0) : at_ a E ≤ 0 := Int.mul_nonpos_of_nonpos_of_nonneg h (Int.le_of_lt (pow_pos2 _))
def prods (a b c d : Int × Int) : List (Int × Int) := [pmul a c, pmul a d, pmul b c, pmul b d]
section
variable {a b c d x y : Int × Int} {E : Int}
theorem ord_mul2 {z w : Int × Int} (hx : E ≤ x.2) (hy : E ≤ y.2) (hz : E ≤ z.2) (hw : E ≤ w.2) (h0 : E ≤ 0) : pord (pmul x y) (pmul z w) ≤ 0 ↔ at_ x E * at_ y E ≤ at_ z E * at_ w E := by
  rw [ord_at (le_mul hx hy (show E + E ≤ 0 by omega)) (le_mul hz hw (show E + E ≤ 0 by omega)), at_mul hx hy, at_mul hz hw]
theorem least4 (ha : E ≤ a.2) (hb : E ≤ b.2) (hc : E ≤ c.2) (hd : E ≤ d.2) (h0 : E ≤ 0) (hx : E ≤ x.2) (hy : E ≤ y.2) (hm : pmul x y ∈ prods a b c d)
    (h : at_ x E * at_ y E ≤ at_ a E * at_ c E ∧ at_ x E * at_ y E ≤ at_ a E * at_ d E ∧ at_ x E * at_ y E ≤ at_ b E * at_ c E ∧ at_ x E * at_ y E ≤ at_ b E * at_ d E) : IsLeast (pmul x y) (prods a b c d) := by
  refine ⟨hm, fun m hm => ?_⟩
  obtain ⟨h1, h2, h3, h4⟩ := h
  simp only [prods, List.mem_cons, List.not_mem_nil, or_false] at hm
  rcases hm with rfl | rfl | rfl | rfl
  · exact (ord_mul2 hx hy ha hc h0).mpr h1
  · exact (ord_mul2 hx hy ha hd h0).mpr h2
  · exact (ord_mul2 hx hy hb hc h0).mpr h3
  · exact (ord_mul2 hx hy hb hd h0).mpr h4
theorem great4 (ha : E ≤ a.2) (hb : E ≤ b.2) (hc : E ≤ c.2) (hd : E ≤ d.2) (h0 : E ≤ 0) (hx : E ≤ x.2) (hy : E ≤ y.2) (hm : pmul x y ∈ prods a b c d)
    (h : at_ a E * at_ c E ≤ at_ x E * at_ y E ∧ at_ a E * at_ d E ≤ at_ x E * at_ y E ∧ at_ b E * at_ c E ≤ at_ x E * at_ y E ∧ at_ b E * at_ d E ≤ at_ x E * at_ y E) : IsGreat (pmul x y) (prods a b c d) := by
  refine ⟨hm, fun m hm => ?_⟩
  obtain ⟨h1, h2, h3, h4⟩ := h
  simp only [prods, List.mem_cons, List.not_mem_nil, or_false] at hm
  rcases hm with rfl | rfl | rfl | rfl
  · exact (ord_mul2 ha hc hx hy h0).mpr h1
  · exact (ord_mul2 ha hd hx hy h0).mpr h2
  · exact (ord_mul2 hb hc hx hy h0).mpr h3
  · exact (ord_mul2 hb hd hx hy h0).mpr h4
theorem m_ac : pmul a c ∈ prods a b c d := by simp [prods]
theorem m_ad : pmul a d ∈ prods a b c d := by simp [prods]
theorem m_bc : pmul b c ∈ prods a b c d := by simp [prods]
theorem m_bd : pmul b d ∈ prods a b c d := by simp [prods]
theorem lm {p q r : Int} (h : p ≤ q) (hr : 0 ≤ r) : r * p ≤ r * q := Int.mul_le_mul_of_nonneg_left h hr
theorem lm' {p q r : Int} (h : p ≤ q) (hr : r ≤ 0) : r * q ≤ r * p := Int.mul_le_mul_of_nonpos_left hr h
theorem rm {p q r : Int} (h : p ≤ q) (hr : 0 ≤ r) : p * r ≤ q * r := Int.mul_le_mul_of_nonneg_right h hr
theorem rm' {p q r : Int} (h : p ≤ q) (hr : r ≤ 0) : q * r ≤ p * r := Int.mul_le_mul_of_nonpos_right h hr
theorem low4 (a b c d : Int × Int) : ∃ E : Int, E ≤ a.2 ∧ E ≤ b.2 ∧ E ≤ c.2 ∧ E ≤ d.2 ∧ E ≤ 0 := ⟨min (min (min a.2 b.2) (min c.2 d.2)) 0, by omega, by omega, by omega, by omega, by omega⟩
theorem ends_a (hab : pord a b ≤ 0) (hcd : pord c d ≤ 0) (h : 0 ≤ a.1) : IsLeast (pmul (if 0 ≤ c.1 then a else b) c) (prods a b c d) ∧ IsGreat (pmul (if 0 ≤ d.1 then b else a) d) (prods a b c d) := by
  obtain ⟨E, ha, hb, hc, hd, h0⟩ := low4 a b c d
  have A := (ord_at ha hb).mp hab
  have C := (ord_at hc hd).mp hcd
  have sA : 0 ≤ at_ a E := at_nonneg h
  have f1 := lm C sA
  have f2 := lm C (Int.le_trans sA A)
  constructor
  · by_cases z : 0 ≤ c.1
    · have sC : 0 ≤ at_ c E := at_nonneg z
      have f3 := rm A sC
      rw [if_pos z]
      exact least4 ha hb hc hd h0 ha hc m_ac ⟨Int.le_refl _, by omega, by omega, by omega⟩
    · have sC : at_ c E ≤ 0 := at_nonpos (by omega)
      have f3 := rm' A sC
      rw [if_neg z]
      exact least4 ha hb hc hd h0 hb hc m_bc ⟨by omega, by omega, Int.le_refl _, by omega⟩
  · by_cases z : 0 ≤ d.1
    · have sD : 0 ≤ at_ d E := at_nonneg z
      have f3 := rm A sD
      rw [if_pos z]
      exact great4 ha hb hc hd h0 hb hd m_bd ⟨by omega, by omega, by omega, Int.le_refl _⟩
    · have sD : at_ d E ≤ 0 := at_nonpos (by omega)
      have f3 := rm' A sD
      rw [if_neg z]
      exact great4 ha hb hc hd h0 ha hd m_ad ⟨by omega, Int.le_refl _, by omega, by omega⟩
theorem ends_b (hab : pord a b ≤ 0) (hcd : pord c d ≤ 0) (h : b.1 ≤ 0) : IsLeast (pmul (if 0 ≤ d.1 then a else b) d) (prods a b c d) ∧ IsGreat (pmul (if c.1 ≤ 0 then a else b) c) (prods a b c d) := by
  obtain ⟨E, ha, hb, hc, hd, h0⟩ := low4 a b c d
  have A := (ord_at ha hb).mp hab
  have C := (ord_at hc hd).mp hcd
  have sB : at_ b E ≤ 0 := at_nonpos h
  have f1 := lm' C sB
  have f2 := lm' C (Int.le_trans A sB)
  constructor
  · by_cases z : 0 ≤ d.1
    · have sD : 0 ≤ at_ d E := at_nonneg z
      have f3 := rm A sD
      rw [if_pos z]
      exact least4 ha hb hc hd h0 ha hd m_ad ⟨by omega, Int.le_refl _, by omega, by omega⟩
    · have sD : at_ d E ≤ 0 := at_nonpos (by omega)
      have f3 := rm' A sD
      rw [if_neg z]
      exact least4 ha hb hc hd h0 hb hd m_bd ⟨by omega, by omega, by omega, Int.le_refl _⟩
  · by_cases z : c.1 ≤ 0
    · have sC : at_ c E ≤ 0 := at_nonpos z
      have f3 := rm' A sC
      rw [if_pos z]
      exact great4 ha hb hc hd h0 ha hc m_ac ⟨Int.le_refl _, by omega, by omega, by omega⟩
    · have sC : 0 ≤ at_ c E := at_nonneg (by omega)
      have f3 := rm A sC
      rw [if_neg z]
      exact great4 ha hb hc hd h0 hb hc m_bc ⟨by omega, by omega, Int.le_refl _, by omega⟩
theorem ends_c (hab : pord a b ≤ 0) (hcd : pord c d ≤ 0) (h1 : a.1 ≤ 0) (h2 : 0 ≤ b.1) (h : 0 ≤ c.1) : IsLeast (pmul a d) (prods a b c d) ∧ IsGreat (pmul b d) (prods a b c d) := by
  obtain ⟨E, ha, hb, hc, hd, h0⟩ := low4 a b c d
  have A := (ord_at ha hb).mp hab
  have C := (ord_at hc hd).mp hcd
  have sC : 0 ≤ at_ c E := at_nonneg h
  have f1 := lm' C (at_nonpos (E := E) h1)
  have f2 := lm C (at_nonneg (E := E) h2)
  have f3 := rm A sC
  have f4 := rm A (Int.le_trans sC C)
  exact ⟨least4 ha hb hc hd h0 ha hd m_ad ⟨by omega, Int.le_refl _, by omega, by omega⟩, great4 ha hb hc hd h0 hb hd m_bd ⟨by omega, by omega, by omega, Int.le_refl _⟩⟩
theorem ends_d (hab : pord a b ≤ 0) (hcd : pord c d ≤ 0) (h1 : a.1 ≤ 0) (h2 : 0 ≤ b.1) (h : d.1 ≤ 0) : IsLeast (pmul b c) (prods a b c d) ∧ IsGreat (pmul a c) (prods a b c d) := by
  obtain ⟨E, ha, hb, hc, hd, h0⟩ := low4 a b c d
  have A := (ord_at ha hb).mp hab
  have C := (ord_at hc hd).mp hcd
  have sD : at_ d E ≤ 0 := at_nonpos h
  have f1 := lm' C (at_nonpos (E := E) h1)
  have f2 := lm C (at_nonneg (E := E) h2)
  have f3 := rm' A sD
  have f4 := rm' A (Int.le_trans C sD)
  exact ⟨least4 ha hb hc hd h0 hb hc m_bc ⟨by omega, by omega, Int.le_refl _, by omega⟩, great4 ha hb hc hd h0 ha hc m_ac ⟨Int.le_refl _, by omega, by omega, by omega⟩⟩
theorem ends_e (hab : pord a b ≤ 0) (hcd : pord c d ≤ 0) (h1 : a.1 ≤ 0) (h2 : 0 ≤ b.1) (h3 : c.1 ≤ 0) (h4 : 0 ≤ d.1) :
    IsLeast (if pord (pmul a d) (pmul b c) ≤ 0 then pmul a d else pmul b c) (prods a b c d) ∧ IsGreat (if 0 ≤ pord (pmul a c) (pmul b d) then pmul a c else pmul b d) (prods a b c d) := by
  obtain ⟨E, ha, hb, hc, hd, h0⟩ := low4 a b c d
  have A := (ord_at ha hb).mp hab
  have C := (ord_at hc hd).mp hcd
  have f1 := lm' C (at_nonpos (E := E) h1)
  have f2 := lm C (at_nonneg (E := E) h2)
  have f3 := rm' A (at_nonpos (E := E) h3)
  have f4 := rm A (at_nonneg (E := E) h4)
  constructor
  · by_cases z : pord (pmul a d) (pmul b c) ≤ 0
    · have z2 := (ord_mul2 ha hd hb hc h0).mp z
      rw [if_pos z]
      exact least4 ha hb hc hd h0 ha hd m_ad ⟨by omega, Int.le_refl _, by omega, by omega⟩
    · have z2 : ¬ at_ a E * at_ d E ≤ at_ b E * at_ c E := fun y => z ((ord_mul2 ha hd hb hc h0).mpr y)
      rw [if_neg z]
      exact least4 ha hb hc hd h0 hb hc m_bc ⟨by omega, by omega, Int.le_refl _, by omega⟩
  · by_cases z : 0 ≤ pord (pmul a c) (pmul b d)
    · have z1 : pord (pmul b d) (pmul a c) ≤ 0 := by rw [pord_swap]; omega
      have z2 := (ord_mul2 hb hd ha hc h0).mp z1
      rw [if_pos z]
      exact great4 ha hb hc hd h0 ha hc m_ac ⟨Int.le_refl _, by omega, by omega, by omega⟩
    · have z1 : pord (pmul a c) (pmul b d) ≤ 0 := by omega
      have z2 := (ord_mul2 ha hc hb hd h0).mp z1
      rw [if_neg z]
      exact great4 ha hb hc hd h0 hb hd m_bd ⟨by omega, by omega, by omega, Int.le_refl _⟩
end
/-! ### parts and choices of numbers -/
section
variable {K : PySem.W.Frag} {σ : L2.St} {H H' : Hp} {ta tb tc te : TE} {n m : Int × Int} {B : Nat}
theorem ev_m (h : EvN K te σ H n B) : Ev (tOp (rIxT K) te (tC (.int 0))) σ H (.int n.1) := fun H1 e Q q =>
  h H1 e _ fun v H2 e2 g => by
    obtain ⟨a, rfl, ha⟩ := g.at_
    exact ⟨a, [.int n.1, .int n.2], 0, .int n.1, rfl, rfl, ha, rfl, q H2 e2⟩
theorem ev_e (h : EvN K te σ H n B) : Ev (tOp (rIxT K) te (tC (.int 1))) σ H (.int n.2) := fun H1 e Q q =>
  h H1 e _ fun v H2 e2 g => by
    obtain ⟨a, rfl, ha⟩ := g.at_
    exact ⟨a, [.int n.1, .int n.2], 1, .int n.2, rfl, rfl, ha, rfl, q H2 e2⟩
theorem evp_if {P : Hp → V → Prop} {t : TT} {b : Bool} (h : EvT t σ H b) (h1 : b = true → EvP P ta σ H) (h2 : b = false → EvP P tb σ H) : EvP P (tIf t ta tb) σ H := fun H1 e Q q => h H1 e _ fun H2 e2 => by
  cases b with
  | true => exact (h1 rfl) H2 (e.trans e2) _ fun v H3 e3 g => q v H3 (e2.trans e3) g
  | false => exact (h2 rfl) H2 (e.trans e2) _ fun v H3 e3 g => q v H3 (e2.trans e3) g
theorem evn_if {t : TT} {p : Prop} [Decidable p] (h : EvT t σ H (decide p)) (h1 : EvN K ta σ H n B) (h2 : EvN K tb σ H m B) : EvN K (tIf t ta tb) σ H (if p then n else m) B := by
  by_cases z : p
  · rw [if_pos z]
    exact evp_if h (fun _ => h1) (fun y => by rw [decide_eq_true z] at y; cases y)
  · rw [if_neg z]
    exact evp_if h (fun y => by rw [decide_eq_false z] at y; cases y) (fun _ => h2)
theorem evn_les (ha : EvN K ta σ H n B) (hb : EvN K tb σ H m B) (l : B ≤ LIM := by decide) : EvN K (tCall (spLes K) [] E0 (tCons ta (tCons tb tNil))) σ H (if pord n m ≤ 0 then n else m) B := fun H1 e Q q =>
  ha H1 e _ fun u H2 e2 gu => hb H2 (e.trans e2) _ fun v H3 e3 gv => ⟨u, v, n, m, rfl, (gu.ex e3).mono l, gv.mono l, fun z H4 e4 => by rw [if_pos z] at q; exact q u H4 ((e2.trans e3).trans e4) ((gu.ex e3).ex e4), fun z H4 e4 => by rw [if_neg (by omega)] at q; exact q v H4 ((e2.trans e3).trans e4) (gv.ex e4)⟩
theorem evn_gre (ha : EvN K ta σ H n B) (hb : EvN K tb σ H m B) (l : B ≤ LIM := by decide) : EvN K (tCall (spGre K) [] E0 (tCons ta (tCons tb tNil))) σ H (if 0 ≤ pord n m then n else m) B := fun H1 e Q q =>
  ha H1 e _ fun u H2 e2 gu => hb H2 (e.trans e2) _ fun v H3 e3 gv => ⟨u, v, n, m, rfl, (gu.ex e3).mono l, gv.mono l, fun z H4 e4 => by rw [if_pos z] at q; exact q u H4 ((e2.trans e3).trans e4) ((gu.ex e3).ex e4), fun z H4 e4 => by rw [if_neg (by omega)] at q; exact q v H4 ((e2.trans e3).trans e4) (gv.ex e4)⟩
end
/-! ### what is known of the class Stretch -/
structure StrC (K : PySem.W.Frag) (mg : Str → Option Value) (C : Addr) : Prop where
  m : mg "Stretch" = some (.ref C)
  cl : Cls K C
  nl : NoAttr K C "low"
  nh : NoAttr K C "high"
  ha : PySem.W.findIn K (.ref C) "__class__" = some (some (.builtin "object.__class__"))
  hn : PySem.W.specialIn K (.builtin "object.__class__") "__get__" = some (some (.builtin "getset_descriptor.__get__"))
  htk : PySem.W.takesIn K (.builtin "object.__class__") = some true
  hm : PySem.W.mroIn K C (.type "object") = some true
structure CalI (P : Program) (w : World) (K : PySem.W.Frag) (mg : Str → Option Value) (base : Heap) (CX : CXT) (k : Nat) (ps : List Str) (sp : Sp) (f : Addr) (fd : FuncData) : Prop where
  ok : FnOk P w K mg base CX k f fd ps sp
  b : Binds K fd ps []
structure CalK (P : Program) (w : World) (K : PySem.W.Frag) (mg : Str → Option Value) (base : Heap) (CX : CXT) (k : Nat) (x : Str) (ps : List Str) (sp : Sp) (f : Addr) (fd : FuncData) : Prop where
  ok : FnOk P w K mg base CX k f fd ps sp
  m : mg x = some (.ref f)
  kp : PySem.W.keepIn K (.ref f) = true
def StrAt (K : PySem.W.Frag) (C : Addr) (B : Nat) (a b : Int × Int) (H : Hp) (v : V) : Prop := ∃ x dx u w, v = .ref x ∧ H x = some (.ins C dx [("low", u), ("high", w)]) ∧ Gn K H u a B ∧ Gn K H w b B
section
variable {K : PySem.W.Frag} {mg : Str → Option Value} {C : Addr} {σ : L2.St} {H H' : Hp} {ta tb tc te : TE} {a b : Int × Int} {B : Nat}
theorem str_mono : Mono (StrAt K C B a b) := fun _ _ _ e ⟨x, dx, u, w, e1, h, g1, g2⟩ => ⟨x, dx, u, w, e1, e _ _ h, g1.ex e, g2.ex e⟩
theorem kit_self : PySem.W.kitOne K (.ref C) (.ref C) = some true := by
  unfold PySem.W.kitOne
  simp
theorem isi_str {v : V} {Q : VK} (S : StrC K mg C) (h : StrAt K C B a b H v) (q : Q (.bl true) H) : rIsi K [v, .ref C] H Q := by
  obtain ⟨x, dx, u, w, rfl, hx, _, _⟩ := h
  exact ⟨.ref x, .ref C, .ref C, .ref C, true, rfl, .own C, .base (.ins hx S.cl S.ha S.hn S.htk S.hm), kit_self, q⟩
theorem ev_isS (S : StrC K mg C) (h : EvP (StrAt K C B a b) ta σ H) : Ev (tCB (rIsi K) (tCons ta (tCons (tC (.ref C)) tNil))) σ H (.bl true) := fun H1 e Q q =>
  h H1 e _ fun v H2 e2 g => isi_str S g (q H2 e2)
theorem evn_low (S : StrC K mg C) (h : EvP (StrAt K C B a b) ta σ H) : EvN K (tFld K ta "low") σ H a B := fun H1 e Q q =>
  h H1 e _ fun v H2 e2 ⟨x, dx, u, w, e1, hx, g1, g2⟩ => ⟨x, C, dx, _, u, e1, hx, S.cl, S.nl, rfl, q u H2 e2 g1⟩
theorem evn_high (S : StrC K mg C) (h : EvP (StrAt K C B a b) ta σ H) : EvN K (tFld K ta "high") σ H b B := fun H1 e Q q =>
  h H1 e _ fun v H2 e2 ⟨x, dx, u, w, e1, hx, g1, g2⟩ => ⟨x, C, dx, _, w, e1, hx, S.cl, S.nh, by rfl, q w H2 e2 g2⟩
theorem evs_var {i : Nat} {v : V} (hv : σ[i]? = some (some v)) (h : StrAt K C B a b H v) : EvP (StrAt K C B a b) (tVar i) σ H := evp_of (ev_var hv) str_mono h
def spInit (K : PySem.W.Frag) (C : Addr) : Sp := fun vs H Q _ => ∃ x dx u v a b, vs = [.ref x, u, v] ∧ H x = some (.ins C dx []) ∧ Gn K H u a LIM ∧ Gn K H v b LIM ∧ pord a b ≤ 0 ∧
  ∀ H', (∀ c o, H c = some o → c ≠ x → H' c = some o) → H' x = some (.ins C dx [("low", u), ("high", v)]) → Q .non H'
theorem evs_make {B1 B2 : Nat} (ha : EvN K ta σ H a B1) (hb : EvN K tb σ H b B2) (l1 : B1 ≤ B) (l2 : B2 ≤ B) (lB : B ≤ LIM) (hle : pord a b ≤ 0) : EvP (StrAt K C B a b) (tMake C (spInit K C) [] E0 (tCons ta (tCons tb tNil))) σ H := fun H1 e Q q =>
  ha H1 e _ fun u H2 e2 gu => hb H2 (e.trans e2) _ fun v H3 e3 gv => fun x dx hx hdx ne => by
    have en : Ex H3 (upd (upd H3 dx (.own x)) x (.ins C dx [])) := fun c o h => by
      rw [upd_ne (ne_of_none h hx), upd_ne (ne_of_none h hdx)]
      exact h
    refine ⟨x, dx, u, v, a, b, rfl, upd_same, ((gu.ex e3).ex en).mono (by omega), (gv.ex en).mono (by omega), hle, fun H' k h' => ⟨rfl, ?_⟩⟩
    have ef : Ex H3 H' := fun c o h => k c o (en c o h) (ne_of_none h hx)
    exact q (.ref x) H' ((e2.trans e3).trans ef) ⟨x, dx, u, v, rfl, h', ((gu.ex e3).ex ef).mono l1, (gv.ex ef).mono l2⟩
theorem o_call {sp : Sp} {dvs : List V} {E : XK} {t : TA} {Q : VK} (h : t σ H fun vs H1 => sp (vs ++ dvs) H1 Q E) : tCall sp dvs E t σ H Q := h
theorem o_itup {tl : TE} {R : It → Hp → Prop} (h : tl σ H fun x H1 => ∃ a, x = .ref a ∧ (∃ xs, SqT K H1 a xs) ∧ R (Itt K a) H1) : iTup K tl σ H R := h
theorem o_op {r : R2} {Q : VK} (h : ta σ H fun x H1 => tb σ H1 fun y H2 => r x y H2 Q) : tOp r ta tb σ H Q := h
theorem o_var {i : Nat} {v : V} {Q : VK} (hv : σ[i]? = some (some v)) (h : Q v H) : tVar i σ H Q := ⟨v, hv, h⟩
theorem o_cons {tr : TA} {Q : List V → Hp → Prop} (h : ta σ H fun x H1 => tr σ H1 fun xs H2 => Q (x :: xs) H2) : tCons ta tr σ H Q := h
/-! ### pairs of numbers -/
def PairAt (K : PySem.W.Frag) (B : Nat) (a b : Int × Int) (H : Hp) (v : V) : Prop := ∃ p x y, v = .ref p ∧ SqT K H p [x, y] ∧ Gn K H x a B ∧ Gn K H y b B
theorem pair_mono : Mono (PairAt K B a b) := fun _ _ _ e ⟨p, x, y, e1, h, g1, g2⟩ => ⟨p, x, y, e1, ex_t e h, g1.ex e, g2.ex e⟩
theorem evn_fst (h : EvP (PairAt K B a b) ta σ H) : EvN K (tOp (rIxT K) ta (tC (.int 0))) σ H a B := fun H1 e Q q =>
  h H1 e _ fun v H2 e2 ⟨p, x, y, e1, hp, g1, g2⟩ => ⟨p, [x, y], 0, x, e1, rfl, hp, rfl, q x H2 e2 g1⟩
theorem evn_snd (h : EvP (PairAt K B a b) ta σ H) : EvN K (tOp (rIxT K) ta (tC (.int 1))) σ H b B := fun H1 e Q q =>
  h H1 e _ fun v H2 e2 ⟨p, x, y, e1, hp, g1, g2⟩ => ⟨p, [x, y], 1, y, e1, rfl, hp, rfl, q y H2 e2 g2⟩
theorem evpair_var {i : Nat} {v : V} (hv : σ[i]? = some (some v)) (h : PairAt K B a b H v) : EvP (PairAt K B a b) (tVar i) σ H := evp_of (ev_var hv) pair_mono h
theorem evpair_mk {B1 B2 : Nat} (ha : EvN K ta σ H a B1) (hb : EvN K tb σ H b B2) (l1 : B1 ≤ B) (l2 : B2 ≤ B) : EvP (PairAt K B a b) (tTup (tCons ta (tCons tb tNil))) σ H := fun H1 e Q q =>
  ha H1 e _ fun u H2 e2 gu => hb H2 (e.trans e2) _ fun v H3 e3 gv => ⟨by show 2 ≤ sizeLine; decide, fun p hp => q (.ref p) _ ((e2.trans e3).trans (Ex.new hp)) ⟨p, u, v, rfl, st_of upd_same, (gu.ex (e3.trans (Ex.new hp))).mono l1, (gv.ex (Ex.new hp)).mono l2⟩⟩
theorem pair_dp2 {v : V} (h : PairAt K B a b H v) : Dp K H v (.tuple [pairD a, pairD b]) := by
  obtain ⟨p, x, y, rfl, hp, g1, g2⟩ := h
  exact .tup hp (.cons (numAt_dp g1.at_) (.cons (numAt_dp g2.at_) .nil))
theorem pair2_lay (a b : Int × Int) : PyData.canLay0 (.tuple [pairD a, pairD b]) = true := rfl
theorem pair2_shaped (a b : Int × Int) : SeqAt.shaped (.tuple [pairD a, pairD b]) = true := rfl
theorem evt_pairs {c d : Int × Int} {B2 : Nat} (h1 : EvP (PairAt K B a b) ta σ H) (h2 : EvP (PairAt K B2 c d) tb σ H) (e1 : a = c) (e2 : b = d) : EvT (tTest (tOp (rNeD K) ta tb)) σ H false := fun H1 e Q q =>
  h1 H1 e _ fun u H2 e3 gu => h2 H2 (e.trans e3) _ fun v H3 e4 gv => by
    subst e1 e2
    refine ⟨_, _, pair_dp2 (pair_mono _ _ _ e4 gu), pair_dp2 gv, pair2_shaped _ _, pair2_shaped _ _, false, ?_, q H3 (e3.trans e4)⟩
    rw [SeqAt.eqv_refl _ (pair2_lay a b)]
    rfl
theorem ev_pairs {c d : Int × Int} {B2 : Nat} (h1 : EvP (PairAt K B a b) ta σ H) (h2 : EvP (PairAt K B2 c d) tb σ H) (e1 : a = c) (e2 : b = d) : Ev (tOp (rEqD K) ta tb) σ H (.bl true) := fun H1 e Q q =>
  h1 H1 e _ fun u H2 e3 gu => h2 H2 (e.trans e3) _ fun v H3 e4 gv => by
    subst e1 e2
    refine ⟨_, _, pair_dp2 (pair_mono _ _ _ e4 gu), pair_dp2 gv, pair2_shaped _ _, pair2_shaped _ _, ?_⟩
    rw [SeqAt.eqv_refl _ (pair2_lay a b)]
    exact q H3 (e3.trans e4)
/-! ### comprehensions: the i-th item of P i -/
def EvLI (P : Nat → Hp → V → Prop) (te : TE) (σ : L2.St) (H : Hp) (n : Nat) : Prop := ∀ H1, Ex H H1 → ∀ Q : VK, (∀ p vs H2, Ex H1 H2 → H1 p = none → H2 p = some (.lst vs) → vs.length = n → (∀ i v, vs[i]? = some v → P i H2 v) → Q (.ref p) H2) → te σ H1 Q
theorem app_at {P : Nat → Hp → V → Prop} {vs : List V} {y : V} (m : ∀ i, Mono (P i)) (e : Ex H H') (h : ∀ i v, vs[i]? = some v → P i H v) (hy : P vs.length H' y) : ∀ i v, (vs ++ [y])[i]? = some v → P i H' v := fun i v hv => by
  by_cases l : i < vs.length
  · rw [List.getElem?_append_left l] at hv
    exact m i _ _ _ e (h i v hv)
  · rw [List.getElem?_append_right (by omega)] at hv
    have e0 : i - vs.length = 0 := by
      rcases Nat.eq_zero_or_pos (i - vs.length) with z | z
      · exact z
      · rw [List.getElem?_eq_none (by simp; omega)] at hv
        cases hv
    rw [e0] at hv
    have e1 : i = vs.length := by omega
    subst e1
    cases (show y = v from Option.some.inj hv)
    exact hy
/-- what an item of the list under way keeps while the list itself grows -/
def Keep1 (P : Nat → Hp → V → Prop) : Prop := ∀ i p ys H H' v, P i H v → H p = some (.lst ys) → Keeps p H H' → P i H' v
theorem app_keep {P : Nat → Hp → V → Prop} {vs : List V} {y : V} {D : Addr} (k1 : Keep1 P) (hD : H D = some (.lst vs)) (h : ∀ i v, vs[i]? = some v → P i H v) (hy : P vs.length H y) : ∀ i v, (vs ++ [y])[i]? = some v → P i (upd H D (.lst (vs ++ [y]))) v := fun i v hv => by
  by_cases l : i < vs.length
  · rw [List.getElem?_append_left l] at hv
    exact k1 i D _ _ _ v (h i v hv) hD keeps_upd
  · rw [List.getElem?_append_right (by omega)] at hv
    have e0 : i - vs.length = 0 := by
      rcases Nat.eq_zero_or_pos (i - vs.length) with z | z
      · exact z
      · rw [List.getElem?_eq_none (by simp; omega)] at hv
        cases hv
    rw [e0] at hv
    have e1 : i = vs.length := by omega
    subst e1
    cases (show y = v from Option.some.inj hv)
    exact k1 _ D _ _ _ _ hy hD keeps_upd
/-- over a tuple | a list whose i-th item is of S i -/
theorem eli_lcT {S P : Nat → Hp → V → Prop} {n : Nat} {vs : List Nat} {g : TG} {tl : TE} (mS : ∀ i, Mono (S i)) (mP : ∀ i, Mono (P i)) (kP : Keep1 P) (hn : n ≤ 50000)
    (h : EvP (fun H v => ∃ p xs, v = .ref p ∧ SqT K H p xs ∧ xs.length = n ∧ ∀ i x, xs[i]? = some x → S i H x) tl σ H)
    (ht : ∀ i x H1, Ex H H1 → S i H1 x → ∃ σ2, (∀ Q : L2.St → Hp → Prop, Q σ2 H1 → g x (wipe σ vs) H1 Q) ∧ wipe σ2 vs = wipe σ vs ∧ EvP (P i) te σ2 H1) : EvLI P (tLc (iTup K tl) g tYes te vs) σ H n := fun H1 e Q q =>
  h H1 e _ fun v H2 e2 ⟨p, xs, e1, hp, hl, hS⟩ => ⟨p, e1, ⟨_, hp⟩, fun D hD => lc_tup (xs := xs) (fun k H' => Ex H2 H' ∧ ∃ ys, H' D = some (.lst ys) ∧ ys.length = k ∧ ∀ i y, ys[i]? = some y → P i H' y) ⟨Ex.new hD, [], upd_same, rfl, fun i y hy => by simp at hy⟩ (fun k H' _ hk => ex_t hk.1 hp)
    (fun k x H' hx hk => by
      obtain ⟨ex, ys, hys, hlen, hall⟩ := hk
      obtain ⟨σ2, hg, hw, he⟩ := ht k x H' ((e.trans e2).trans ex) (mS k _ _ _ ex (hS k x hx))
      refine hg _ ⟨hw, o_yes (iteT ?_)⟩
      refine he H' (Ex.refl H') _ fun y H3 e3 py => ⟨ys, e3 _ _ hys, ?_, (ex.trans e3).mut hD, ys ++ [y], upd_same, ?_, ?_⟩
      · have := (List.getElem?_eq_some_iff.mp hx).1
        exact sz_lt (by omega)
      · rw [List.length_append, hlen]
        rfl
      · subst hlen
        exact app_keep kP (e3 _ _ hys) (fun i z hz => mP i _ _ _ e3 (hall i z hz)) py)
    (fun H' hk => by
      obtain ⟨ex, ys, hys, hlen, hall⟩ := hk
      exact q D ys H' (e2.trans ex) (fresh_back e2 hD) hys (hlen.trans hl) hall)⟩
theorem eli_lcL {S P : Nat → Hp → V → Prop} {n : Nat} {vs : List Nat} {g : TG} {tl : TE} (mS : ∀ i, Mono (S i)) (mP : ∀ i, Mono (P i)) (kP : Keep1 P) (hn : n ≤ 50000)
    (h : EvP (fun H v => ∃ p xs, v = .ref p ∧ SqL K H p xs ∧ xs.length = n ∧ ∀ i x, xs[i]? = some x → S i H x) tl σ H)
    (ht : ∀ i x H1, Ex H H1 → S i H1 x → ∃ σ2, (∀ Q : L2.St → Hp → Prop, Q σ2 H1 → g x (wipe σ vs) H1 Q) ∧ wipe σ2 vs = wipe σ vs ∧ EvP (P i) te σ2 H1) : EvLI P (tLc (iList K tl) g tYes te vs) σ H n := fun H1 e Q q =>
  h H1 e _ fun v H2 e2 ⟨p, xs, e1, hp, hl, hS⟩ => ⟨p, e1, ⟨_, hp⟩, fun D hD => lc_list (xs := xs) (fun k H' => Ex H2 H' ∧ ∃ ys, H' D = some (.lst ys) ∧ ys.length = k ∧ ∀ i y, ys[i]? = some y → P i H' y) ⟨Ex.new hD, [], upd_same, rfl, fun i y hy => by simp at hy⟩ (fun k H' _ hk => ex_l hk.1 hp)
    (fun k x H' hx hk => by
      obtain ⟨ex, ys, hys, hlen, hall⟩ := hk
      obtain ⟨σ2, hg, hw, he⟩ := ht k x H' ((e.trans e2).trans ex) (mS k _ _ _ ex (hS k x hx))
      refine hg _ ⟨hw, o_yes (iteT ?_)⟩
      refine he H' (Ex.refl H') _ fun y H3 e3 py => ⟨ys, e3 _ _ hys, ?_, (ex.trans e3).mut hD, ys ++ [y], upd_same, ?_, ?_⟩
      · have := (List.getElem?_eq_some_iff.mp hx).1
        exact sz_lt (by omega)
      · rw [List.length_append, hlen]
        rfl
      · subst hlen
        exact app_keep kP (e3 _ _ hys) (fun i z hz => mP i _ _ _ e3 (hall i z hz)) py)
    (fun H' hk => by
      obtain ⟨ex, ys, hys, hlen, hall⟩ := hk
      exact q D ys H' (e2.trans ex) (fresh_back e2 hD) hys (hlen.trans hl) hall)⟩
/-- the i-th is the i-th number -/
def NthN (K : PySem.W.Frag) (B : Nat) (ns : List (Int × Int)) (i : Nat) (H : Hp) (v : V) : Prop := ∃ n, ns[i]? = some n ∧ Gn K H v n B
theorem nth_mono {ns : List (Int × Int)} : ∀ i, Mono (NthN K B ns i) := fun _ _ _ _ e ⟨n, h, g⟩ => ⟨n, h, g.ex e⟩
theorem nth_keep {ns : List (Int × Int)} : Keep1 (NthN K B ns) := fun _ _ _ _ _ _ ⟨n, h, g⟩ hp k => ⟨n, h, gn_keep g hp k⟩
theorem nth_gnL : ∀ {vs : List V} {ns : List (Int × Int)}, vs.length = ns.length → (∀ i v, vs[i]? = some v → NthN K B ns i H v) → GnL K H B vs ns
  | [], [], _, _ => trivial
  | v :: vs, n :: ns, hl, h => by
    obtain ⟨m, hm, g⟩ := h 0 v rfl
    have e : n = m := Option.some.inj hm
    subst e
    exact ⟨g, nth_gnL (Nat.succ.inj hl) fun i x hx => h (i + 1) x hx⟩
theorem gnL_nth : ∀ {vs : List V} {ns : List (Int × Int)}, GnL K H B vs ns → ∀ i v, vs[i]? = some v → NthN K B ns i H v
  | [], [], _, i, v, h => by simp at h
  | x :: _, n :: _, g, 0, v, h => by
    have e : x = v := Option.some.inj h
    subst e
    exact ⟨n, rfl, g.1⟩
  | _ :: _, _ :: _, g, i + 1, v, h => gnL_nth g.2 i v h
end
section
variable {K : PySem.W.Frag}
theorem kb_pos {x qual : Str} {params : Arguments} {body : List Stmt} {scope : Scope} {kws : List (Str × V)} {f : Addr} {fd : FuncData} {ps : List Str} (F : FunD K x qual params body scope [] kws f fd) (n : Nat) (ks : List Str)
    (h : ∀ (kV doc pm : Value) (an : Option Addr) (cdv ct : Value) (us ws : List Value), us.length = n → ws.length = ks.length → bindArgs (PySem.W.fnOf x qual params body scope .none kV doc pm an cdv ct) ⟨us, ks.zip ws⟩ = pure (ps.zip (us ++ ws))) : KBn K fd ps n ks (fun us ws => us ++ ws) (fun vs zs => vs ++ zs) := by
  obtain ⟨oc, od, dV, kV, doc, pm, an, cdv, ct, osl, rfl, lk, hcd, hD, hK⟩ := F.ex
  rcases hD with ⟨_, rfl⟩ | ⟨e, _⟩
  · exact ⟨fun s us ws X l1 l2 => .of_eq (h kV doc pm an cdv ct us ws l1 l2), fun r1 r2 => r1.append r2⟩
  · exact absurd rfl e
end
end Onc

namespace Onc
open PySem PySem.Spec PyProof.Rows L2 Evl
def topS (i : Nat) : Stmt := PySem.Challenge.pw_oncenear_k16_sums_and_products_of_stretc.main.body.getD i (.Pass ⟨0, 0, 0, 0⟩)
structure Top (mg : Str → Option Value) : Prop where
  isinstance : mg "isinstance" = none
  len : mg "len" = none
  range : mg "range" = none
  ty_int : mg "int" = none
  ty_bool : mg "bool" = none
  ty_tuple : mg "tuple" = none
  ty_str : mg "str" = none
  min : mg "min" = none
  max : mg "max" = none
  abs : mg "abs" = none
  all : mg "all" = none
abbrev FnP (K : PySem.W.Frag) (x : Str) (st : Stmt) (f : Addr) (fd : FuncData) : Prop := FunD K x x (defArgs st) (defBody st) (defScope st) [] [] f fd
/-! ### promises -/
def spWhole (K : PySem.W.Frag) : Sp := fun vs H Q _ => ∃ v b, vs = [v] ∧ WholeIs K H v b ∧ Q (.bl b) H
def spNum (K : PySem.W.Frag) : Sp := fun vs H Q _ => ∃ v b, vs = [v] ∧ NumIs K H v b ∧ ∀ H', Ex H H' → Q (.bl b) H'
def spNof : Sp := fun vs H Q _ => ∃ m e : Int, vs = [.int m, .int e] ∧ ∀ H' p, Ex H H' → H p = none → H' p = some (.tup [.int (nrm m e).1, .int (nrm m e).2]) → Q (.ref p) H'
def spTens : Sp := fun vs H Q _ => ∃ k : Int, vs = [.int k] ∧ 0 ≤ k ∧ k ≤ 10000 ∧ ∀ z : Int, Q (.int z) H
def spMix : Sp := fun vs H Q _ => ∃ a k : Int, vs = [.int a, .int k] ∧ ∀ z : Int, Q (.int z) H
def spCel (K : PySem.W.Frag) : Sp := fun vs H Q _ => ∃ (a : Addr) (ns : List Int) (k : Int), vs = [.ref a, .int k] ∧ SqL K H a (ns.map V.int) ∧ 0 ≤ k ∧ k < 1000 ∧ ∀ z : Int, Q (.int z) H
def spTake : Sp := fun vs H Q _ => ∃ (p : Addr) (x n : Int), vs = [.ref p, .int n] ∧ H p = some (.lst [.int x]) ∧ 0 < n ∧ n.natAbs.log2 < 9000 ∧ Q (.int (x % n)) (upd H p (.lst [.int (x / n)]))
def spNumber : Sp := fun vs H Q _ => ∃ (p : Addr) (x : Int), vs = [.ref p] ∧ H p = some (.lst [.int x]) ∧
  ∀ H' q (x' m e : Int), (∀ b o, H b = some o → b ≠ p → H' b = some o) → H' p = some (.lst [.int x']) → H q = none → H' q = some (.tup [.int m, .int e]) → isNumB m e = true → m.natAbs < 2 ^ 201 → e.natAbs < 2000 → Q (.ref q) H'
theorem log_small {z : Int} {k : Nat} (h0 : 0 < z) (h : z ≤ 2 ^ k) (hk : k < 9000) : z.natAbs.log2 < 9000 := by
  have h1 : z.natAbs < 2 ^ (k + 1) := by
    have e : (2 : Int) ^ (k + 1) = 2 ^ k * 2 := Int.pow_succ ..
    have e2 : ((2 ^ (k + 1) : Nat) : Int) = 2 ^ (k + 1) := pow_two_cast _
    omega
  have h2 : z.natAbs.log2 < k + 1 := PySem.Flt.log2_lt_of (Nat.succ_pos k) h1
  omega
abbrev s_is_number : Stmt := topS 6
theorem sc_is_number : FnScope ["thing", "m", "e"] ["thing"] (defScope s_is_number) := ⟨rfl, rfl, rfl, by decide +kernel, rfl, by decide +kernel, by decide +kernel⟩
abbrev s_need_numbers : Stmt := topS 8
theorem sc_need_numbers : FnScope ["one", "other"] ["one", "other"] (defScope s_need_numbers) := ⟨rfl, rfl, rfl, by decide +kernel, rfl, by decide +kernel, by decide +kernel⟩
abbrev s_lowered : Stmt := topS 9
theorem sc_lowered : FnScope ["m", "e", "noughts"] ["m", "e"] (defScope s_lowered) := ⟨rfl, rfl, rfl, by decide +kernel, rfl, by decide +kernel, by decide +kernel⟩
abbrev s_added : Stmt := topS 10
theorem sc_added : FnScope ["one", "other", "m", "e", "n", "f"] ["one", "other"] (defScope s_added) := ⟨rfl, rfl, rfl, by decide +kernel, rfl, by decide +kernel, by decide +kernel⟩
abbrev s_multiplied : Stmt := topS 11
theorem sc_multiplied : FnScope ["one", "other", "m"] ["one", "other"] (defScope s_multiplied) := ⟨rfl, rfl, rfl, by decide +kernel, rfl, by decide +kernel, by decide +kernel⟩
abbrev s_compared : Stmt := topS 12
theorem sc_compared : FnScope ["one", "other", "m", "e", "n", "f", "size", "other_size"] ["one", "other"] (defScope s_compared) := ⟨rfl, rfl, rfl, by decide +kernel, rfl, by decide +kernel, by decide +kernel⟩
abbrev s_lesser : Stmt := topS 13
theorem sc_lesser : FnScope ["one", "other"] ["one", "other"] (defScope s_lesser) := ⟨rfl, rfl, rfl, by decide +kernel, rfl, by decide +kernel, by decide +kernel⟩
abbrev s_greater : Stmt := topS 14
theorem sc_greater : FnScope ["one", "other"] ["one", "other"] (defScope s_greater) := ⟨rfl, rfl, rfl, by decide +kernel, rfl, by decide +kernel, by decide +kernel⟩
abbrev s_Stretch_init : Stmt := inClass (topS 16) 0
theorem sc_Stretch_init : FnScope ["self", "low", "high"] ["self", "low", "high"] (defScope s_Stretch_init) := ⟨rfl, rfl, rfl, by decide +kernel, rfl, by decide +kernel, by decide +kernel⟩
abbrev s_need_stretch : Stmt := topS 17
theorem sc_need_stretch : FnScope ["thing"] ["thing"] (defScope s_need_stretch) := ⟨rfl, rfl, rfl, by decide +kernel, rfl, by decide +kernel, by decide +kernel⟩
abbrev s_sum_of : Stmt := topS 18
theorem sc_sum_of : FnScope ["one", "other"] ["one", "other"] (defScope s_sum_of) := ⟨rfl, rfl, rfl, by decide +kernel, rfl, by decide +kernel, by decide +kernel⟩
abbrev s_product_of : Stmt := topS 19
theorem sc_product_of : FnScope ["one", "other", "a", "b", "c", "d"] ["one", "other"] (defScope s_product_of) := ⟨rfl, rfl, rfl, by decide +kernel, rfl, by decide +kernel, by decide +kernel⟩
abbrev s_law_mixed : Stmt := topS 21
theorem sc_law_mixed : FnScope ["_law_cell_here", "_law_k", "_law_mix"] ["_law_cell_here", "_law_k"] (defScope s_law_mixed) := ⟨rfl, rfl, rfl, by decide +kernel, rfl, by decide +kernel, by decide +kernel⟩
abbrev s_law_cell : Stmt := topS 22
theorem sc_law_cell : FnScope ["_law_script", "_law_k", "_law_cell_here", "_law_found", "_law_j"] ["_law_script", "_law_k"] (defScope s_law_cell) := ⟨rfl, rfl, rfl, by decide +kernel, rfl, by decide +kernel, by decide +kernel⟩
abbrev s_law_take : Stmt := topS 23
theorem sc_law_take : FnScope ["_law_pile", "_law_size", "_law_digit"] ["_law_pile", "_law_size"] (defScope s_law_take) := ⟨rfl, rfl, rfl, by decide +kernel, rfl, by decide +kernel, by decide +kernel⟩
abbrev s_law_odd : Stmt := topS 24
theorem sc_law_odd : FnScope ["_law_m", "_law_e"] ["_law_m", "_law_e"] (defScope s_law_odd) := ⟨rfl, rfl, rfl, by decide +kernel, rfl, by decide +kernel, by decide +kernel⟩
abbrev s_law_number : Stmt := topS 25
theorem sc_law_number : FnScope ["_law_pile", "_law_way", "_law_most", "_law_far", "_law_m"] ["_law_pile"] (defScope s_law_number) := ⟨rfl, rfl, rfl, by decide +kernel, rfl, by decide +kernel, by decide +kernel⟩
abbrev s_law_at : Stmt := topS 26
theorem sc_law_at : FnScope ["_law_number_here", "_law_e"] ["_law_number_here", "_law_e"] (defScope s_law_at) := ⟨rfl, rfl, rfl, by decide +kernel, rfl, by decide +kernel, by decide +kernel⟩
abbrev s_law_compared : Stmt := topS 27
theorem sc_law_compared : FnScope ["_law_one_own", "_law_other_own", "_law_least_own", "_law_left", "_law_right"] ["_law_one_own", "_law_other_own"] (defScope s_law_compared) := ⟨rfl, rfl, rfl, by decide +kernel, rfl, by decide +kernel, by decide +kernel⟩
abbrev s_law_pair : Stmt := topS 28
theorem sc_law_pair : FnScope ["_law_pile", "_law_one_own", "_law_other_own"] ["_law_pile"] (defScope s_law_pair) := ⟨rfl, rfl, rfl, by decide +kernel, rfl, by decide +kernel, by decide +kernel⟩
abbrev s_law_sum : Stmt := topS 29
theorem sc_law_sum : FnScope ["_law_one_own", "_law_other_own", "_law_sign", "_law_least_own"] ["_law_one_own", "_law_other_own", "_law_sign"] (defScope s_law_sum) := ⟨rfl, rfl, rfl, by decide +kernel, rfl, by decide +kernel, by decide +kernel⟩
abbrev s_law_times : Stmt := topS 30
theorem sc_law_times : FnScope ["_law_one_own", "_law_other_own"] ["_law_one_own", "_law_other_own"] (defScope s_law_times) := ⟨rfl, rfl, rfl, by decide +kernel, rfl, by decide +kernel, by decide +kernel⟩
abbrev s_law_ends : Stmt := topS 31
theorem sc_law_ends : FnScope ["_law_some", "_law_low_end", "_law_high_end", "_law_one_own"] ["_law_some"] (defScope s_law_ends) := ⟨rfl, rfl, rfl, by decide +kernel, rfl, by decide +kernel, by decide +kernel⟩
abbrev s_law_good : Stmt := topS 32
theorem sc_law_good : FnScope ["_law_one_own", "_law_other_own", "_law_left", "_law_right", "_law_due", "_law_found", "_law_some", "_law_first"] ["_law_one_own", "_law_other_own"] (defScope s_law_good) := ⟨rfl, rfl, rfl, by decide +kernel, rfl, by decide +kernel, by decide +kernel⟩
abbrev s_law : Stmt := topS 33
theorem sc_law : FnScope ["_law_script", "_law_k", "_law_pile", "_law_first", "_law_second", "_law_size", "_law_some", "_law_one_own", "_law_other_own"] ["_law_script"] (defScope s_law) := ⟨rfl, rfl, rfl, by decide +kernel, rfl, by decide +kernel, by decide +kernel⟩
section
variable {P : Program} {w : World} {K : PySem.W.Frag} {mg : Str → Option Value} {base : Heap}
theorem ok_is_number {f : Addr} {fd : FuncData} (T : Top mg) (F : FnP K "is_number" s_is_number f fd) : FnOk P w K mg base CX0 1 f fd ["thing"] (spNum K) := by
  have sc := sc_is_number
  refine ok0 F sc (fun vs H Q E h => ?_) (fun cdv A outer s H vs Q E hr h => ?_)
  · obtain ⟨v, b, rfl, _⟩ := h
    rfl
  · obtain ⟨v, b, rfl, hn, q0⟩ := h
    have q := q0 H (Ex.refl H)
    refine ⟨_, (pss_cons (ps_if (PW.pt (pw_or (pt_not (pt_val (pe_callB call_isi (by rfl) T.isinstance (by decide +kernel) (pa_cons (pv 0) (pa_cons (pe_bltn (v := .ty "tuple") (by rfl) T.ty_tuple (by decide +kernel) rfl) pa_nil))))) (pw_or1 (pt_cmpR op_ne (pe_callB call_len (by rfl) T.len (by decide +kernel) (pa_cons (pv 0) pa_nil)) pe_int (nomark _)))))
      (pss_one (ps_ret pe_bl)) pss_nil)
    (pss_cons (ps_asg (pv 0) (pg_tup rfl (pgs_cons (pg_name (i := 1) sc.nd rfl (.inl rfl)) (pgs_cons (pg_name (i := 2) sc.nd rfl (.inl rfl)) pgs_nil))))
    (pss_cons (ps_if (PW.pt (pw_or (pt_not (pt_val (pe_callB call_isi (by rfl) T.isinstance (by decide +kernel) (pa_cons (pv 1) (pa_cons (pe_bltn (v := .ty "int") (by rfl) T.ty_int (by decide +kernel) rfl) pa_nil))))) (pw_or (pt_not (pt_val (pe_callB call_isi (by rfl) T.isinstance (by decide +kernel) (pa_cons (pv 2) (pa_cons (pe_bltn (v := .ty "int") (by rfl) T.ty_int (by decide +kernel) rfl) pa_nil))))) (pw_or (pt_cmpR op_isT (pv 2) pe_bl (nomark _)) (pw_or1 (pt_cmpR op_isT (pv 2) pe_bl (nomark _)))))))
      (pss_one (ps_ret pe_bl)) pss_nil)
    (pss_cons (ps_if (pt_truth (pe_op op_and1 (pv 1) pe_int) (fun _ => rfl))
      (pss_one (ps_ret (pe_cmpR op_notT (pv 1) pe_bl (nomark _)))) pss_nil)
    (pss_one (ps_ret (pe_and (pe_cmpR (op_eqD hr.units) (pv 1) pe_int (nomark _)) (pe_and (pe_cmpR op_eq (pv 2) pe_int (nomark _)) (pe_one (pe_cmpR op_notT (pv 1) pe_bl (nomark _))))))))))), ?_⟩
    cases hn with
    | no ty k => exact rd_isi (i := 0) rfl ty k ⟨false, rfl, iteT (iteT q)⟩
    | @len a xs h l =>
      refine rd_tup (i := 0) rfl h ⟨true, rfl, iteF ?_⟩
      refine ⟨.ref a, rfl, .ref a, xs.length, rfl, .inr ⟨xs, h, rfl⟩, rfl, _, rfl, ite2 (fun _ => q) (fun hh => absurd ?_ hh)⟩
      have e : ¬ V.int ((xs.length : Nat) : Int) = V.int 2 := fun z => l (by have := V.int.inj z; omega)
      rw [decide_eq_false e]
      rfl
    | @fst a x y b h p1 p2 =>
      refine rd_tup (i := 0) rfl h ⟨true, rfl, iteF ?_⟩
      refine ⟨.ref a, rfl, .ref a, 2, rfl, .inr ⟨[x, y], h, rfl⟩, rfl, _, rfl, iteNS rfl ?_⟩
      refine ⟨.ref a, rfl, a, [x, y], rfl, h, rfl, x, [y], rfl, y, [], rfl, rfl, ?_⟩
      cases p1 with
      | no h1 k1 k2 => exact rd_isi (i := 1) (v := x) rfl h1 k1 ⟨false, rfl, iteT (iteT q)⟩
      | bl c =>
        refine rd_isi (i := 1) (v := .bl c) rfl (ty_bl c) kit_bi ⟨true, rfl, iteF ?_⟩
        cases p2 with
        | no h1 k1 k2 => exact rd_isi (i := 2) (v := y) rfl h1 k1 ⟨false, rfl, iteT (iteT q)⟩
        | bl d =>
          refine rd_isi (i := 2) (v := .bl d) rfl (ty_bl d) kit_bi ⟨true, rfl, iteF ?_⟩
          cases d with
          | true => exact ⟨.bl true, rfl, true, rfl, rfl, _, rfl, iteT (iteT q)⟩
          | false => exact ⟨.bl false, rfl, true, rfl, rfl, _, rfl, iteF ⟨.bl false, rfl, false, rfl, rfl, _, rfl, iteT q⟩⟩
        | int e =>
          refine rd_isi (i := 2) (v := .int e) rfl (ty_int e) kit_ii ⟨true, rfl, iteF ?_⟩
          refine ⟨.int e, rfl, true, rfl, rfl, _, rfl, iteF ⟨.int e, rfl, false, rfl, rfl, _, rfl, iteF ?_⟩⟩
          cases c with
          | true => exact ⟨.bl true, rfl, rfl, .inr ⟨true, rfl, true, rfl, iteT ⟨.bl true, rfl, true, rfl, rfl, q⟩⟩⟩
          | false => 
            refine ⟨.bl false, rfl, rfl, .inr ⟨false, rfl, false, rfl, iteF ?_⟩⟩
            refine ⟨.bl false, rfl, .bool false, .int 0, .bl false, .int 0, rfl, rfl, true, by decide +kernel, iteT ?_⟩
            refine ⟨.int e, rfl, rfl, _, rfl, ite2 (fun _ => ?_) (fun h2 => ?_)⟩
            · exact ⟨.bl false, rfl, false, rfl, rfl, q⟩
            · exact q
    | @snd a x y h p1 p2 =>
      refine rd_tup (i := 0) rfl h ⟨true, rfl, iteF ?_⟩
      refine ⟨.ref a, rfl, .ref a, 2, rfl, .inr ⟨[x, y], h, rfl⟩, rfl, _, rfl, iteNS rfl ?_⟩
      refine ⟨.ref a, rfl, a, [x, y], rfl, h, rfl, x, [y], rfl, y, [], rfl, rfl, ?_⟩
      cases p1 with
      | int m =>
        refine rd_isi (i := 1) (v := .int m) rfl (ty_int m) kit_ii ⟨true, rfl, iteF ?_⟩
        cases p2 with
        | no h1 k1 k2 => exact rd_isi (i := 2) (v := y) rfl h1 k1 ⟨false, rfl, iteT (iteT q)⟩
        | bl d =>
          refine rd_isi (i := 2) (v := .bl d) rfl (ty_bl d) kit_bi ⟨true, rfl, iteF ?_⟩
          cases d with
          | true => exact ⟨.bl true, rfl, true, rfl, rfl, _, rfl, iteT (iteT q)⟩
          | false => exact ⟨.bl false, rfl, true, rfl, rfl, _, rfl, iteF ⟨.bl false, rfl, false, rfl, rfl, _, rfl, iteT q⟩⟩
    | @num a m e h =>
      refine rd_tup (i := 0) rfl h ⟨true, rfl, iteF ?_⟩
      refine ⟨.ref a, rfl, .ref a, 2, rfl, .inr ⟨[.int m, .int e], h, rfl⟩, rfl, _, rfl, iteNS rfl ?_⟩
      refine ⟨.ref a, rfl, a, [.int m, .int e], rfl, h, rfl, .int m, [.int e], rfl, .int e, [], rfl, rfl, ?_⟩
      refine rd_isi (i := 1) (v := .int m) rfl (ty_int m) kit_ii ⟨true, rfl, iteF ?_⟩
      refine rd_isi (i := 2) (v := .int e) rfl (ty_int e) kit_ii ⟨true, rfl, iteF ?_⟩
      refine ⟨.int e, rfl, true, rfl, rfl, _, rfl, iteF ⟨.int e, rfl, false, rfl, rfl, _, rfl, iteF ?_⟩⟩
      refine ⟨.int m, rfl, rfl, .inl ⟨m, rfl, _, rfl, ite2 (fun h1 => ?_) (fun h1 => ?_)⟩⟩
      · have e1 : m % 2 = 1 := by
          have : m % 2 ≠ 0 := by simpa using h1
          omega
        have e2 : isNumB m e = true := by
          unfold isNumB
          rw [decide_eq_true e1]
          rfl
        rw [e2] at q
        exact ⟨.int m, rfl, true, rfl, rfl, q⟩
      · have e1 : ¬ m % 2 = 1 := fun z => h1 (by rw [z]; rfl)
        have e2 : isNumB m e = (decide (m = 0) && decide (e = 0)) := by
          unfold isNumB
          rw [decide_eq_false e1]
          rfl
        rw [e2] at q
        refine ⟨.int m, rfl, .int m, .int 0, .int m, .int 0, rfl, rfl, decide (m = 0), by simp [PyData.eqv]; rfl, ite2 (fun h2 => ?_) (fun h2 => ?_)⟩
        · rw [h2] at q
          refine ⟨.int e, rfl, rfl, _, rfl, ite2 (fun h3 => ?_) (fun h3 => ?_)⟩
          · have e4 : e = 0 := V.int.inj (of_decide_eq_true h3)
            rw [decide_eq_true e4] at q
            exact ⟨.int m, rfl, false, rfl, rfl, q⟩
          · have e4 : ¬ e = 0 := fun z => h3 (decide_eq_true (congrArg V.int z))
            rw [decide_eq_false e4] at q
            exact q
        · rw [Bool.eq_false_iff.mpr h2] at q
          exact q
theorem ok_need_numbers {f f1 : Addr} {fd fd1 : FuncData} (T : Top mg) (F : FnP K "need_numbers" s_need_numbers f fd) (c_is_number : Cal P w K mg base CX0 1 "is_number" ["thing"] (spNum K) f1 fd1) : FnOk P w K mg base CX0 2 f fd ["one", "other"] (spNeed2 K) := by
  have sc := sc_need_numbers
  refine ok0 F sc (fun vs H Q E h => ?_) (fun cdv A outer s H vs Q E hr h => ?_)
  · obtain ⟨u, v, rfl, _⟩ := h
    rfl
  · obtain ⟨u, v, rfl, hn, hm, q⟩ := h
    refine ⟨_, (pss_one (ps_if (PW.pt (pw_or (pt_not (pt_val (pe_call c_is_number.ok (hr.mono (by decide)) (by rfl) c_is_number.m c_is_number.kp c_is_number.b .nil pass0 (pa_cons (pv 0) pa_nil)))) (pw_or1 (pt_not (pt_val (pe_call c_is_number.ok (hr.mono (by decide)) (by rfl) c_is_number.m c_is_number.kp c_is_number.b .nil pass0 (pa_cons (pv 1) pa_nil)))))))
      (pss_one ps_never) pss_nil)), ?_⟩
    exact ⟨u, rfl, u, true, rfl, hn, fun H1 e1 => ⟨true, rfl, iteF ⟨v, rfl, v, true, rfl, num_ex e1 hm, fun H2 e2 => ⟨true, rfl, iteF (q H2 (e1.trans e2))⟩⟩⟩⟩
theorem ok_lowered {f : Addr} {fd : FuncData} (T : Top mg) (F : FnP K "lowered" s_lowered f fd) : FnOk P w K mg base CX0 1 f fd ["m", "e"] spNof := by
  have sc := sc_lowered
  refine ok0 F sc (fun vs H Q E h => ?_) (fun cdv A outer s H vs Q E hr h => ?_)
  · obtain ⟨m, e, rfl, _⟩ := h
    rfl
  · obtain ⟨m, e, rfl, q⟩ := h
    refine ⟨_, (pss_cons (ps_if (pt_truth (pe_op op_and1 (pv 0) pe_int) (fun _ => rfl))
      (pss_one (ps_ret (pe_tup (pa_cons (pv 0) (pa_cons (pv 1) pa_nil))))) pss_nil)
    (pss_cons (ps_if (pt_cmpR op_eq (pv 0) pe_int (nomark _))
      (pss_one (ps_ret (pe_tup (pa_cons pe_int (pa_cons pe_int pa_nil))))) pss_nil)
    (pss_cons (ps_set (i := 2) sc.nd rfl (.inl rfl) (pe_op op_sub (pe_bits (pe_op op_and (pv 0) (pe_un un_neg (pv 0)))) pe_int))
    (pss_one (ps_ret (pe_tup (pa_cons (pe_op op_shrN (pv 0) (pv 2)) (pa_cons (pe_op op_add (pv 1) (pv 2)) pa_nil)))))))), ?_⟩
    refine ⟨.int m, rfl, rfl, .inl ⟨m, rfl, _, rfl, ite2 (fun h1 => ?_) (fun h1 => ?_)⟩⟩
    · have e1 : m % 2 = 1 := by
        have : m % 2 ≠ 0 := by simpa using h1
        omega
      have e2 : isNumB m e = true := by
        unfold isNumB
        rw [decide_eq_true e1]
        rfl
      rw [nrm_self e2] at q
      exact ⟨.int m, rfl, .int e, rfl, by show 2 ≤ sizeLine; decide, fun p hp => q _ p (Ex.new hp) hp upd_same⟩
    · refine ⟨.int m, rfl, rfl, _, rfl, ite2 (fun h0 => ?_) (fun h0 => ?_)⟩
      · have e0 : m = 0 := V.int.inj (of_decide_eq_true h0)
        subst e0
        exact ⟨by show 2 ≤ sizeLine; decide, fun p hp => q _ p (Ex.new hp) hp upd_same⟩
      · have e0 : m ≠ 0 := fun z => h0 (decide_eq_true (congrArg V.int z))
        obtain ⟨a, ha⟩ := v2_spec e0
        have en := nrm_of e ha
        have eb : Builtin.bitAnd m (-m) = 2 ^ v2 m := by
          have h1 := PySem.W.kbt_low (v2 m) a
          rw [← ha] at h1
          exact h1
        have ev : ((Builtin.Int.intBits (Builtin.bitAnd m (-m)) : Nat) : Int) - 1 = ((v2 m : Nat) : Int) := by
          rw [eb, bits_two]
          omega
        have ed : m / 2 ^ v2 m = 2 * a + 1 := by
          have := nrm_of 0 ha
          unfold nrm at this
          rw [if_neg e0] at this
          exact (Prod.mk.inj this).1
        refine ⟨.int m, rfl, .int m, rfl, m, rfl, m, -m, rfl, rfl, _, rfl, _, 1, rfl, rfl, ?_⟩
        refine ⟨.int m, rfl, _, rfl, m, v2 m, rfl, congrArg V.int ev, .int e, rfl, _, rfl, e, _, rfl, rfl, by show 2 ≤ sizeLine; decide, fun p hp => q _ p (Ex.new hp) hp ?_⟩
        rw [upd_same, en, ed, ev]
theorem ok_added {f f1 : Addr} {fd fd1 : FuncData} (T : Top mg) (F : FnP K "added" s_added f fd) (c_lowered : Cal P w K mg base CX0 1 "lowered" ["m", "e"] spNof f1 fd1) : FnOk P w K mg base CX0 2 f fd ["one", "other"] (spTwo K padd) := by
  have sc := sc_added
  refine ok0 F sc (fun vs H Q E h => ?_) (fun cdv A outer s H vs Q E hr h => ?_)
  · obtain ⟨u, v, a, b, rfl, _⟩ := h
    rfl
  · obtain ⟨u, v, a, b, rfl, ga, gb, q⟩ := h
    refine ⟨_, (pss_cons (ps_asg (pv 0) (pg_tup rfl (pgs_cons (pg_name (i := 2) sc.nd rfl (.inl rfl)) (pgs_cons (pg_name (i := 3) sc.nd rfl (.inl rfl)) pgs_nil))))
    (pss_cons (ps_asg (pv 1) (pg_tup rfl (pgs_cons (pg_name (i := 4) sc.nd rfl (.inl rfl)) (pgs_cons (pg_name (i := 5) sc.nd rfl (.inl rfl)) pgs_nil))))
    (pss_cons (ps_if (pt_cmpR op_eq (pv 3) (pv 5) (nomark _))
      (pss_one (ps_ret (pe_call c_lowered.ok (hr.mono (by decide)) (by rfl) c_lowered.m c_lowered.kp c_lowered.b .nil pass0 (pa_cons (pe_op op_add (pv 2) (pv 4)) (pa_cons (pv 3) pa_nil))))) pss_nil)
    (pss_cons (ps_if (pt_cmpR op_eq (pv 2) pe_int (nomark _))
      (pss_one (ps_ret (pv 1))) pss_nil)
    (pss_cons (ps_if (pt_cmpR op_eq (pv 4) pe_int (nomark _))
      (pss_one (ps_ret (pv 0))) pss_nil)
    (pss_cons (ps_if (pt_cmpR op_gt (pv 3) (pv 5) (nomark _))
      (pss_one (ps_ret (pe_tup (pa_cons (pe_op op_add (pe_op op_shlW (pv 2) (pe_op op_sub (pv 3) (pv 5))) (pv 4)) (pa_cons (pv 5) pa_nil))))) pss_nil)
    (pss_one (ps_ret (pe_tup (pa_cons (pe_op op_add (pv 2) (pe_op op_shlW (pv 4) (pe_op op_sub (pv 5) (pv 3)))) (pa_cons (pv 3) pa_nil))))))))))), ?_⟩
    obtain ⟨p, rfl, hp⟩ := ga.at_
    obtain ⟨r, rfl, hr2⟩ := gb.at_
    have ba := ga.bd
    have bb := gb.bd
    have ba2 := ba.2
    have bb2 := bb.2
    refine ⟨.ref p, rfl, p, [.int a.1, .int a.2], rfl, hp, rfl, .int a.1, [.int a.2], rfl, .int a.2, [], rfl, rfl, ?_⟩
    refine ⟨.ref r, rfl, r, [.int b.1, .int b.2], rfl, hr2, rfl, .int b.1, [.int b.2], rfl, .int b.2, [], rfl, rfl, ?_⟩
    refine ⟨.int a.2, rfl, .int b.2, rfl, rfl, _, rfl, ite2 (fun h1 => ?_) (fun h1 => ?_)⟩
    · have e1 : a.2 = b.2 := V.int.inj (of_decide_eq_true h1)
      refine ⟨.int a.1, rfl, .int b.1, rfl, a.1, b.1, rfl, rfl, .int a.2, rfl, _, _, rfl, fun H' t e' nt ht => ?_⟩
      have e2 : padd a b = nrm (a.1 + b.1) a.2 := by
        rw [padd_at (E := a.2) (by omega) (by omega)]
        have z1 : at_ a a.2 = a.1 := by
          unfold at_
          rw [show (a.2 - a.2).toNat = 0 by omega, Int.pow_zero, Int.mul_one]
        have z2 : at_ b a.2 = b.1 := by
          unfold at_
          rw [show (b.2 - a.2).toNat = 0 by omega, Int.pow_zero, Int.mul_one]
        rw [z1, z2]
      refine q H' (.ref t) e' ?_
      rw [e2]
      exact numAt_of ht
    · have n1 : a.2 ≠ b.2 := fun z => h1 (decide_eq_true (congrArg V.int z))
      refine ⟨.int a.1, rfl, rfl, _, rfl, ite2 (fun h2 => ?_) (fun h2 => ?_)⟩
      · have e2 : a = (0, 0) := num_zero ga.nb (V.int.inj (of_decide_eq_true h2))
        refine ⟨.ref r, rfl, q H (.ref r) (Ex.refl H) ?_⟩
        rw [padd_comm, padd_zero_r gb.nb e2]
        exact ⟨r, rfl, hr2⟩
      · have n2 : a.1 ≠ 0 := fun z => h2 (decide_eq_true (congrArg V.int z))
        refine ⟨.int b.1, rfl, rfl, _, rfl, ite2 (fun h3 => ?_) (fun h3 => ?_)⟩
        · have e3 : b = (0, 0) := num_zero gb.nb (V.int.inj (of_decide_eq_true h3))
          refine ⟨.ref p, rfl, q H (.ref p) (Ex.refl H) ?_⟩
          rw [padd_zero_r ga.nb e3]
          exact ⟨p, rfl, hp⟩
        · have n3 : b.1 ≠ 0 := fun z => h3 (decide_eq_true (congrArg V.int z))
          refine ⟨.int a.2, rfl, .int b.2, rfl, a.2, b.2, rfl, rfl, _, rfl, ite2 (fun h4 => ?_) (fun h4 => ?_)⟩
          · have l4 : b.2 < a.2 := of_decide_eq_true h4
            refine ⟨.int a.1, rfl, .int a.2, rfl, .int b.2, rfl, a.2, b.2, rfl, rfl, a.1, _, rfl, rfl, ?_, .int b.1, rfl, _, _, rfl, rfl, .int b.2, rfl, by show 2 ≤ sizeLine; decide, fun t ht => ?_⟩
            · have hs : a.2 - b.2 = ((a.2 - b.2).toNat : Int) := by omega
              show CShl a.1 (a.2 - b.2)
              rw [hs]
              exact shl_ok ba.1 (by unfold LIM at *; omega)
            · refine q _ (.ref t) (Ex.new ht) ?_
              rw [padd_gt gb.nb n3 l4]
              exact numAt_of upd_same
          · have l4 : a.2 < b.2 := by
              have : ¬ b.2 < a.2 := fun z => h4 (decide_eq_true z)
              omega
            refine ⟨.int a.1, rfl, .int b.1, rfl, .int b.2, rfl, .int a.2, rfl, b.2, a.2, rfl, rfl, b.1, _, rfl, rfl, ?_, a.1, _, rfl, rfl, .int a.2, rfl, by show 2 ≤ sizeLine; decide, fun t ht => ?_⟩
            · have hs : b.2 - a.2 = ((b.2 - a.2).toNat : Int) := by omega
              show CShl b.1 (b.2 - a.2)
              rw [hs]
              exact shl_ok bb.1 (by unfold LIM at *; omega)
            · refine q _ (.ref t) (Ex.new ht) ?_
              rw [padd_comm, padd_gt ga.nb n2 l4, Int.add_comm]
              exact numAt_of upd_same
theorem pmul_plain {a b : Int × Int} (ha : isNumB a.1 a.2 = true) (hb : isNumB b.1 b.2 = true) (h : a.1 * b.1 ≠ 0) : pmul a b = (a.1 * b.1, a.2 + b.2) := by
  have n1 : a.1 ≠ 0 := fun z => h (by rw [z, Int.zero_mul])
  have n2 : b.1 ≠ 0 := fun z => h (by rw [z, Int.mul_zero])
  have o1 := num_odd ha n1
  have o2 := num_odd hb n2
  refine nrm_self (odd_num ?_)
  rw [Int.mul_emod, o1, o2]
  rfl
theorem ok_multiplied {f : Addr} {fd : FuncData} (T : Top mg) (F : FnP K "multiplied" s_multiplied f fd) : FnOk P w K mg base CX0 1 f fd ["one", "other"] (spTwo K pmul) := by
  have sc := sc_multiplied
  refine ok0 F sc (fun vs H Q E h => ?_) (fun cdv A outer s H vs Q E hr h => ?_)
  · obtain ⟨u, v, a, b, rfl, _⟩ := h
    rfl
  · obtain ⟨u, v, a, b, rfl, ga, gb, q⟩ := h
    refine ⟨_, (pss_cons (ps_set (i := 2) sc.nd rfl (.inl rfl) (pe_op op_mulX (pe_ix ix_tup (pv 0) pe_int (fun _ _ => rfl)) (pe_ix ix_tup (pv 1) pe_int (fun _ _ => rfl))))
    (pss_one (ps_ret (pe_ifExp (pt_truth (pv 2) (fun _ => rfl)) (pe_tup (pa_cons (pv 2) (pa_cons (pe_op op_add (pe_ix ix_tup (pv 0) pe_int (fun _ _ => rfl)) (pe_ix ix_tup (pv 1) pe_int (fun _ _ => rfl))) pa_nil))) (pe_tup (pa_cons pe_int (pa_cons pe_int pa_nil))))))), ?_⟩
    obtain ⟨p, rfl, hp⟩ := ga.at_
    obtain ⟨r, rfl, hr2⟩ := gb.at_
    refine ⟨.ref p, rfl, p, [.int a.1, .int a.2], 0, .int a.1, rfl, rfl, hp, rfl, .ref r, rfl, r, [.int b.1, .int b.2], 0, .int b.1, rfl, rfl, hr2, rfl, a.1, b.1, rfl, rfl, mulx_ok ga.bd.1 gb.bd.1 (by unfold LIM; decide), ?_⟩
    refine ⟨.int (a.1 * b.1), rfl, _, rfl, ite2 (fun h1 => ?_) (fun h1 => ?_)⟩
    · have n1 : a.1 * b.1 ≠ 0 := bne_iff_ne.mp h1
      refine ⟨.int (a.1 * b.1), rfl, .ref p, rfl, p, [.int a.1, .int a.2], 1, .int a.2, rfl, rfl, hp, rfl, .ref r, rfl, r, [.int b.1, .int b.2], 1, .int b.2, rfl, rfl, hr2, rfl, a.2, b.2, rfl, rfl, by show 2 ≤ sizeLine; decide, fun t ht => ?_⟩
      refine q _ (.ref t) (Ex.new ht) ?_
      rw [pmul_plain ga.nb gb.nb n1]
      exact numAt_of upd_same
    · have e1 : a.1 * b.1 = 0 := Decidable.byContradiction fun z => h1 (bne_iff_ne.mpr z)
      refine ⟨by show 2 ≤ sizeLine; decide, fun t ht => q _ (.ref t) (Ex.new ht) ?_⟩
      have e2 : pmul a b = (0, 0) := by
        unfold pmul
        rw [e1]
        rfl
      rw [e2]
      exact numAt_of upd_same
theorem pord_plain {a b : Int × Int} (h : a.2 = b.2 ∨ a.1 = 0 ∨ b.1 = 0 ∨ decide (0 < a.1) ≠ decide (0 < b.1)) : pord a b = sgn (a.1 - b.1) := by
  have ea : min a.2 b.2 ≤ a.2 := by omega
  have eb : min a.2 b.2 ≤ b.2 := by omega
  rcases h with h | h | h | h
  · rw [pord_at (E := a.2) (by omega) (by omega)]
    unfold at_
    rw [show (a.2 - a.2).toNat = 0 by omega, show (b.2 - a.2).toNat = 0 by omega, Int.pow_zero, Int.mul_one, Int.mul_one]
  · rw [pord_at ea eb]
    generalize min a.2 b.2 = E at *
    have e1 : at_ a E = 0 := by
      unfold at_
      rw [h, Int.zero_mul]
    rw [e1, h, Int.zero_sub, Int.zero_sub, sgn_swap, sgn_swap, at_sgn]
  · rw [pord_at ea eb]
    generalize min a.2 b.2 = E at *
    have e1 : at_ b E = 0 := by
      unfold at_
      rw [h, Int.zero_mul]
    rw [e1, h, Int.sub_zero, Int.sub_zero, at_sgn]
  · rw [pord_at ea eb]
    generalize min a.2 b.2 = E at *
    have sa := at_sgn a E
    have sb := at_sgn b E
    by_cases p : 0 < a.1
    · have p2 : ¬ 0 < b.1 := fun z => h (by rw [decide_eq_true p, decide_eq_true z])
      rw [sgn_pos p] at sa
      have pa := sgn_of_pos sa
      rw [sgn_pos (show 0 < a.1 - b.1 by omega)]
      refine sgn_pos ?_
      rcases Int.lt_trichotomy b.1 0 with z | z | z
      · rw [sgn_neg z] at sb
        have := sgn_of_neg sb
        omega
      · rw [z] at sb
        have := sgn_of_zero sb
        omega
      · exact absurd z p2
    · have p2 : 0 < b.1 := by
        rcases Int.lt_trichotomy b.1 0 with z | z | z
        · exact absurd (by rw [decide_eq_false p, decide_eq_false (by omega)]) h
        · exact absurd (by rw [decide_eq_false p, decide_eq_false (by omega)]) h
        · exact z
      rw [sgn_pos p2] at sb
      have pb := sgn_of_pos sb
      rw [sgn_neg (show a.1 - b.1 < 0 by omega)]
      refine sgn_neg ?_
      rcases Int.lt_trichotomy a.1 0 with z | z | z
      · rw [sgn_neg z] at sa
        have := sgn_of_neg sa
        omega
      · rw [z] at sa
        have := sgn_of_zero sa
        omega
      · exact absurd z p
/-- of one sign, by their sizes -/
theorem pord_size {a b : Int × Int} (ha : a.1 ≠ 0) (hb : b.1 ≠ 0) (h : decide (0 < a.1) = decide (0 < b.1)) (hs : psize a ≠ psize b) : pord a b = if decide (psize b < psize a) = decide (0 < a.1) then 1 else -1 := by
  have hE : ∀ x y : Int × Int, (prank y).1 = (prank x).1 → (prank y).2 < (prank x).2 → pord x y = 1 := fun x y e l => rank_gt (.inr ⟨e, l⟩)
  by_cases p : 0 < a.1
  · have p2 : 0 < b.1 := of_decide_eq_true (h ▸ decide_eq_true p)
    have ra : prank a = (1, 1 * psize a) := by unfold prank; rw [sgn_pos p]
    have rb : prank b = (1, 1 * psize b) := by unfold prank; rw [sgn_pos p2]
    by_cases q : psize b < psize a
    · rw [decide_eq_true p, decide_eq_true q, if_pos rfl]
      exact hE a b (by rw [ra, rb]) (by rw [ra, rb]; show 1 * psize b < 1 * psize a; omega)
    · rw [decide_eq_true p, decide_eq_false q, if_neg (by decide), pord_swap b a, hE b a (by rw [ra, rb]) (by rw [ra, rb]; show 1 * psize a < 1 * psize b; omega)]
  · have p1 : a.1 < 0 := by omega
    have p2 : b.1 < 0 := by
      have : ¬ 0 < b.1 := fun z => p (of_decide_eq_true (h.trans (decide_eq_true z)))
      omega
    have ra : prank a = (-1, -1 * psize a) := by unfold prank; rw [sgn_neg p1]
    have rb : prank b = (-1, -1 * psize b) := by unfold prank; rw [sgn_neg p2]
    by_cases q : psize b < psize a
    · rw [decide_eq_false p, decide_eq_true q, if_neg (by decide), pord_swap b a, hE b a (by rw [ra, rb]) (by rw [ra, rb]; show -1 * psize a < -1 * psize b; omega)]
    · rw [decide_eq_false p, decide_eq_false q, if_pos rfl]
      exact hE a b (by rw [ra, rb]) (by rw [ra, rb]; show -1 * psize b < -1 * psize a; omega)
theorem sgn_if (x y : Int) : sgn (x - y) = if x = y then 0 else if y < x then 1 else -1 := by
  by_cases h : x = y
  · rw [if_pos h, h, Int.sub_self]
    rfl
  · rw [if_neg h]
    by_cases l : y < x
    · rw [if_pos l, sgn_pos (by omega)]
    · rw [if_neg l, sgn_neg (by omega)]
theorem ok_compared {f : Addr} {fd : FuncData} (T : Top mg) (F : FnP K "compared" s_compared f fd) : FnOk P w K mg base CX0 1 f fd ["one", "other"] (spOrd K) := by
  have sc := sc_compared
  refine ok0 F sc (fun vs H Q E h => ?_) (fun cdv A outer s H vs Q E hr h => ?_)
  · obtain ⟨u, v, a, b, rfl, _⟩ := h
    rfl
  · obtain ⟨u, v, a, b, rfl, ga, gb, q⟩ := h
    have q := q H (Ex.refl H)
    refine ⟨_, (pss_cons (ps_asg (pv 0) (pg_tup rfl (pgs_cons (pg_name (i := 2) sc.nd rfl (.inl rfl)) (pgs_cons (pg_name (i := 3) sc.nd rfl (.inl rfl)) pgs_nil))))
    (pss_cons (ps_asg (pv 1) (pg_tup rfl (pgs_cons (pg_name (i := 4) sc.nd rfl (.inl rfl)) (pgs_cons (pg_name (i := 5) sc.nd rfl (.inl rfl)) pgs_nil))))
    (pss_cut (ps_if (PW.pt (pw_and (pt_cmpR op_ne (pv 3) (pv 5) (nomark _)) (pw_and (pt_truth (pv 2) (fun _ => rfl)) (pw_and (pt_truth (pv 4) (fun _ => rfl)) (pw_and1 (pt_cmpR op_eq (pe_cmpR op_gt (pv 2) pe_int (nomark _)) (pe_cmpR op_gt (pv 4) pe_int (nomark _)) (nomark _)))))))
      (pss_cons (ps_par (by rfl) sc.nd (i := 6) (j := 7) rfl rfl (by decide) rfl rfl (pa_cons (pe_op op_add (pe_bits (pv 2)) (pv 3)) (pa_cons (pe_op op_add (pe_bits (pv 4)) (pv 5)) pa_nil)) (by rfl))
      (pss_cons (ps_if (pt_cmpR op_ne (pv 6) (pv 7) (nomark _))
        (pss_one (ps_ret (pe_ifExp (pt_cmpR op_eq (pe_cmpR op_gt (pv 6) (pv 7) (nomark _)) (pe_cmpR op_gt (pv 2) pe_int (nomark _)) (nomark _)) pe_int (pe_un un_neg pe_int)))) pss_nil)
      (pss_one (ps_if (pt_cmpR op_gt (pv 3) (pv 5) (nomark _))
        (pss_one (ps_aug (i := 2) sc.nd rfl (.inl rfl) (pe_op op_sub (pv 3) (pv 5)) iop_shlW)) (pss_one (ps_aug (i := 4) sc.nd rfl (.inl rfl) (pe_op op_sub (pv 5) (pv 3)) iop_shlW)))))) pss_nil)
    (pss_cons (ps_if (pt_cmpR op_eq (pv 2) (pv 4) (nomark _))
      (pss_one (ps_ret pe_int)) pss_nil)
    (pss_one (ps_ret (pe_ifExp (pt_cmpR op_gt (pv 2) (pv 4) (nomark _)) pe_int (pe_un un_neg pe_int)))))))), ?_⟩
    obtain ⟨p, rfl, hp⟩ := ga.at_
    obtain ⟨r, rfl, hr2⟩ := gb.at_
    have ba := ga.bd
    have bb := gb.bd
    have ba2 := ba.2
    have bb2 := bb.2
    refine ⟨.ref p, rfl, p, [.int a.1, .int a.2], rfl, hp, rfl, .int a.1, [.int a.2], rfl, .int a.2, [], rfl, rfl, ?_⟩
    refine ⟨.ref r, rfl, r, [.int b.1, .int b.2], rfl, hr2, rfl, .int b.1, [.int b.2], rfl, .int b.2, [], rfl, rfl, ?_⟩
    refine ⟨fun σ' H' => H' = H ∧ ∃ (x y : Int) (t u : Option V), σ' = [some (.ref p), some (.ref r), some (.int x), some (.int a.2), some (.int y), some (.int b.2), t, u] ∧ sgn (x - y) = pord a b, ?_, fun σ' H' hm => ?_⟩
    · refine ⟨.int a.2, rfl, .int b.2, rfl, rfl, _, rfl, ite2 (fun h1 => ?_) (fun h1 => ?_)⟩
      · have n1 : a.2 ≠ b.2 := fun z => by
          rw [decide_eq_true (congrArg V.int z)] at h1
          cases h1
        refine ⟨.int a.1, rfl, _, rfl, ite2 (fun h2 => ?_) (fun h2 => ?_)⟩
        · have n2 : a.1 ≠ 0 := by simpa using h2
          refine ⟨.int b.1, rfl, _, rfl, ite2 (fun h3 => ?_) (fun h3 => ?_)⟩
          · have n3 : b.1 ≠ 0 := by simpa using h3
            refine ⟨.int a.1, rfl, a.1, 0, rfl, rfl, .int b.1, rfl, b.1, 0, rfl, rfl, rfl, _, rfl, ite2 (fun h4 => ?_) (fun h4 => ?_)⟩
            · have e4 : decide (0 < a.1) = decide (0 < b.1) := V.bl.inj (of_decide_eq_true h4)
              have pa : ((Builtin.Int.intBits a.1 : Nat) : Int) + a.2 = psize a + 1 := by unfold psize; omega
              have pb : ((Builtin.Int.intBits b.1 : Nat) : Int) + b.2 = psize b + 1 := by unfold psize; omega
              refine ⟨.int a.1, rfl, a.1, rfl, .int a.2, rfl, _, _, rfl, rfl, .int b.1, rfl, b.1, rfl, .int b.2, rfl, _, _, rfl, rfl, .int (psize a + 1), .int (psize b + 1), by rw [← pa, ← pb], ?_⟩
              refine ⟨.int (psize a + 1), rfl, .int (psize b + 1), rfl, rfl, _, rfl, ite2 (fun h5 => ?_) (fun h5 => ?_)⟩
              · have n5 : psize a ≠ psize b := fun z => by
                  rw [decide_eq_true (show V.int (psize a + 1) = V.int (psize b + 1) by rw [z])] at h5
                  cases h5
                rw [pord_size n2 n3 e4 n5] at q
                refine ⟨.int (psize a + 1), rfl, .int (psize b + 1), rfl, _, _, rfl, rfl, .int a.1, rfl, a.1, 0, rfl, rfl, rfl, _, rfl, ?_⟩
                have e6 : decide (psize b + 1 < psize a + 1) = decide (psize b < psize a) := decide_eq_decide.mpr ⟨fun z => by omega, fun z => by omega⟩
                refine ite2 (fun h6 => ?_) (fun h6 => ?_)
                · have e7 := V.bl.inj (of_decide_eq_true h6)
                  rw [e6] at e7
                  rw [if_pos e7] at q
                  exact q
                · have e7 : ¬ decide (psize b < psize a) = decide (0 < a.1) := fun z => h6 (decide_eq_true (by show V.bl (decide (psize b + 1 < psize a + 1)) = V.bl (decide (0 < a.1)); rw [e6, z]))
                  rw [if_neg e7] at q
                  exact ⟨1, rfl, q⟩
              · refine ⟨.int a.2, rfl, .int b.2, rfl, a.2, b.2, rfl, rfl, _, rfl, ite2 (fun h6 => ?_) (fun h6 => ?_)⟩
                · have l6 : b.2 < a.2 := of_decide_eq_true h6
                  refine ⟨.int a.1, rfl, .int a.2, rfl, .int b.2, rfl, a.2, b.2, rfl, rfl, a.1, _, rfl, rfl, ?_, rfl, _, _, _, _, rfl, ?_⟩
                  · have hs : a.2 - b.2 = ((a.2 - b.2).toNat : Int) := by omega
                    show CShl a.1 (a.2 - b.2)
                    rw [hs]
                    exact shl_ok ba.1 (by unfold LIM at *; omega)
                  · rw [pord_at (E := b.2) (by omega) (by omega)]
                    unfold at_
                    rw [show (b.2 - b.2).toNat = 0 by omega, Int.pow_zero, Int.mul_one]
                · have l6 : a.2 < b.2 := by
                    have : ¬ b.2 < a.2 := fun z => h6 (decide_eq_true z)
                    omega
                  refine ⟨.int b.1, rfl, .int b.2, rfl, .int a.2, rfl, b.2, a.2, rfl, rfl, b.1, _, rfl, rfl, ?_, rfl, _, _, _, _, rfl, ?_⟩
                  · have hs : b.2 - a.2 = ((b.2 - a.2).toNat : Int) := by omega
                    show CShl b.1 (b.2 - a.2)
                    rw [hs]
                    exact shl_ok bb.1 (by unfold LIM at *; omega)
                  · rw [pord_at (E := a.2) (by omega) (by omega)]
                    unfold at_
                    rw [show (a.2 - a.2).toNat = 0 by omega, Int.pow_zero, Int.mul_one]
            · refine ⟨rfl, a.1, b.1, _, _, rfl, (pord_plain (.inr (.inr (.inr fun z => h4 (decide_eq_true (congrArg V.bl z)))))).symm⟩
          · have e3 : b.1 = 0 := by simpa using h3
            exact iteF ⟨rfl, a.1, b.1, _, _, rfl, (pord_plain (.inr (.inr (.inl e3)))).symm⟩
        · have e2 : a.1 = 0 := by simpa using h2
          exact iteF ⟨rfl, a.1, b.1, _, _, rfl, (pord_plain (.inr (.inl e2))).symm⟩
      · have e1 : a.2 = b.2 := by
          by_cases z : a.2 = b.2
          · exact z
          · exact absurd (by rw [decide_eq_false (fun y => z (V.int.inj y))]; rfl) h1
        exact iteF ⟨rfl, a.1, b.1, _, _, rfl, (pord_plain (.inl e1)).symm⟩
    · obtain ⟨rfl, x, y, t, u, rfl, e⟩ := hm
      rw [← e, sgn_if] at q
      refine ⟨.int x, rfl, .int y, rfl, rfl, _, rfl, ite2 (fun h1 => ?_) (fun h1 => ?_)⟩
      · rw [if_pos (V.int.inj (of_decide_eq_true h1))] at q
        exact q
      · rw [if_neg (fun z => h1 (decide_eq_true (congrArg V.int z)))] at q
        refine ⟨.int x, rfl, .int y, rfl, x, y, rfl, rfl, _, rfl, ite2 (fun h2 => ?_) (fun h2 => ?_)⟩
        · rw [if_pos (of_decide_eq_true h2)] at q
          exact q
        · rw [if_neg (fun z => h2 (decide_eq_true z))] at q
          exact ⟨1, rfl, q⟩
theorem ok_lesser {f f1 : Addr} {fd fd1 : FuncData} (T : Top mg) (F : FnP K "lesser" s_lesser f fd) (c_compared : Cal P w K mg base CX0 1 "compared" ["one", "other"] (spOrd K) f1 fd1) : FnOk P w K mg base CX0 2 f fd ["one", "other"] (spLes K) := by
  have sc := sc_lesser
  refine ok0 F sc (fun vs H Q E h => ?_) (fun cdv A outer s H vs Q E hr h => ?_)
  · obtain ⟨u, v, a, b, rfl, _⟩ := h
    rfl
  · obtain ⟨u, v, a, b, rfl, ga, gb, q1, q2⟩ := h
    refine ⟨_, (pss_one (ps_ret (pe_ifExp (pt_cmpR op_le (pe_call c_compared.ok (hr.mono (by decide)) (by rfl) c_compared.m c_compared.kp c_compared.b .nil pass0 (pa_cons (pv 0) (pa_cons (pv 1) pa_nil))) pe_int (nomark _)) (pv 0) (pv 1)))), ?_⟩
    refine ⟨u, rfl, v, rfl, u, v, a, b, rfl, ga, gb, fun H1 e1 => ⟨_, 0, rfl, rfl, _, rfl, ite2 (fun z => ⟨u, rfl, q1 (of_decide_eq_true z) H1 e1⟩) (fun z => ⟨v, rfl, q2 ?_ H1 e1⟩)⟩⟩
    have : ¬ pord a b ≤ 0 := fun y => z (decide_eq_true y)
    omega
theorem ok_greater {f f1 : Addr} {fd fd1 : FuncData} (T : Top mg) (F : FnP K "greater" s_greater f fd) (c_compared : Cal P w K mg base CX0 1 "compared" ["one", "other"] (spOrd K) f1 fd1) : FnOk P w K mg base CX0 2 f fd ["one", "other"] (spGre K) := by
  have sc := sc_greater
  refine ok0 F sc (fun vs H Q E h => ?_) (fun cdv A outer s H vs Q E hr h => ?_)
  · obtain ⟨u, v, a, b, rfl, _⟩ := h
    rfl
  · obtain ⟨u, v, a, b, rfl, ga, gb, q1, q2⟩ := h
    refine ⟨_, (pss_one (ps_ret (pe_ifExp (pt_cmpR op_ge (pe_call c_compared.ok (hr.mono (by decide)) (by rfl) c_compared.m c_compared.kp c_compared.b .nil pass0 (pa_cons (pv 0) (pa_cons (pv 1) pa_nil))) pe_int (nomark _)) (pv 0) (pv 1)))), ?_⟩
    refine ⟨u, rfl, v, rfl, u, v, a, b, rfl, ga, gb, fun H1 e1 => ⟨_, 0, rfl, rfl, _, rfl, ite2 (fun z => ⟨u, rfl, q1 (of_decide_eq_true z) H1 e1⟩) (fun z => ⟨v, rfl, q2 ?_ H1 e1⟩)⟩⟩
    have : ¬ 0 ≤ pord a b := fun y => z (decide_eq_true y)
    omega
theorem ok_Stretch_init {f f1 f2 C_Stretch : Addr} {fd fd1 fd2 : FuncData} (T : Top mg) (S_Stretch : StrC K mg C_Stretch) (F : FunD K "__init__" "Stretch.__init__" (defArgs s_Stretch_init) (defBody s_Stretch_init) (defScope s_Stretch_init) [] [] f fd) (c_need_numbers : Cal P w K mg base CX0 2 "need_numbers" ["one", "other"] (spNeed2 K) f1 fd1) (c_compared : Cal P w K mg base CX0 1 "compared" ["one", "other"] (spOrd K) f2 fd2) : FnOk P w K mg base CX0 3 f fd ["self", "low", "high"] (spInit K C_Stretch) := by
  have sc := sc_Stretch_init
  refine ok0 F sc (fun vs H Q E h => ?_) (fun cdv A outer s H vs Q E hr h => ?_)
  · obtain ⟨x, dx, u, v, a, b, rfl, _⟩ := h
    rfl
  · obtain ⟨x, dx, u, v, a, b, rfl, hx, gu, gv, hle, q⟩ := h
    refine ⟨_, (pss_cons (ps_expr (pe_call c_need_numbers.ok (hr.mono (by decide)) (by rfl) c_need_numbers.m c_need_numbers.kp c_need_numbers.b .nil pass0 (pa_cons (pv 1) (pa_cons (pv 2) pa_nil))))
    (pss_cons (ps_if (pt_cmpR op_gt (pe_call c_compared.ok (hr.mono (by decide)) (by rfl) c_compared.m c_compared.kp c_compared.b .nil pass0 (pa_cons (pv 1) (pa_cons (pv 2) pa_nil))) pe_int (nomark _))
      (pss_one ps_never) pss_nil)
    (pss_cons (ps_fld (pv 0) (pv 1) rfl)
    (pss_one (ps_fld (pv 0) (pv 2) rfl))))), ?_⟩
    refine ⟨u, rfl, v, rfl, u, v, rfl, gu.num, gv.num, fun H2 e2 => ?_⟩
    refine ⟨u, rfl, v, rfl, u, v, a, b, rfl, gu.ex e2, gv.ex e2, fun H3 e3 => ⟨_, 0, rfl, rfl, _, rfl, ite2 (fun h => absurd (of_decide_eq_true h) (by omega)) (fun _ => ?_)⟩⟩
    have e13 := e2.trans e3
    refine ⟨u, rfl, .ref x, rfl, x, C_Stretch, dx, [], rfl, e13 _ _ hx, S_Stretch.cl, S_Stretch.nl, by decide, ?_⟩
    refine ⟨v, rfl, .ref x, rfl, x, C_Stretch, dx, _, rfl, upd_same, S_Stretch.cl, S_Stretch.nh, by show 1 < 1000; decide, ?_⟩
    refine q _ (fun c o hc hcx => ?_) ?_
    · rw [upd_ne hcx, upd_ne hcx]
      exact e13 _ _ hc
    · rw [upd_same]
      rfl
def spNeedS (K : PySem.W.Frag) (C : Addr) : Sp := fun vs H Q _ => ∃ v a b B, vs = [v] ∧ StrAt K C B a b H v ∧ ∀ H', Ex H H' → Q .non H'
theorem ok_need_stretch {f C_Stretch : Addr} {fd : FuncData} (T : Top mg) (S_Stretch : StrC K mg C_Stretch) (F : FnP K "need_stretch" s_need_stretch f fd) : FnOk P w K mg base CX0 1 f fd ["thing"] (spNeedS K C_Stretch) := by
  have sc := sc_need_stretch
  refine ok0 F sc (fun vs H Q E h => ?_) (fun cdv A outer s H vs Q E hr h => ?_)
  · obtain ⟨v, a, b, B, rfl, _⟩ := h
    rfl
  · obtain ⟨v, a, b, B, rfl, hs, q⟩ := h
    refine ⟨_, (pss_one (ps_if (pt_not (pt_val (pe_callB call_isi (by rfl) T.isinstance (by decide +kernel) (pa_cons (pv 0) (pa_cons (pe_glob (v := .ref C_Stretch) (by rfl) S_Stretch.m rfl) pa_nil)))))
      (pss_one ps_never) pss_nil)), ?_⟩
    exact s_when (et_is (et_not (et_B (ev_isS S_Stretch (evs_var rfl hs)))) rfl) (fun z => by cases z) (fun _ H1 e1 => q H1 e1)
def spSumS (K : PySem.W.Frag) (C : Addr) : Sp := fun vs H Q _ => ∃ u v a b c d, vs = [u, v] ∧ StrAt K C 3000 a b H u ∧ StrAt K C 3000 c d H v ∧ pord a b ≤ 0 ∧ pord c d ≤ 0 ∧ ∀ z H', Ex H H' → StrAt K C 100000 (padd a c) (padd b d) H' z → Q z H'
theorem ok_sum_of {f f1 f2 f3 C_Stretch : Addr} {fd fd1 fd2 fd3 : FuncData} (T : Top mg) (S_Stretch : StrC K mg C_Stretch) (M_Stretch : Mk K C_Stretch f3) (F : FnP K "sum_of" s_sum_of f fd) (c_need_stretch : Cal P w K mg base CX0 1 "need_stretch" ["thing"] (spNeedS K C_Stretch) f1 fd1) (c_added : Cal P w K mg base CX0 2 "added" ["one", "other"] (spTwo K padd) f2 fd2) (c_Stretch_init : CalI P w K mg base CX0 3 ["self", "low", "high"] (spInit K C_Stretch) f3 fd3) : FnOk P w K mg base CX0 5 f fd ["one", "other"] (spSumS K C_Stretch) := by
  have sc := sc_sum_of
  refine ok0 F sc (fun vs H Q E h => ?_) (fun cdv A outer s H vs Q E hr h => ?_)
  · obtain ⟨u, v, a, b, c, d, rfl, _⟩ := h
    rfl
  · obtain ⟨u, v, a, b, c, d, rfl, hu, hv, h1, h2, q⟩ := h
    refine ⟨_, (pss_cons (ps_expr (pe_call c_need_stretch.ok (hr.mono (by decide)) (by rfl) c_need_stretch.m c_need_stretch.kp c_need_stretch.b .nil pass0 (pa_cons (pv 0) pa_nil)))
    (pss_cons (ps_expr (pe_call c_need_stretch.ok (hr.mono (by decide)) (by rfl) c_need_stretch.m c_need_stretch.kp c_need_stretch.b .nil pass0 (pa_cons (pv 1) pa_nil)))
    (pss_one (ps_ret (pe_make M_Stretch c_Stretch_init.ok (hr.mono (by decide)) (by rfl) S_Stretch.m c_Stretch_init.b .nil pass0 (pa_cons (pe_call c_added.ok (hr.mono (by decide)) (by rfl) c_added.m c_added.kp c_added.b .nil pass0 (pa_cons (pe_fld (pv 0) rfl) (pa_cons (pe_fld (pv 1) rfl) pa_nil))) (pa_cons (pe_call c_added.ok (hr.mono (by decide)) (by rfl) c_added.m c_added.kp c_added.b .nil pass0 (pa_cons (pe_fld (pv 0) rfl) (pa_cons (pe_fld (pv 1) rfl) pa_nil))) pa_nil))))))), ?_⟩
    refine ⟨u, rfl, u, a, b, _, rfl, hu, fun H1 e1 => ?_⟩
    refine ⟨v, rfl, v, c, d, _, rfl, str_mono _ _ _ e1 hv, fun H2 e2 => ?_⟩
    have e12 := e1.trans e2
    have su := fun {σ' : L2.St} (h : σ'[0]? = some (some u)) => evs_var h (str_mono _ _ _ e12 hu)
    have sv := fun {σ' : L2.St} (h : σ'[1]? = some (some v)) => evs_var h (str_mono _ _ _ e12 hv)
    exact (evs_make (B := 100000) (evn_plus (evn_low S_Stretch (su rfl)) (evn_low S_Stretch (sv rfl))) (evn_plus (evn_high S_Stretch (su rfl)) (evn_high S_Stretch (sv rfl))) (by decide) (by decide) (by decide) (add_le h1 h2)) H2 (Ex.refl H2) _ fun z H3 e3 hz => q z H3 (e12.trans e3) hz
def spProdS (K : PySem.W.Frag) (C : Addr) : Sp := fun vs H Q _ => ∃ u v a b c d, vs = [u, v] ∧ StrAt K C 3000 a b H u ∧ StrAt K C 3000 c d H v ∧ pord a b ≤ 0 ∧ pord c d ≤ 0 ∧ ∀ z lo hi H', Ex H H' → IsLeast lo (prods a b c d) → IsGreat hi (prods a b c d) → StrAt K C 100000 lo hi H' z → Q z H'
theorem evt_ge0 {σ : L2.St} {H : Hp} {te : TE} {n : Int × Int} {B : Nat} (h : EvN K te σ H n B) : EvT (tTest (tOp (rI0 fun i j => .bl (decide (j ≤ i))) (tOp (rIxT K) te (tC (.int 0))) (tC (.int 0)))) σ H (decide (0 ≤ n.1)) := et_test (ev_op (ev_m h) ev_c rv_I0)
theorem evt_le0 {σ : L2.St} {H : Hp} {te : TE} {n : Int × Int} {B : Nat} (h : EvN K te σ H n B) : EvT (tTest (tOp (rI0 fun i j => .bl (decide (i ≤ j))) (tOp (rIxT K) te (tC (.int 0))) (tC (.int 0)))) σ H (decide (n.1 ≤ 0)) := et_test (ev_op (ev_m h) ev_c rv_I0)
theorem ok_product_of {f f1 f2 f3 f4 f5 C_Stretch : Addr} {fd fd1 fd2 fd3 fd4 fd5 : FuncData} (T : Top mg) (S_Stretch : StrC K mg C_Stretch) (M_Stretch : Mk K C_Stretch f3) (F : FnP K "product_of" s_product_of f fd) (c_need_stretch : Cal P w K mg base CX0 1 "need_stretch" ["thing"] (spNeedS K C_Stretch) f1 fd1) (c_multiplied : Cal P w K mg base CX0 1 "multiplied" ["one", "other"] (spTwo K pmul) f2 fd2) (c_Stretch_init : CalI P w K mg base CX0 3 ["self", "low", "high"] (spInit K C_Stretch) f3 fd3)
    (c_lesser : Cal P w K mg base CX0 2 "lesser" ["one", "other"] (spLes K) f4 fd4) (c_greater : Cal P w K mg base CX0 2 "greater" ["one", "other"] (spGre K) f5 fd5) : FnOk P w K mg base CX0 5 f fd ["one", "other"] (spProdS K C_Stretch) := by
  have sc := sc_product_of
  refine ok0 F sc (fun vs H Q E h => ?_) (fun cdv A outer s H vs Q E hr h => ?_)
  · obtain ⟨u, v, a, b, c, d, rfl, _⟩ := h
    rfl
  · obtain ⟨u, v, a, b, c, d, rfl, hu, hv, hab, hcd, q⟩ := h
    refine ⟨_, (pss_cons (ps_expr (pe_call c_need_stretch.ok (hr.mono (by decide)) (by rfl) c_need_stretch.m c_need_stretch.kp c_need_stretch.b .nil pass0 (pa_cons (pv 0) pa_nil)))
    (pss_cons (ps_expr (pe_call c_need_stretch.ok (hr.mono (by decide)) (by rfl) c_need_stretch.m c_need_stretch.kp c_need_stretch.b .nil pass0 (pa_cons (pv 1) pa_nil)))
    (pss_cons (ps_asg (pe_tup (pa_cons (pe_fld (pv 0) rfl) (pa_cons (pe_fld (pv 0) rfl) (pa_cons (pe_fld (pv 1) rfl) (pa_cons (pe_fld (pv 1) rfl) pa_nil))))) (pg_tup rfl (pgs_cons (pg_name (i := 2) sc.nd rfl (.inl rfl)) (pgs_cons (pg_name (i := 3) sc.nd rfl (.inl rfl)) (pgs_cons (pg_name (i := 4) sc.nd rfl (.inl rfl)) (pgs_cons (pg_name (i := 5) sc.nd rfl (.inl rfl)) pgs_nil))))))
    (pss_cons (ps_if (pt_cmpR op_ge (pe_ix ix_tup (pv 2) pe_int (fun _ _ => rfl)) pe_int (nomark _))
      (pss_one (ps_ret (pe_make M_Stretch c_Stretch_init.ok (hr.mono (by decide)) (by rfl) S_Stretch.m c_Stretch_init.b .nil pass0 (pa_cons (pe_call c_multiplied.ok (hr.mono (by decide)) (by rfl) c_multiplied.m c_multiplied.kp c_multiplied.b .nil pass0 (pa_cons (pe_ifExp (pt_cmpR op_ge (pe_ix ix_tup (pv 4) pe_int (fun _ _ => rfl)) pe_int (nomark _)) (pv 2) (pv 3)) (pa_cons (pv 4) pa_nil))) (pa_cons (pe_call c_multiplied.ok (hr.mono (by decide)) (by rfl) c_multiplied.m c_multiplied.kp c_multiplied.b .nil pass0 (pa_cons (pe_ifExp (pt_cmpR op_ge (pe_ix ix_tup (pv 5) pe_int (fun _ _ => rfl)) pe_int (nomark _)) (pv 3) (pv 2)) (pa_cons (pv 5) pa_nil))) pa_nil))))) pss_nil)
    (pss_cons (ps_if (pt_cmpR op_le (pe_ix ix_tup (pv 3) pe_int (fun _ _ => rfl)) pe_int (nomark _))
      (pss_one (ps_ret (pe_make M_Stretch c_Stretch_init.ok (hr.mono (by decide)) (by rfl) S_Stretch.m c_Stretch_init.b .nil pass0 (pa_cons (pe_call c_multiplied.ok (hr.mono (by decide)) (by rfl) c_multiplied.m c_multiplied.kp c_multiplied.b .nil pass0 (pa_cons (pe_ifExp (pt_cmpR op_ge (pe_ix ix_tup (pv 5) pe_int (fun _ _ => rfl)) pe_int (nomark _)) (pv 2) (pv 3)) (pa_cons (pv 5) pa_nil))) (pa_cons (pe_call c_multiplied.ok (hr.mono (by decide)) (by rfl) c_multiplied.m c_multiplied.kp c_multiplied.b .nil pass0 (pa_cons (pe_ifExp (pt_cmpR op_le (pe_ix ix_tup (pv 4) pe_int (fun _ _ => rfl)) pe_int (nomark _)) (pv 2) (pv 3)) (pa_cons (pv 4) pa_nil))) pa_nil))))) pss_nil)
    (pss_cons (ps_if (pt_cmpR op_ge (pe_ix ix_tup (pv 4) pe_int (fun _ _ => rfl)) pe_int (nomark _))
      (pss_one (ps_ret (pe_make M_Stretch c_Stretch_init.ok (hr.mono (by decide)) (by rfl) S_Stretch.m c_Stretch_init.b .nil pass0 (pa_cons (pe_call c_multiplied.ok (hr.mono (by decide)) (by rfl) c_multiplied.m c_multiplied.kp c_multiplied.b .nil pass0 (pa_cons (pv 2) (pa_cons (pv 5) pa_nil))) (pa_cons (pe_call c_multiplied.ok (hr.mono (by decide)) (by rfl) c_multiplied.m c_multiplied.kp c_multiplied.b .nil pass0 (pa_cons (pv 3) (pa_cons (pv 5) pa_nil))) pa_nil))))) pss_nil)
    (pss_cons (ps_if (pt_cmpR op_le (pe_ix ix_tup (pv 5) pe_int (fun _ _ => rfl)) pe_int (nomark _))
      (pss_one (ps_ret (pe_make M_Stretch c_Stretch_init.ok (hr.mono (by decide)) (by rfl) S_Stretch.m c_Stretch_init.b .nil pass0 (pa_cons (pe_call c_multiplied.ok (hr.mono (by decide)) (by rfl) c_multiplied.m c_multiplied.kp c_multiplied.b .nil pass0 (pa_cons (pv 3) (pa_cons (pv 4) pa_nil))) (pa_cons (pe_call c_multiplied.ok (hr.mono (by decide)) (by rfl) c_multiplied.m c_multiplied.kp c_multiplied.b .nil pass0 (pa_cons (pv 2) (pa_cons (pv 4) pa_nil))) pa_nil))))) pss_nil)
    (pss_one (ps_ret (pe_make M_Stretch c_Stretch_init.ok (hr.mono (by decide)) (by rfl) S_Stretch.m c_Stretch_init.b .nil pass0 (pa_cons (pe_call c_lesser.ok (hr.mono (by decide)) (by rfl) c_lesser.m c_lesser.kp c_lesser.b .nil pass0 (pa_cons (pe_call c_multiplied.ok (hr.mono (by decide)) (by rfl) c_multiplied.m c_multiplied.kp c_multiplied.b .nil pass0 (pa_cons (pv 2) (pa_cons (pv 5) pa_nil))) (pa_cons (pe_call c_multiplied.ok (hr.mono (by decide)) (by rfl) c_multiplied.m c_multiplied.kp c_multiplied.b .nil pass0 (pa_cons (pv 3) (pa_cons (pv 4) pa_nil))) pa_nil))) (pa_cons (pe_call c_greater.ok (hr.mono (by decide)) (by rfl) c_greater.m c_greater.kp c_greater.b .nil pass0 (pa_cons (pe_call c_multiplied.ok (hr.mono (by decide)) (by rfl) c_multiplied.m c_multiplied.kp c_multiplied.b .nil pass0 (pa_cons (pv 2) (pa_cons (pv 4) pa_nil))) (pa_cons (pe_call c_multiplied.ok (hr.mono (by decide)) (by rfl) c_multiplied.m c_multiplied.kp c_multiplied.b .nil pass0 (pa_cons (pv 3) (pa_cons (pv 5) pa_nil))) pa_nil))) pa_nil)))))))))))), ?_⟩
    refine ⟨u, rfl, u, a, b, _, rfl, hu, fun H1 e1 => ?_⟩
    refine ⟨v, rfl, v, c, d, _, rfl, str_mono _ _ _ e1 hv, fun H2 e2 => ?_⟩
    have e12 := e1.trans e2
    obtain ⟨x, dx, wa, wb, rfl, hx, ga, gb⟩ := str_mono _ _ _ e12 hu
    obtain ⟨y, dy, wc, wd, rfl, hy, gc, gd⟩ := str_mono _ _ _ e12 hv
    refine ⟨.ref x, rfl, x, C_Stretch, dx, _, wa, rfl, hx, S_Stretch.cl, S_Stretch.nl, rfl, .ref x, rfl, x, C_Stretch, dx, _, wb, rfl, hx, S_Stretch.cl, S_Stretch.nh, by rfl, .ref y, rfl, y, C_Stretch, dy, _, wc, rfl, hy, S_Stretch.cl, S_Stretch.nl, rfl, .ref y, rfl, y, C_Stretch, dy, _, wd, rfl, hy, S_Stretch.cl, S_Stretch.nh, by rfl, by show 4 ≤ sizeLine; decide, fun p hp => ?_⟩
    refine ⟨p, [wa, wb, wc, wd], rfl, st_of upd_same, rfl, wa, [wb, wc, wd], rfl, wb, [wc, wd], rfl, wc, [wd], rfl, wd, [], rfl, rfl, ?_⟩
    have e3 := e12.trans (Ex.new (o := .tup [wa, wb, wc, wd]) hp)
    have ga := ga.ex (Ex.new (o := .tup [wa, wb, wc, wd]) hp)
    have gb := gb.ex (Ex.new (o := .tup [wa, wb, wc, wd]) hp)
    have gc := gc.ex (Ex.new (o := .tup [wa, wb, wc, wd]) hp)
    have gd := gd.ex (Ex.new (o := .tup [wa, wb, wc, wd]) hp)
    generalize upd H2 p (.tup [wa, wb, wc, wd]) = H3 at *
    have na : ∀ {H' : Hp}, Ex H3 H' → EvN K (tVar 2) [some (.ref x), some (.ref y), some wa, some wb, some wc, some wd] H' a 3000 := fun e => evn_var rfl (ga.ex e)
    have nb : ∀ {H' : Hp}, Ex H3 H' → EvN K (tVar 3) [some (.ref x), some (.ref y), some wa, some wb, some wc, some wd] H' b 3000 := fun e => evn_var rfl (gb.ex e)
    have nc : ∀ {H' : Hp}, Ex H3 H' → EvN K (tVar 4) [some (.ref x), some (.ref y), some wa, some wb, some wc, some wd] H' c 3000 := fun e => evn_var rfl (gc.ex e)
    have nd : ∀ {H' : Hp}, Ex H3 H' → EvN K (tVar 5) [some (.ref x), some (.ref y), some wa, some wb, some wc, some wd] H' d 3000 := fun e => evn_var rfl (gd.ex e)
    have fin : ∀ {H' : Hp} {ta tb : TE} {lo hi : Int × Int} {D : Ends}, D.rt = Q → Ex H3 H' → EvN K ta [some (.ref x), some (.ref y), some wa, some wb, some wc, some wd] H' lo 24000 → EvN K tb [some (.ref x), some (.ref y), some wa, some wb, some wc, some wd] H' hi 24000 → IsLeast lo (prods a b c d) ∧ IsGreat hi (prods a b c d) →
        tRet (tMake C_Stretch (spInit K C_Stretch) [] E0 (tCons ta (tCons tb tNil))) D [some (.ref x), some (.ref y), some wa, some wb, some wc, some wd] H' := fun {H' ta tb lo hi D} hD e hl hh hm =>
      o_ret ((evs_make (B := 100000) hl hh (by decide) (by decide) (by decide) (least_le_great hm.1 hm.2)) H' (Ex.refl H') _ fun z H4 e4 hz => by rw [hD]; exact q z lo hi H4 ((e3.trans e).trans e4) hm.1 hm.2 hz)
    refine q_when (evt_ge0 (na (Ex.refl H3))) (fun z H4 e4 => ?_) (fun z H4 e4 => ?_)
    · exact fin rfl e4 (evn_times (evn_if (evt_ge0 (nc e4)) (na e4) (nb e4)) (nc e4)) (evn_times (evn_if (evt_ge0 (nd e4)) (nb e4) (na e4)) (nd e4)) (ends_a hab hcd (of_decide_eq_true z))
    have sa := of_decide_eq_false z
    refine q_when (evt_le0 (nb e4)) (fun z H5 e5 => ?_) (fun z H5 e5 => ?_)
    · have e45 := e4.trans e5
      exact fin rfl e45 (evn_times (evn_if (evt_ge0 (nd e45)) (na e45) (nb e45)) (nd e45)) (evn_times (evn_if (evt_le0 (nc e45)) (na e45) (nb e45)) (nc e45)) (ends_b hab hcd (of_decide_eq_true z))
    have sb := of_decide_eq_false z
    have e45 := e4.trans e5
    refine q_when (evt_ge0 (nc e45)) (fun z H6 e6 => ?_) (fun z H6 e6 => ?_)
    · have e46 := e45.trans e6
      exact fin rfl e46 (evn_times (na e46) (nd e46)) (evn_times (nb e46) (nd e46)) (ends_c hab hcd (by omega) (by omega) (of_decide_eq_true z))
    have s_c := of_decide_eq_false z
    have e46 := e45.trans e6
    refine q_when (evt_le0 (nd e46)) (fun z H7 e7 => ?_) (fun z H7 e7 => ?_)
    · have e47 := e46.trans e7
      exact fin rfl e47 (evn_times (nb e47) (nc e47)) (evn_times (na e47) (nc e47)) (ends_d hab hcd (by omega) (by omega) (of_decide_eq_true z))
    have s_d := of_decide_eq_false z
    have e47 := e46.trans e7
    exact fin rfl e47 (evn_les (evn_times (na e47) (nd e47)) (evn_times (nb e47) (nc e47))) (evn_gre (evn_times (na e47) (nc e47)) (evn_times (nb e47) (nd e47))) (ends_e hab hcd (by omega) (by omega) (by omega) (by omega))
theorem ok_law_mixed {f : Addr} {fd : FuncData} (T : Top mg) (F : FnP K "_law_mixed" s_law_mixed f fd) : FnOk P w K mg base CX0 1 f fd ["_law_cell_here", "_law_k"] spMix := by
  have sc := sc_law_mixed
  refine ok0 F sc (fun vs H Q E h => ?_) (fun cdv A outer s H vs Q E hr h => ?_)
  · obtain ⟨a, k, rfl, _⟩ := h
    rfl
  · obtain ⟨a, k, rfl, q⟩ := h
    refine ⟨_, (pss_cons (ps_set (i := 2) sc.nd rfl (.inl rfl) (pe_op op_mod (pe_op op_add (pe_op op_add (pe_op op_mul (pe_op op_mod (pv 0) pe_int) pe_int) (pe_op op_mul (pv 1) pe_int)) pe_int) pe_int))
    (pss_cons (ps_set (i := 2) sc.nd rfl (.inl rfl) (pe_op op_mod (pe_op op_mul (pv 2) (pv 2)) pe_int))
    (pss_one (ps_ret (pe_op op_mod (pe_op op_mul (pv 2) (pe_op op_add (pv 2) pe_int)) pe_int))))), ?_⟩
    have b1 : ∀ z : Int, 0 ≤ z % 2147483629 ∧ z % 2147483629 < 2147483629 := fun z => ⟨Int.emod_nonneg z (by decide), Int.emod_lt_of_pos z (by decide)⟩
    have b2 : ∀ z : Int, 0 ≤ z % 2147483587 ∧ z % 2147483587 < 2147483587 := fun z => ⟨Int.emod_nonneg z (by decide), Int.emod_lt_of_pos z (by decide)⟩
    refine ⟨.int a, rfl, a, 2147483647, rfl, rfl, by show (0 : Int) < _; decide, _, 48271, rfl, rfl, .inr ⟨by decide, by decide⟩, .int k, rfl, k, 69621, rfl, rfl, .inr ⟨by decide, by decide⟩, _, _, rfl, rfl, _, 1048583, rfl, rfl, _, 2147483629, rfl, rfl, by show (0 : Int) < _; decide, ?_⟩
    refine ⟨_, rfl, _, rfl, _, _, rfl, rfl, .inl ⟨?_, ?_⟩, _, 2147483587, rfl, rfl, by show (0 : Int) < _; decide, ?_⟩
    · have := b1 (a % 2147483647 * 48271 + k * 69621 + 1048583)
      omega
    · have := b1 (a % 2147483647 * 48271 + k * 69621 + 1048583)
      omega
    · refine ⟨_, rfl, _, rfl, _, 2, rfl, rfl, _, _, rfl, rfl, .inl ⟨?_, ?_⟩, _, 2147483579, rfl, rfl, by show (0 : Int) < _; decide, q _⟩
      · have := b2 ((a % 2147483647 * 48271 + k * 69621 + 1048583) % 2147483629 * ((a % 2147483647 * 48271 + k * 69621 + 1048583) % 2147483629))
        omega
      · have := b2 ((a % 2147483647 * 48271 + k * 69621 + 1048583) % 2147483629 * ((a % 2147483647 * 48271 + k * 69621 + 1048583) % 2147483629))
        omega
theorem ok_law_cell {f f1 : Addr} {fd fd1 : FuncData} (T : Top mg) (F : FnP K "_law_cell" s_law_cell f fd) (c_law_mixed : Cal P w K mg base CX0 1 "_law_mixed" ["_law_cell_here", "_law_k"] spMix f1 fd1) : FnOk P w K mg base CX0 2 f fd ["_law_script", "_law_k"] (spCel K) := by
  have sc := sc_law_cell
  refine ok0 F sc (fun vs H Q E h => ?_) (fun cdv A outer s H vs Q E hr h => ?_)
  · obtain ⟨a, ns, k, rfl, _⟩ := h
    rfl
  · obtain ⟨a, ns, k, rfl, hS, h0, h1, q⟩ := h
    refine ⟨_, (pss_cons (ps_set (i := 2) sc.nd rfl (.inl rfl) pe_int)
    (pss_cut (ps_if (pt_cmpR op_lt (pv 1) (pe_callB call_len (by rfl) T.len (by decide +kernel) (pa_cons (pv 0) pa_nil)) (nomark _))
      (pss_one (ps_set (i := 2) sc.nd rfl (.inl rfl) (pe_ix ix_list (pv 0) (pv 1) (fun _ _ => rfl)))) pss_nil)
    (pss_cons (ps_if (pt_cmpR op_ge (pv 2) (pe_op op_pow pe_int pe_int) (nomark _))
      (pss_one (ps_ret (pe_op op_mod (pe_op op_sub (pv 2) (pe_op op_pow pe_int pe_int)) (pe_op op_mulX (pe_op op_mulX (pe_op op_mulX (pe_op op_pow pe_int pe_int) (pe_op op_pow pe_int pe_int)) (pe_op op_pow pe_int pe_int)) (pe_op op_pow pe_int pe_int))))) pss_nil)
    (pss_cons (ps_set (i := 3) sc.nd rfl (.inl rfl) pe_int)
    (pss_cons (ps_for PassesOwn.never rfl (pi_range1 (by rfl) T.range (pa_cons pe_int pa_nil)) (pg_name (i := 4) sc.nd rfl (.inl rfl))
      (pss_one (ps_set (i := 3) sc.nd rfl (.inl rfl) (pe_op op_add (pe_op op_mul (pv 3) pe_int) (pe_call c_law_mixed.ok (hr.mono (by decide)) (by rfl) c_law_mixed.m c_law_mixed.kp c_law_mixed.b .nil pass0 (pa_cons (pv 2) (pa_cons (pe_op op_add (pe_op op_add (pe_op op_mul pe_int (pv 1)) (pe_op op_mul pe_int (pv 4))) (pe_op op_mul (pv 4) (pv 4))) pa_nil)))))))
    (pss_one (ps_ret (pv 3)))))))), ?_⟩
    refine ⟨fun σ' H' => H' = H ∧ ∃ c : Int, σ' = [some (.ref a), some (.int k), some (.int c), none, none], ?_, fun σ' H' hm => ?_⟩
    · refine ⟨.int k, rfl, .ref a, rfl, _, (ns.map V.int).length, rfl, .inl ⟨_, hS, rfl⟩, k, _, rfl, rfl, _, rfl, ite2 (fun hk => ?_) (fun hk => ?_)⟩
      · have hk2 : k < ((ns.map V.int).length : Int) := of_decide_eq_true hk
        rw [List.length_map] at hk2
        obtain ⟨j, rfl⟩ : ∃ j : Nat, k = (j : Int) := ⟨k.toNat, by omega⟩
        have hj : j < ns.length := by omega
        have ha : atI (ns.map V.int) ((j : Nat) : Int) = some (.int ns[j]) := atI_nat (by rw [List.getElem?_map, List.getElem?_eq_getElem hj]; rfl)
        exact ⟨.ref a, rfl, .int (j : Nat), rfl, a, _, _, _, rfl, rfl, hS, ha, rfl, _, rfl⟩
      · exact ⟨rfl, 0, rfl⟩
    · obtain ⟨rfl, c, rfl⟩ := hm
      refine ⟨.int c, rfl, 10, 18, rfl, rfl, ⟨by decide, by decide, by decide⟩, c, _, rfl, rfl, _, rfl, ite2 (fun _ => ?_) (fun _ => ?_)⟩
      · refine ⟨.int c, rfl, 10, 18, rfl, rfl, ⟨by decide, by decide, by decide⟩, c, _, rfl, rfl, 10, 60, rfl, rfl, ⟨by decide, by decide, by decide⟩, 10, 60, rfl, rfl, ⟨by decide, by decide, by decide⟩, _, _, rfl, rfl, by show CMulX _ _; unfold CMulX; decide +kernel,
          10, 60, rfl, rfl, ⟨by decide, by decide, by decide⟩, _, _, rfl, rfl, by show CMulX _ _; unfold CMulX; decide +kernel, 10, 60, rfl, rfl, ⟨by decide, by decide, by decide⟩, _, _, rfl, rfl, by show CMulX _ _; unfold CMulX; decide +kernel, _, _, rfl, rfl, by show (0 : Int) < _; decide +kernel, q _⟩
      · refine ⟨24, rfl, by decide, by decide, for_range (lo := 0) (n := 24) (fun _ σ' H'' => H'' = H' ∧ ∃ z t, σ' = [some (.ref a), some (.int k), some (.int c), some (.int z), t]) ⟨rfl, 0, none, rfl⟩ (fun i σ' H'' hi hp => ?_) (fun σ' H'' hp => ?_)⟩
        · obtain ⟨rfl, z, t, rfl⟩ := hp
          refine ⟨.int z, rfl, z, 2147483579, rfl, rfl, .inr ⟨by decide, by decide⟩, .int c, rfl, .int k, rfl, 7, k, rfl, rfl, .inl ⟨by decide, by decide⟩, .int (0 + (i : Int)), rfl, 100, _, rfl, rfl, .inl ⟨by decide, by decide⟩, _, _, rfl, rfl, .int (0 + (i : Int)), rfl, .int (0 + (i : Int)), rfl, _, _, rfl, rfl, .inl ⟨by omega, by omega⟩, _, _, rfl, rfl, c, _, rfl, fun y => ⟨_, _, rfl, rfl, rfl, _, _, rfl⟩⟩
        · obtain ⟨rfl, z, t, rfl⟩ := hp
          exact ⟨.int z, rfl, q z⟩
theorem ok_law_take {f : Addr} {fd : FuncData} (T : Top mg) (F : FnP K "_law_take" s_law_take f fd) : FnOk P w K mg base CX0 1 f fd ["_law_pile", "_law_size"] spTake := by
  have sc := sc_law_take
  refine ok0 F sc (fun vs H Q E h => ?_) (fun cdv A outer s H vs Q E hr h => ?_)
  · obtain ⟨p, x, n, rfl, _⟩ := h
    rfl
  · obtain ⟨p, x, n, rfl, hp, h0, h1, q⟩ := h
    refine ⟨_, (pss_cons (ps_set (i := 2) sc.nd rfl (.inl rfl) (pe_op op_mod (pe_ix ix_list (pv 0) pe_int (fun _ _ => rfl)) (pv 1)))
    (pss_cons (ps_asg (pe_op op_fdivW (pe_ix ix_list (pv 0) pe_int (fun _ _ => rfl)) (pv 1)) (pg_sub (pv 0) pe_int set_list))
    (pss_one (ps_ret (pv 2))))), ?_⟩
    refine ⟨.ref p, rfl, p, [.int x], 0, .int x, rfl, rfl, sq_of hp, rfl, .int n, rfl, x, n, rfl, rfl, h0, ?_⟩
    refine ⟨.ref p, rfl, p, [.int x], 0, .int x, rfl, rfl, sq_of hp, rfl, .int n, rfl, x, n, rfl, rfl, ⟨h0, h1⟩, .ref p, rfl, p, [.int x], 0, 0, rfl, rfl, hp, rfl, ?_⟩
    exact ⟨_, rfl, q⟩
theorem ok_law_odd {f : Addr} {fd : FuncData} (T : Top mg) (F : FnP K "_law_odd" s_law_odd f fd) : FnOk P w K mg base CX0 1 f fd ["_law_m", "_law_e"] spNof := by
  have sc := sc_law_odd
  refine ok0 F sc (fun vs H Q E h => ?_) (fun cdv A outer s H vs Q E hr h => ?_)
  · obtain ⟨m, e, rfl, _⟩ := h
    rfl
  · obtain ⟨m, e, rfl, q⟩ := h
    refine ⟨_, (pss_cons (ps_if (pt_cmpR op_eq (pv 0) pe_int (nomark _))
      (pss_one (ps_ret (pe_tup (pa_cons pe_int (pa_cons pe_int pa_nil))))) pss_nil)
    (pss_cons (ps_while PassesOwn.never (pt_cmpR op_eq (pe_op op_mod (pv 0) pe_int) pe_int (nomark _))
      (pss_cons (ps_set (i := 0) sc.nd rfl (.inl rfl) (pe_op op_fdivW (pv 0) pe_int))
      (pss_one (ps_set (i := 1) sc.nd rfl (.inl rfl) (pe_op op_add (pv 1) pe_int)))))
    (pss_one (ps_ret (pe_tup (pa_cons (pv 0) (pa_cons (pv 1) pa_nil))))))), ?_⟩
    refine ⟨.int m, rfl, rfl, _, rfl, ite2 (fun h0 => ?_) (fun h0 => ?_)⟩
    · have e0 : m = 0 := V.int.inj (of_decide_eq_true h0)
      subst e0
      exact ⟨by show 2 ≤ sizeLine; decide, fun p hp => q _ p (Ex.new hp) hp upd_same⟩
    · have e0 : m ≠ 0 := fun z => h0 (decide_eq_true (congrArg V.int z))
      refine q_while (fun n σ' H' => ∃ (m' e' : Int) (j : Nat), σ' = [some (.int m'), some (.int e')] ∧ Ex H H' ∧ m' ≠ 0 ∧ m = 2 ^ j * m' ∧ e' = e + j ∧ n = m'.natAbs) m.natAbs ⟨m, e, 0, rfl, Ex.refl H, e0, by rw [Int.pow_zero, Int.one_mul], by omega, rfl⟩ ?_
      rintro n σ' H' ⟨m', e', j, rfl, ex, hm, hj, he, hn⟩
      refine ⟨_, et_test (ev_op (ev_op (ev_var rfl) ev_c (rv_I (by decide))) ev_c (rv_eq rfl)), fun hb H1 e1 => ?_, fun hb H1 e1 => ?_⟩
      · have h2 : m' % 2 = 0 := V.int.inj (of_decide_eq_true hb)
        refine ⟨_, fun _ _ h => h, ?_⟩
        refine ⟨.int m', rfl, m', 2, rfl, rfl, ⟨by decide, by decide⟩, .int e', rfl, e', 1, rfl, rfl, ?_⟩
        refine ⟨(m' / 2).natAbs, by omega, m' / 2, e' + 1, j + 1, rfl, ex.trans e1, by omega, ?_, by omega, rfl⟩
        rw [Int.pow_succ, Int.mul_assoc, show 2 * (m' / 2) = m' by omega]
        exact hj
      · have h2 : ¬ m' % 2 = 0 := fun z => by
          rw [decide_eq_true (congrArg V.int z)] at hb
          cases hb
        have hm2 : m' = 2 * (m' / 2) + 1 := by omega
        have en : nrm m e = (m', e') := by
          have h3 : m = 2 ^ j * (2 * (m' / 2) + 1) := by rw [← hm2]; exact hj
          rw [nrm_of e h3, ← hm2, he]
        refine ⟨.int m', rfl, .int e', rfl, by show 2 ≤ sizeLine; decide, fun p hp => q _ p ((ex.trans e1).trans (Ex.new hp)) (fresh_back (ex.trans e1) hp) ?_⟩
        rw [upd_same, en]
theorem way5 {w a b c d e : Int} {B : Int} (h0 : 0 ≤ w) (h5 : w < 5) (ha : 0 < a ∧ a ≤ B) (hb : 0 < b ∧ b ≤ B) (hc : 0 < c ∧ c ≤ B) (hd : 0 < d ∧ d ≤ B) (he : 0 < e ∧ e ≤ B) :
    ∃ v : Int, atI [V.int a, V.int b, V.int c, V.int d, V.int e] w = some (.int v) ∧ 0 < v ∧ v ≤ B := by
  rcases (show w = 0 ∨ w = 1 ∨ w = 2 ∨ w = 3 ∨ w = 4 by omega) with rfl | rfl | rfl | rfl | rfl
  · exact ⟨a, rfl, ha⟩
  · exact ⟨b, rfl, hb⟩
  · exact ⟨c, rfl, hc⟩
  · exact ⟨d, rfl, hd⟩
  · exact ⟨e, rfl, he⟩
theorem far5 {w : Int} (h0 : 0 ≤ w) (h5 : w < 5) : ∃ v : Int, atI [V.int 3, V.int 9, V.int 30, V.int 100, V.int 800] w = some (.int v) ∧ 0 < v ∧ v ≤ 800 ∧ (w = 4 → v = 800) := by
  rcases (show w = 0 ∨ w = 1 ∨ w = 2 ∨ w = 3 ∨ w = 4 by omega) with rfl | rfl | rfl | rfl | rfl
  · exact ⟨3, rfl, by decide⟩
  · exact ⟨9, rfl, by decide⟩
  · exact ⟨30, rfl, by decide⟩
  · exact ⟨100, rfl, by decide⟩
  · exact ⟨800, rfl, by decide⟩
theorem ok_law_number {f f1 f2 : Addr} {fd fd1 fd2 : FuncData} (T : Top mg) (F : FnP K "_law_number" s_law_number f fd) (c_law_take : Cal P w K mg base CX0 1 "_law_take" ["_law_pile", "_law_size"] spTake f1 fd1) (c_law_odd : Cal P w K mg base CX0 1 "_law_odd" ["_law_m", "_law_e"] spNof f2 fd2) : FnOk P w K mg base CX0 2 f fd ["_law_pile"] spNumber := by
  have sc := sc_law_number
  refine ok0 F sc (fun vs H Q E h => ?_) (fun cdv A outer s H vs Q E hr h => ?_)
  · obtain ⟨p, x, rfl, _⟩ := h
    rfl
  · obtain ⟨p, x, rfl, hp, q⟩ := h
    refine ⟨_, (pss_cons (ps_set (i := 1) sc.nd rfl (.inl rfl) (pe_call c_law_take.ok (hr.mono (by decide)) (by rfl) c_law_take.m c_law_take.kp c_law_take.b .nil pass0 (pa_cons (pv 0) (pa_cons pe_int pa_nil))))
    (pss_cons (ps_set (i := 2) sc.nd rfl (.inl rfl) (pe_ix ix_list (pe_lst (pa_cons pe_int (pa_cons pe_int (pa_cons (pe_op op_pow pe_int pe_int) (pa_cons (pe_op op_pow pe_int pe_int) (pa_cons (pe_op op_shlW pe_int pe_int) pa_nil)))))) (pv 1) (fun _ _ => rfl)))
    (pss_cons (ps_set (i := 3) sc.nd rfl (.inl rfl) (pe_ix ix_list (pe_lst (pa_cons pe_int (pa_cons pe_int (pa_cons pe_int (pa_cons pe_int (pa_cons pe_int pa_nil)))))) (pv 1) (fun _ _ => rfl)))
    (pss_cons (ps_set (i := 4) sc.nd rfl (.inl rfl) (pe_op op_add (pe_op op_sub (pe_call c_law_take.ok (hr.mono (by decide)) (by rfl) c_law_take.m c_law_take.kp c_law_take.b .nil pass0 (pa_cons (pv 0) (pa_cons (pe_op op_mul pe_int (pv 2)) pa_nil))) (pv 2)) pe_int))
    (pss_one (ps_ret (pe_call c_law_odd.ok (hr.mono (by decide)) (by rfl) c_law_odd.m c_law_odd.kp c_law_odd.b .nil pass0 (pa_cons (pv 4) (pa_cons (pe_op op_sub (pe_call c_law_take.ok (hr.mono (by decide)) (by rfl) c_law_take.m c_law_take.kp c_law_take.b .nil pass0 (pa_cons (pv 0) (pa_cons (pe_op op_sub (pe_op op_mul pe_int (pv 3)) (pe_op op_mul pe_int (pe_callTy call_int1 (by rfl) T.ty_int (by decide +kernel) (pa_cons (pe_cmpR op_eq (pv 1) pe_int (nomark _)) pa_nil)))) pa_nil))) (pv 3)) pa_nil))))))))), ?_⟩
    have w0 : 0 ≤ x % 5 := Int.emod_nonneg x (by decide)
    have w5 : x % 5 < 5 := Int.emod_lt_of_pos x (by decide)
    refine ⟨.ref p, rfl, p, x, 5, rfl, hp, by decide, by decide, ?_⟩
    obtain ⟨most, am, m0, mB⟩ := way5 (a := 8) (b := 64) (c := 2 ^ (20 : Int).toNat) (d := 2 ^ (60 : Int).toNat) (e := 1 * 2 ^ (200 : Int).toNat) (B := 2 ^ 200) w0 w5 (by decide +kernel) (by decide +kernel) (by decide +kernel) (by decide +kernel) (by decide +kernel)
    obtain ⟨far, af, f0, fB, f4⟩ := far5 w0 w5
    refine ⟨2, 20, rfl, rfl, ⟨by decide, by decide, by decide⟩, 2, 60, rfl, rfl, ⟨by decide, by decide, by decide⟩, 1, 200, rfl, rfl, ⟨by decide, by decide +kernel⟩, by show 5 ≤ sizeLine; decide, fun l1 hl1 => ?_⟩
    have np1 : p ≠ l1 := fun z => by
      rw [← z, upd_same] at hl1
      cases hl1
    refine ⟨.int (x % 5), rfl, l1, _, _, _, rfl, rfl, sq_of upd_same, am, ?_⟩
    refine ⟨by show 5 ≤ sizeLine; decide, fun l2 hl2 => ?_⟩
    have np2 : p ≠ l2 := fun z => by
      rw [← z, upd_ne np1, upd_same] at hl2
      cases hl2
    refine ⟨.int (x % 5), rfl, l2, _, _, _, rfl, rfl, sq_of upd_same, af, ?_⟩
    have s2 : (0 : Int) < 2 * most := by omega
    have b2 : (2 * most).natAbs.log2 < 9000 := log_small (k := 201) s2 (by have e : (2 : Int) ^ 201 = 2 ^ 200 * 2 := Int.pow_succ ..; omega) (by decide)
    refine ⟨.ref p, rfl, .int most, rfl, 2, most, rfl, rfl, .inl ⟨by decide, by decide⟩, p, x / 5, 2 * most, rfl, ?_, s2, b2, ?_⟩
    · rw [upd_ne np2, upd_ne np1, upd_same]
    have y0 : 0 ≤ x / 5 % (2 * most) := Int.emod_nonneg _ (by omega)
    have y1 : x / 5 % (2 * most) < 2 * most := Int.emod_lt_of_pos _ s2
    refine ⟨.int most, rfl, _, most, rfl, rfl, _, 1, rfl, rfl, ?_⟩
    obtain ⟨m, hm⟩ : ∃ m : Int, m = x / 5 % (2 * most) - most + 1 := ⟨_, rfl⟩
    have mabs : m.natAbs ≤ 2 ^ 200 := by
      have e : ((2 ^ 200 : Nat) : Int) = 2 ^ 200 := pow_two_cast 200
      omega
    refine ⟨.int m, by rw [hm]; rfl, .ref p, rfl, .int far, rfl, 2, far, rfl, rfl, .inl ⟨by decide, by decide⟩, .int (x % 5), rfl, rfl, .inr ⟨_, rfl, 200, _, rfl, rfl, .inl ⟨by decide, by decide⟩, _, _, rfl, rfl, ?_⟩⟩
    have s3 : (0 : Int) < 2 * far - 200 * (if decide (V.int (x % 5) = V.int 4) = true then 1 else 0) ∧ 2 * far - 200 * (if decide (V.int (x % 5) = V.int 4) = true then 1 else 0) ≤ 1600 := by
      by_cases z : x % 5 = 4
      · rw [if_pos (decide_eq_true (congrArg V.int z)), f4 z]
        decide
      · rw [if_neg (fun y => z (V.int.inj (of_decide_eq_true y)))]
        omega
    obtain ⟨sz, hsz⟩ : ∃ sz : Int, sz = 2 * far - 200 * (if decide (V.int (x % 5) = V.int 4) = true then 1 else 0) := ⟨_, rfl⟩
    rw [← hsz] at s3
    refine ⟨p, x / 5 / (2 * most), sz, by rw [hsz]; rfl, upd_same, s3.1, log_small (k := 11) s3.1 (by omega) (by decide), .int far, rfl, _, far, rfl, rfl, m, _, rfl, fun H' r ex nr hr => ?_⟩
    have z0 : 0 ≤ x / 5 / (2 * most) % sz := Int.emod_nonneg _ (by omega)
    have z1 : x / 5 / (2 * most) % sz < sz := Int.emod_lt_of_pos _ s3.1
    refine q H' r (x / 5 / (2 * most) / sz) _ _ (fun b o hb hbp => ex b o ?_) (ex p _ upd_same) ?_ hr (nrm_num _ _) ?_ ?_
    · rw [upd_ne hbp, upd_ne hbp, upd_ne (ne_of_none hb ?_), upd_ne (ne_of_none hb ?_), upd_ne hbp]
      · exact hb
      · cases hz : H l1 with
        | none => rfl
        | some o =>
          rw [upd_ne (Ne.symm np1), hz] at hl1
          cases hl1
      · cases hz : H l2 with
        | none => rfl
        | some o =>
          by_cases z : l2 = l1
          · rw [z, upd_same] at hl2
            cases hl2
          · rw [upd_ne z, upd_ne (Ne.symm np2), hz] at hl2
            cases hl2
    · cases hz : H r with
      | none => rfl
      | some o =>
        by_cases y1 : r = p
        · rw [y1, upd_same] at nr
          cases nr
        · rw [upd_ne y1, upd_ne y1] at nr
          by_cases y2 : r = l2
          · rw [y2, upd_same] at nr
            cases nr
          · rw [upd_ne y2] at nr
            by_cases y3 : r = l1
            · rw [y3, upd_same] at nr
              cases nr
            · rw [upd_ne y3, upd_ne y1, hz] at nr
              cases nr
    · exact Nat.lt_of_le_of_lt (Nat.le_trans (nrm_abs _ _) mabs) (by decide +kernel)
    · have h1 := nrm_exp (m := m) (e := x / 5 / (2 * most) % sz - far) (k := 201) (Nat.lt_of_le_of_lt mabs (by decide +kernel))
      omega
theorem ok_law_at {f : Addr} {fd : FuncData} (T : Top mg) (F : FnP K "_law_at" s_law_at f fd) : FnOk P w K mg base CX0 1 f fd ["_law_number_here", "_law_e"] (spFloor K) := by
  have sc := sc_law_at
  refine ok0 F sc (fun vs H Q E h => ?_) (fun cdv A outer s H vs Q E hr h => ?_)
  · obtain ⟨v, n, E, rfl, _⟩ := h
    rfl
  · obtain ⟨v, n, E, rfl, ⟨a, rfl, ha⟩, hE, hb, hE2, q⟩ := h
    refine ⟨_, (pss_one (ps_ret (pe_op op_shlW (pe_ix ix_tup (pv 0) pe_int (fun _ _ => rfl)) (pe_op op_sub (pe_ix ix_tup (pv 0) pe_int (fun _ _ => rfl)) (pv 1))))), ?_⟩
    have hb1 := hb.1
    have hb2 := hb.2
    refine ⟨.ref a, rfl, a, [.int n.1, .int n.2], 0, .int n.1, rfl, rfl, ha, rfl, .ref a, rfl, a, [.int n.1, .int n.2], 1, .int n.2, rfl, rfl, ha, rfl, .int E, rfl, n.2, E, rfl, rfl, n.1, _, rfl, rfl, ?_, q⟩
    have hs : n.2 - E = ((n.2 - E).toNat : Int) := by omega
    show CShl n.1 (n.2 - E)
    rw [hs]
    exact shl_ok hb1 (by unfold LIM at *; omega)
def spCmp (K : PySem.W.Frag) : Sp := fun vs H Q _ => ∃ u v a b, vs = [u, v] ∧ Gn K H u a LIM ∧ Gn K H v b LIM ∧ Q (.int (pord a b)) H
theorem min_if (x y : Int) : (if y < x then y else x) = min x y := by
  by_cases z : y < x
  · rw [if_pos z]
    omega
  · rw [if_neg z]
    omega
theorem ok_law_compared {f f1 : Addr} {fd fd1 : FuncData} (T : Top mg) (F : FnP K "_law_compared" s_law_compared f fd) (c_law_at : Cal P w K mg base CX0 1 "_law_at" ["_law_number_here", "_law_e"] (spFloor K) f1 fd1) : FnOk P w K mg base CX0 2 f fd ["_law_one_own", "_law_other_own"] (spCmp K) := by
  have sc := sc_law_compared
  refine ok0 F sc (fun vs H Q E h => ?_) (fun cdv A outer s H vs Q E hr h => ?_)
  · obtain ⟨u, v, a, b, rfl, _⟩ := h
    rfl
  · obtain ⟨u, v, a, b, rfl, ga, gb, q⟩ := h
    refine ⟨_, (pss_cons (ps_set (i := 2) sc.nd rfl (.inl rfl) (pe_callB (call_min2 rfl) (by rfl) T.min (by decide +kernel) (pa_cons (pe_ix ix_tup (pv 0) pe_int (fun _ _ => rfl)) (pa_cons (pe_ix ix_tup (pv 1) pe_int (fun _ _ => rfl)) pa_nil))))
    (pss_cons (ps_set (i := 3) sc.nd rfl (.inl rfl) (pe_call c_law_at.ok (hr.mono (by decide)) (by rfl) c_law_at.m c_law_at.kp c_law_at.b .nil pass0 (pa_cons (pv 0) (pa_cons (pv 2) pa_nil))))
    (pss_cons (ps_set (i := 4) sc.nd rfl (.inl rfl) (pe_call c_law_at.ok (hr.mono (by decide)) (by rfl) c_law_at.m c_law_at.kp c_law_at.b .nil pass0 (pa_cons (pv 1) (pa_cons (pv 2) pa_nil))))
    (pss_one (ps_ret (pe_op op_sub (pe_callTy call_int1 (by rfl) T.ty_int (by decide +kernel) (pa_cons (pe_cmpR op_gt (pv 3) (pv 4) (nomark _)) pa_nil)) (pe_callTy call_int1 (by rfl) T.ty_int (by decide +kernel) (pa_cons (pe_cmpR op_lt (pv 3) (pv 4) (nomark _)) pa_nil)))))))), ?_⟩
    obtain ⟨p, rfl, hp⟩ := ga.at_
    obtain ⟨r, rfl, hr2⟩ := gb.at_
    have ba := ga.bd.2
    have bb := gb.bd.2
    refine ⟨.ref p, rfl, p, [.int a.1, .int a.2], 1, .int a.2, rfl, rfl, hp, rfl, .ref r, rfl, r, [.int b.1, .int b.2], 1, .int b.2, rfl, rfl, hr2, rfl, a.2, b.2, rfl, ?_⟩
    rw [min_if]
    refine ⟨.ref p, rfl, .int (min a.2 b.2), rfl, .ref p, a, _, rfl, ⟨p, rfl, hp⟩, by omega, ga.bd, by omega, ?_⟩
    refine ⟨.ref r, rfl, .int (min a.2 b.2), rfl, .ref r, b, _, rfl, ⟨r, rfl, hr2⟩, by omega, gb.bd, by omega, ?_⟩
    have q2 : Q (.int ((if decide (at_ b (min a.2 b.2) < at_ a (min a.2 b.2)) = true then (1 : Int) else 0) - (if decide (at_ a (min a.2 b.2) < at_ b (min a.2 b.2)) = true then 1 else 0))) H := by
      rw [cmp_sgn]
      exact q
    exact ⟨_, rfl, _, rfl, _, _, rfl, rfl, .inr ⟨_, rfl, _, rfl, _, rfl, _, _, rfl, rfl, .inr ⟨_, rfl, _, _, rfl, rfl, q2⟩⟩⟩
def spPair (K : PySem.W.Frag) : Sp := fun vs H Q _ => ∃ (p : Addr) (x : Int), vs = [.ref p] ∧ H p = some (.lst [.int x]) ∧ ∀ z H' (x' : Int) a b, Keeps p H H' → H' p = some (.lst [.int x']) → PairAt K 2300 a b H' z → pord a b ≤ 0 → Q z H'
theorem ok_law_pair {f f1 f2 f3 f4 : Addr} {fd fd1 fd2 fd3 fd4 : FuncData} (T : Top mg) (F : FnP K "_law_pair" s_law_pair f fd) (c_law_number : Cal P w K mg base CX0 2 "_law_number" ["_law_pile"] spNumber f1 fd1) (c_law_take : Cal P w K mg base CX0 1 "_law_take" ["_law_pile", "_law_size"] spTake f2 fd2) (c_law_odd : Cal P w K mg base CX0 1 "_law_odd" ["_law_m", "_law_e"] spNof f3 fd3) (c_law_compared : Cal P w K mg base CX0 2 "_law_compared" ["_law_one_own", "_law_other_own"] (spCmp K) f4 fd4) : FnOk P w K mg base CX0 3 f fd ["_law_pile"] (spPair K) := by
  have sc := sc_law_pair
  refine ok0 F sc (fun vs H Q E h => ?_) (fun cdv A outer s H vs Q E hr h => ?_)
  · obtain ⟨p, x, rfl, _⟩ := h
    rfl
  · obtain ⟨p, x, rfl, hp, q⟩ := h
    refine ⟨_, (pss_cons (ps_set (i := 1) sc.nd rfl (.inl rfl) (pe_call c_law_number.ok (hr.mono (by decide)) (by rfl) c_law_number.m c_law_number.kp c_law_number.b .nil pass0 (pa_cons (pv 0) pa_nil)))
    (pss_cons (ps_set (i := 2) sc.nd rfl (.inl rfl) (pe_call c_law_number.ok (hr.mono (by decide)) (by rfl) c_law_number.m c_law_number.kp c_law_number.b .nil pass0 (pa_cons (pv 0) pa_nil)))
    (pss_cut (ps_if (PW.pt (pw_and (pt_cmpR op_eq (pe_call c_law_take.ok (hr.mono (by decide)) (by rfl) c_law_take.m c_law_take.kp c_law_take.b .nil pass0 (pa_cons (pv 0) (pa_cons pe_int pa_nil))) pe_int (nomark _)) (pw_and1 (pt_cmpR op_gt (pe_ix ix_tup (pv 1) pe_int (fun _ _ => rfl)) (pe_op op_sub pe_int pe_int) (nomark _)))))
      (pss_one (ps_set (i := 2) sc.nd rfl (.inl rfl) (pe_call c_law_odd.ok (hr.mono (by decide)) (by rfl) c_law_odd.m c_law_odd.kp c_law_odd.b .nil pass0 (pa_cons (pe_op op_add (pe_op op_mul (pe_ix ix_tup (pv 1) pe_int (fun _ _ => rfl)) pe_int) (pe_call c_law_take.ok (hr.mono (by decide)) (by rfl) c_law_take.m c_law_take.kp c_law_take.b .nil pass0 (pa_cons (pv 0) (pa_cons pe_int pa_nil)))) (pa_cons (pe_op op_sub (pe_ix ix_tup (pv 1) pe_int (fun _ _ => rfl)) pe_int) pa_nil))))) pss_nil)
    (pss_cons (ps_if (pt_cmpR op_gt (pe_call c_law_compared.ok (hr.mono (by decide)) (by rfl) c_law_compared.m c_law_compared.kp c_law_compared.b .nil pass0 (pa_cons (pv 1) (pa_cons (pv 2) pa_nil))) pe_int (nomark _))
      (pss_one (ps_ret (pe_tup (pa_cons (pv 2) (pa_cons (pv 1) pa_nil))))) pss_nil)
    (pss_one (ps_ret (pe_tup (pa_cons (pv 1) (pa_cons (pv 2) pa_nil))))))))), ?_⟩
    refine ⟨.ref p, rfl, p, x, rfl, hp, fun H1 r1 x1 m1 e1 k1 hp1 nr1 hr1 hn1 hm1 he1 => ?_⟩
    refine ⟨.ref p, rfl, p, x1, rfl, hp1, fun H2 r2 x2 m2 e2 k2 hp2 nr2 hr2 hn2 hm2 he2 => ?_⟩
    have rp1 : r1 ≠ p := ne_of hr1 hp1 (by intro z; cases z)
    have rp2 : r2 ≠ p := ne_of hr2 hp2 (by intro z; cases z)
    have hr12 : H2 r1 = some (.tup [.int m1, .int e1]) := k2 _ _ hr1 rp1
    have b1 : Bd (m1, e1) 2300 := ⟨Nat.lt_of_lt_of_le hm1 (Nat.pow_le_pow_right (by decide) (by decide)), by show e1.natAbs ≤ 2300; omega⟩
    have b2 : Bd (m2, e2) 2300 := ⟨Nat.lt_of_lt_of_le hm2 (Nat.pow_le_pow_right (by decide) (by decide)), by show e2.natAbs ≤ 2300; omega⟩
    have K12 : Keeps p H H2 := Keeps.trans k1 k2
    refine ⟨fun σ' H' => ∃ w n, ∃ x' : Int, σ' = [some (.ref p), some (.ref r1), some w] ∧ Keeps p H H' ∧ H' p = some (.lst [.int x']) ∧ Gn K H' (.ref r1) (m1, e1) 2300 ∧ Gn K H' w n 2300, ?_, ?_⟩
    · have G1 : Gn K (upd H2 p (.lst [.int (x2 / 3)])) (.ref r1) (m1, e1) 2300 := ⟨numAt_of (by rw [upd_ne rp1]; exact hr12), hn1, b1⟩
      have G2 : Gn K (upd H2 p (.lst [.int (x2 / 3)])) (.ref r2) (m2, e2) 2300 := ⟨numAt_of (by rw [upd_ne rp2]; exact hr2), hn2, b2⟩
      refine ⟨.ref p, rfl, p, x2, 3, rfl, hp2, by decide, by decide, rfl, _, rfl, ite2 (fun _ => ?_) (fun _ => ?_)⟩
      · have hr3 : (upd H2 p (.lst [.int (x2 / 3)])) r1 = some (.tup [.int m1, .int e1]) := by
          rw [upd_ne rp1]
          exact hr12
        refine ⟨.ref r1, rfl, r1, [.int m1, .int e1], 1, .int e1, rfl, rfl, st_of hr3, rfl, 0, 797, rfl, rfl, e1, _, rfl, rfl, _, rfl, ite2 (fun _ => ?_) (fun _ => ?_)⟩
        · refine ⟨.ref r1, rfl, r1, [.int m1, .int e1], 0, .int m1, rfl, rfl, st_of hr3, rfl, m1, 8, rfl, rfl, .inr ⟨by decide, by decide⟩, .ref p, rfl, p, x2 / 3, 9, rfl, upd_same, by decide, by decide, _, _, rfl, rfl, ?_⟩
          have hr4 : (upd (upd H2 p (.lst [.int (x2 / 3)])) p (.lst [.int (x2 / 3 / 9)])) r1 = some (.tup [.int m1, .int e1]) := by
            rw [upd_ne rp1]
            exact hr3
          refine ⟨.ref r1, rfl, r1, [.int m1, .int e1], 1, .int e1, rfl, rfl, st_of hr4, rfl, e1, 3, rfl, rfl, _, _, rfl, fun H4 r4 e4 nr4 hr4' => ?_⟩
          have y0 : 0 ≤ x2 / 3 % 9 := Int.emod_nonneg _ (by decide)
          have y1 : x2 / 3 % 9 < 9 := Int.emod_lt_of_pos _ (by decide)
          have hbm : (m1 * 8 + x2 / 3 % 9).natAbs < 2 ^ 205 := by
            have e205 : (2 : Nat) ^ 205 = 2 ^ 201 * 16 := by decide
            omega
          refine ⟨.ref r4, _, x2 / 3 / 9, rfl, ((K12.trans keeps_upd).trans keeps_upd).trans (keeps_ex e4), e4 _ _ upd_same, Gn.ex ⟨numAt_of hr4, hn1, b1⟩ e4, numAt_of hr4', nrm_num _ _, bd_nrm hbm (by omega)⟩
        · exact ⟨.ref r2, _, _, rfl, K12.trans keeps_upd, upd_same, G1, G2⟩
      · exact ⟨.ref r2, _, _, rfl, K12.trans keeps_upd, upd_same, G1, G2⟩
    · rintro σ' H' ⟨w', n, x', rfl, K3, hp3, g1, gw⟩
      refine ⟨.ref r1, rfl, w', rfl, .ref r1, w', (m1, e1), n, rfl, g1.mono (by decide), gw.mono (by decide), _, 0, rfl, rfl, _, rfl, ite2 (fun hgt => ?_) (fun hle => ?_)⟩
      · have hgt : 0 < pord (m1, e1) n := of_decide_eq_true hgt
        refine (evpair_mk (B := 2300) (evn_var (i := 2) rfl gw) (evn_var (i := 1) rfl g1) (Nat.le_refl _) (Nat.le_refl _)) H' (Ex.refl H') _ fun z H4 e4 hz => q z H4 x' _ _ (K3.trans (keeps_ex e4)) (e4 _ _ hp3) hz ?_
        have := pord_swap (m1, e1) n
        omega
      · have hle : ¬ 0 < pord (m1, e1) n := fun z => hle (decide_eq_true z)
        exact (evpair_mk (B := 2300) (evn_var (i := 1) rfl g1) (evn_var (i := 2) rfl gw) (Nat.le_refl _) (Nat.le_refl _)) H' (Ex.refl H') _ fun z H4 e4 hz => q z H4 x' _ _ (K3.trans (keeps_ex e4)) (e4 _ _ hp3) hz (by omega)
def spSum (K : PySem.W.Frag) : Sp := fun vs H Q _ => ∃ u v a b, ∃ s : Int, vs = [u, v, .int s] ∧ (s = 1 ∨ s = -1) ∧ Gn K H u a LIM ∧ Gn K H v b LIM ∧ NewP H Q (if s = 1 then padd a b else psub a b)
theorem ok_law_sum {f f1 f2 : Addr} {fd fd1 fd2 : FuncData} (T : Top mg) (F : FnP K "_law_sum" s_law_sum f fd) (c_law_at : Cal P w K mg base CX0 1 "_law_at" ["_law_number_here", "_law_e"] (spFloor K) f1 fd1) (c_law_odd : Cal P w K mg base CX0 1 "_law_odd" ["_law_m", "_law_e"] spNof f2 fd2) : FnOk P w K mg base CX0 2 f fd ["_law_one_own", "_law_other_own", "_law_sign"] (spSum K) := by
  have sc := sc_law_sum
  refine ok0 F sc (fun vs H Q E h => ?_) (fun cdv A outer s H vs Q E hr h => ?_)
  · obtain ⟨u, v, a, b, s, rfl, _⟩ := h
    rfl
  · obtain ⟨u, v, a, b, s, rfl, hs, ga, gb, q⟩ := h
    refine ⟨_, (pss_cons (ps_set (i := 3) sc.nd rfl (.inl rfl) (pe_callB (call_min2 rfl) (by rfl) T.min (by decide +kernel) (pa_cons (pe_ix ix_tup (pv 0) pe_int (fun _ _ => rfl)) (pa_cons (pe_ix ix_tup (pv 1) pe_int (fun _ _ => rfl)) pa_nil))))
    (pss_one (ps_ret (pe_call c_law_odd.ok (hr.mono (by decide)) (by rfl) c_law_odd.m c_law_odd.kp c_law_odd.b .nil pass0 (pa_cons (pe_op op_add (pe_call c_law_at.ok (hr.mono (by decide)) (by rfl) c_law_at.m c_law_at.kp c_law_at.b .nil pass0 (pa_cons (pv 0) (pa_cons (pv 3) pa_nil))) (pe_op op_mul (pv 2) (pe_call c_law_at.ok (hr.mono (by decide)) (by rfl) c_law_at.m c_law_at.kp c_law_at.b .nil pass0 (pa_cons (pv 1) (pa_cons (pv 3) pa_nil))))) (pa_cons (pv 3) pa_nil)))))), ?_⟩
    obtain ⟨p, rfl, hp⟩ := ga.at_
    obtain ⟨r, rfl, hr2⟩ := gb.at_
    have ba := ga.bd.2
    have bb := gb.bd.2
    refine ⟨.ref p, rfl, p, [.int a.1, .int a.2], 1, .int a.2, rfl, rfl, hp, rfl, .ref r, rfl, r, [.int b.1, .int b.2], 1, .int b.2, rfl, rfl, hr2, rfl, a.2, b.2, rfl, ?_⟩
    rw [min_if]
    refine ⟨.ref p, rfl, .int (min a.2 b.2), rfl, .ref p, a, _, rfl, ⟨p, rfl, hp⟩, by omega, ga.bd, by omega, ?_⟩
    refine ⟨.int s, rfl, .ref r, rfl, .int (min a.2 b.2), rfl, .ref r, b, _, rfl, ⟨r, rfl, hr2⟩, by omega, gb.bd, by omega, s, _, rfl, rfl, .inl (by rcases hs with z | z <;> rw [z] <;> decide), _, _, rfl, rfl, .int (min a.2 b.2), rfl, _, _, rfl, fun H' t e nt ht => q H' t e nt ?_⟩
    rw [ht]
    have e1 : nrm (at_ a (min a.2 b.2) + s * at_ b (min a.2 b.2)) (min a.2 b.2) = if s = 1 then padd a b else psub a b := by
      rcases hs with z | z
      · rw [z, if_pos rfl, Int.one_mul]
        rfl
      · rw [z, if_neg (by decide), psub_at (E := min a.2 b.2) (by omega) (by omega), show (-1 : Int) * at_ b (min a.2 b.2) = -at_ b (min a.2 b.2) by omega]
        rfl
    rw [e1]
theorem ok_law_times {f f1 : Addr} {fd fd1 : FuncData} (T : Top mg) (F : FnP K "_law_times" s_law_times f fd) (c_law_odd : Cal P w K mg base CX0 1 "_law_odd" ["_law_m", "_law_e"] spNof f1 fd1) : FnOk P w K mg base CX0 2 f fd ["_law_one_own", "_law_other_own"] (spTwo K pmul) := by
  have sc := sc_law_times
  refine ok0 F sc (fun vs H Q E h => ?_) (fun cdv A outer s H vs Q E hr h => ?_)
  · obtain ⟨u, v, a, b, rfl, _⟩ := h
    rfl
  · obtain ⟨u, v, a, b, rfl, ga, gb, q⟩ := h
    refine ⟨_, (pss_one (ps_ret (pe_call c_law_odd.ok (hr.mono (by decide)) (by rfl) c_law_odd.m c_law_odd.kp c_law_odd.b .nil pass0 (pa_cons (pe_op op_mulX (pe_ix ix_tup (pv 0) pe_int (fun _ _ => rfl)) (pe_ix ix_tup (pv 1) pe_int (fun _ _ => rfl))) (pa_cons (pe_op op_add (pe_ix ix_tup (pv 0) pe_int (fun _ _ => rfl)) (pe_ix ix_tup (pv 1) pe_int (fun _ _ => rfl))) pa_nil))))), ?_⟩
    obtain ⟨p, rfl, hp⟩ := ga.at_
    obtain ⟨r, rfl, hr2⟩ := gb.at_
    refine ⟨.ref p, rfl, p, [.int a.1, .int a.2], 0, .int a.1, rfl, rfl, hp, rfl, .ref r, rfl, r, [.int b.1, .int b.2], 0, .int b.1, rfl, rfl, hr2, rfl, a.1, b.1, rfl, rfl, mulx_ok ga.bd.1 gb.bd.1 (by unfold LIM; decide), ?_⟩
    exact ⟨.ref p, rfl, p, [.int a.1, .int a.2], 1, .int a.2, rfl, rfl, hp, rfl, .ref r, rfl, r, [.int b.1, .int b.2], 1, .int b.2, rfl, rfl, hr2, rfl, a.2, b.2, rfl, rfl, _, _, rfl, fun H3 t e3 nt ht => q H3 (.ref t) e3 (numAt_of ht)⟩
def spLEnds (K : PySem.W.Frag) : Sp := fun vs H Q _ => ∃ v ns B, vs = [v] ∧ LnAt K H v ns B ∧ ns ≠ [] ∧ B ≤ LIM ∧ ∀ z lo hi H', Ex H H' → IsLeast lo ns → IsGreat hi ns → PairAt K B lo hi H' z → Q z H'
theorem ok_law_ends {f f1 : Addr} {fd fd1 : FuncData} (T : Top mg) (F : FnP K "_law_ends" s_law_ends f fd) (c_law_compared : Cal P w K mg base CX0 2 "_law_compared" ["_law_one_own", "_law_other_own"] (spCmp K) f1 fd1) : FnOk P w K mg base CX0 3 f fd ["_law_some"] (spLEnds K) := by
  have sc := sc_law_ends
  refine ok0 F sc (fun vs H Q E h => ?_) (fun cdv A outer s H vs Q E hr h => ?_)
  · obtain ⟨v, ns, B, rfl, _⟩ := h
    rfl
  · obtain ⟨v, ns, B, rfl, ⟨p, xs, rfl, hp, gp⟩, hne, hB, q⟩ := h
    refine ⟨_, (pss_cons (ps_set (i := 1) sc.nd rfl (.inl rfl) (pe_ix ix_list (pv 0) pe_int (fun _ _ => rfl)))
    (pss_cons (ps_set (i := 2) sc.nd rfl (.inl rfl) (pe_ix ix_list (pv 0) pe_int (fun _ _ => rfl)))
    (pss_cons (ps_for PassesOwn.never rfl (pi_list (pv 0)) (pg_name (i := 3) sc.nd rfl (.inl rfl))
      (pss_cut (ps_if (pt_cmpR op_lt (pe_call c_law_compared.ok (hr.mono (by decide)) (by rfl) c_law_compared.m c_law_compared.kp c_law_compared.b .nil pass0 (pa_cons (pv 3) (pa_cons (pv 1) pa_nil))) pe_int (nomark _))
        (pss_one (ps_set (i := 1) sc.nd rfl (.inl rfl) (pv 3))) pss_nil)
      (pss_one (ps_if (pt_cmpR op_gt (pe_call c_law_compared.ok (hr.mono (by decide)) (by rfl) c_law_compared.m c_law_compared.kp c_law_compared.b .nil pass0 (pa_cons (pv 3) (pa_cons (pv 2) pa_nil))) pe_int (nomark _))
        (pss_one (ps_set (i := 2) sc.nd rfl (.inl rfl) (pv 3))) pss_nil))))
    (pss_one (ps_ret (pe_tup (pa_cons (pv 1) (pa_cons (pv 2) pa_nil)))))))), ?_⟩
    obtain ⟨x0, xr, n0, nr, rfl, rfl⟩ : ∃ x0 xr n0 nr, xs = x0 :: xr ∧ ns = n0 :: nr := by
      match xs, ns, gp with
      | [], [], _ => exact absurd rfl hne
      | x :: xr, n :: nr, _ => exact ⟨x, xr, n, nr, rfl, rfl⟩
    have g0 : Gn K H x0 n0 B := gp.1
    refine ⟨.ref p, rfl, p, x0 :: xr, 0, x0, rfl, rfl, sq_of hp, atI_nat (j := 0) rfl, ?_⟩
    refine ⟨.ref p, rfl, p, x0 :: xr, 0, x0, rfl, rfl, sq_of hp, atI_nat (j := 0) rfl, ?_⟩
    refine ⟨.ref p, rfl, p, rfl, ⟨_, sq_of hp⟩, for_list (xs := x0 :: xr) (fun i σ' H' => H' = H ∧ ∃ l h n m t, σ' = [some (.ref p), some l, some h, t] ∧ Gn K H l n B ∧ Gn K H h m B ∧ n ∈ n0 :: nr ∧ m ∈ n0 :: nr ∧ ∀ j k, j < i → (n0 :: nr)[j]? = some k → pord n k ≤ 0 ∧ pord k m ≤ 0) ⟨rfl, x0, x0, n0, n0, none, rfl, g0, g0, List.mem_cons_self, List.mem_cons_self, fun j m hj => by omega⟩ (fun i σ' H' _ hk => by obtain ⟨rfl, _⟩ := hk; exact sq_of hp) (fun i x σ' H' hx hk => ?_) (fun σ' H' hk => ?_)⟩
    · obtain ⟨rfl, l, h, n, m, t, rfl, gl, gh, hn, hm, hall⟩ := hk
      obtain ⟨k, hk, gx⟩ := gnL_nth gp i x hx
      refine ⟨fun σ' H2 => H2 = H' ∧ ∃ l n, σ' = [some (.ref p), some l, some h, some x] ∧ Gn K H' l n B ∧ n ∈ n0 :: nr ∧ ∀ j k, j < i + 1 → (n0 :: nr)[j]? = some k → pord n k ≤ 0, ?_, ?_⟩
      · refine ⟨x, rfl, l, rfl, x, l, k, n, rfl, gx.mono hB, gl.mono hB, _, 0, rfl, rfl, _, rfl, ite2 (fun hlt => ?_) (fun hge => ?_)⟩
        · have hlt : pord k n < 0 := of_decide_eq_true hlt
          refine ⟨x, rfl, rfl, x, k, rfl, gx, List.mem_of_getElem? hk, fun j k2 hj hk2 => ?_⟩
          rcases Nat.lt_or_eq_of_le (Nat.le_of_lt_succ hj) with z | z
          · have := ord_trans (a := k) (b := n) (c := k2) (by omega) (hall j k2 z hk2).1
            omega
          · subst z
            rw [hk] at hk2
            cases hk2
            rw [pord_self]
            exact Int.le_refl 0
        · have hge : ¬ pord k n < 0 := fun z => hge (decide_eq_true z)
          refine ⟨rfl, l, n, rfl, gl, hn, fun j k2 hj hk2 => ?_⟩
          rcases Nat.lt_or_eq_of_le (Nat.le_of_lt_succ hj) with z | z
          · exact (hall j k2 z hk2).1
          · subst z
            rw [hk] at hk2
            cases hk2
            have := pord_swap k n
            omega
      · rintro σ' H2 ⟨rfl, l2, n2, rfl, gl2, hn2, hall2⟩
        refine ⟨x, rfl, h, rfl, x, h, k, m, rfl, gx.mono hB, gh.mono hB, _, 0, rfl, rfl, _, rfl, ite2 (fun hgt => ?_) (fun hle => ?_)⟩
        · have hgt : 0 < pord k m := of_decide_eq_true hgt
          refine ⟨x, rfl, rfl, l2, x, n2, k, _, rfl, gl2, gx, hn2, List.mem_of_getElem? hk, fun j k2 hj hk2 => ⟨hall2 j k2 hj hk2, ?_⟩⟩
          rcases Nat.lt_or_eq_of_le (Nat.le_of_lt_succ hj) with z | z
          · have h1 := (hall j k2 z hk2).2
            have h2 := pord_swap k m
            have := ord_trans (a := k2) (b := m) (c := k) h1 (by omega)
            omega
          · subst z
            rw [hk] at hk2
            cases hk2
            rw [pord_self]
            exact Int.le_refl 0
        · have hle : ¬ 0 < pord k m := fun z => hle (decide_eq_true z)
          refine ⟨rfl, l2, h, n2, m, _, rfl, gl2, gh, hn2, hm, fun j k2 hj hk2 => ⟨hall2 j k2 hj hk2, ?_⟩⟩
          rcases Nat.lt_or_eq_of_le (Nat.le_of_lt_succ hj) with z | z
          · exact (hall j k2 z hk2).2
          · subst z
            rw [hk] at hk2
            cases hk2
            omega
    · obtain ⟨rfl, l, h, n, m, t, rfl, gl, gh, hn, hm, hall⟩ := hk
      have hl := gnL_len gp
      have hj : ∀ k, k ∈ n0 :: nr → pord n k ≤ 0 ∧ pord k m ≤ 0 := fun k hk => by
        obtain ⟨j, hj⟩ := List.getElem?_of_mem hk
        have := (List.getElem?_eq_some_iff.mp hj).1
        exact hall j k (by omega) hj
      refine (evpair_mk (B := B) (evn_var (i := 1) rfl gl) (evn_var (i := 2) rfl gh) (Nat.le_refl _) (Nat.le_refl _)) H' (Ex.refl H') _ fun z H3 e3 hz => q z n m H3 e3 ⟨hn, fun k hk => (hj k hk).1⟩ ⟨hm, fun k hk => (hj k hk).2⟩ hz
def spGood (K : PySem.W.Frag) : Sp := fun vs H Q _ => ∃ u v a b c d, vs = [u, v] ∧ PairAt K 3000 a b H u ∧ PairAt K 3000 c d H v ∧ pord a b ≤ 0 ∧ pord c d ≤ 0 ∧ ∀ H', Ex H H' → Q (.bl true) H'
theorem evn_sumB {σ : L2.St} {H : Hp} {ta tb tc : TE} {a b : Int × Int} {B1 B2 : Nat} (ha : EvN K ta σ H a B1) (hb : EvN K tb σ H b B2) (hc : Ev tc σ H (.int 1)) (l : B1 + B2 ≤ LIM := by decide) : EvN K (tCall (spSum K) [] E0 (tCons ta (tCons tb (tCons tc tNil)))) σ H (padd a b) (4 * (B1 + B2) + 1) := fun H1 e Q q =>
  ha H1 e _ fun u H2 e2 gu => hb H2 (e.trans e2) _ fun v H3 e3 gv => hc H3 ((e.trans e2).trans e3) _ fun H4 e4 => ⟨u, v, a, b, 1, rfl, .inl rfl, ((gu.ex e3).ex e4).mono (by omega), (gv.ex e4).mono (by omega), fun H5 p e5 _ hp => q (.ref p) H5 (((e2.trans e3).trans e4).trans e5) ⟨numAt_of hp, num_add _ _, bd_add (gu.bd.mono (by omega)) (gv.bd.mono (by omega))⟩⟩
theorem evs_sum {C : Addr} {σ : L2.St} {H : Hp} {ta tb : TE} {a b c d : Int × Int} (h1 : EvP (StrAt K C 3000 a b) ta σ H) (h2 : EvP (StrAt K C 3000 c d) tb σ H) (l1 : pord a b ≤ 0) (l2 : pord c d ≤ 0) : EvP (StrAt K C 100000 (padd a c) (padd b d)) (tCall (spSumS K C) [] E0 (tCons ta (tCons tb tNil))) σ H := fun H1 e Q q =>
  h1 H1 e _ fun u H2 e2 gu => h2 H2 (e.trans e2) _ fun v H3 e3 gv => ⟨u, v, a, b, c, d, rfl, str_mono _ _ _ e3 gu, gv, l1, l2, fun z H4 e4 hz => q z H4 ((e2.trans e3).trans e4) hz⟩
theorem evs_sumK {C : Addr} {σ : L2.St} {H : Hp} {ta tb : TE} {a b c d : Int × Int} (h1 : EvP (StrAt K C 3000 a b) ta σ H) (h2 : EvP (StrAt K C 3000 c d) tb σ H) (l1 : pord a b ≤ 0) (l2 : pord c d ≤ 0) : EvP (StrAt K C 100000 (padd a c) (padd b d)) (tCallN 0 2 (spSumS K C) (fun _ zs => zs.reverse) E0 tNil (tCons tb (tCons ta tNil))) σ H := fun H1 e Q q =>
  h2 H1 e _ fun v H2 e2 gv => h1 H2 (e.trans e2) _ fun u H3 e3 gu => ⟨rfl, rfl, u, v, a, b, c, d, rfl, gu, str_mono _ _ _ e3 gv, l1, l2, fun z H4 e4 hz => q z H4 ((e2.trans e3).trans e4) hz⟩
theorem evs_prod {C : Addr} {σ : L2.St} {H : Hp} {ta tb : TE} {a b c d lo hi : Int × Int} (h1 : EvP (StrAt K C 3000 a b) ta σ H) (h2 : EvP (StrAt K C 3000 c d) tb σ H) (l1 : pord a b ≤ 0) (l2 : pord c d ≤ 0) (hl : ∀ n, IsLeast n (prods a b c d) → n = lo) (hh : ∀ n, IsGreat n (prods a b c d) → n = hi) : EvP (StrAt K C 100000 lo hi) (tCall (spProdS K C) [] E0 (tCons ta (tCons tb tNil))) σ H := fun H1 e Q q =>
  h1 H1 e _ fun u H2 e2 gu => h2 H2 (e.trans e2) _ fun v H3 e3 gv => ⟨u, v, a, b, c, d, rfl, str_mono _ _ _ e3 gu, gv, l1, l2, fun z l h H4 e4 il ih hz => q z H4 ((e2.trans e3).trans e4) (by rw [← hl l il, ← hh h ih]; exact hz)⟩
theorem evs_prodK {C : Addr} {σ : L2.St} {H : Hp} {ta tb : TE} {a b c d lo hi : Int × Int} (h1 : EvP (StrAt K C 3000 a b) ta σ H) (h2 : EvP (StrAt K C 3000 c d) tb σ H) (l1 : pord a b ≤ 0) (l2 : pord c d ≤ 0) (hl : ∀ n, IsLeast n (prods a b c d) → n = lo) (hh : ∀ n, IsGreat n (prods a b c d) → n = hi) : EvP (StrAt K C 100000 lo hi) (tCallN 0 2 (spProdS K C) (fun _ zs => zs.reverse) E0 tNil (tCons tb (tCons ta tNil))) σ H := fun H1 e Q q =>
  h2 H1 e _ fun v H2 e2 gv => h1 H2 (e.trans e2) _ fun u H3 e3 gu => ⟨rfl, rfl, u, v, a, b, c, d, rfl, gu, str_mono _ _ _ e3 gv, l1, l2, fun z l h H4 e4 il ih hz => q z H4 ((e2.trans e3).trans e4) (by rw [← hl l il, ← hh h ih]; exact hz)⟩
theorem mem_prods (a b c d : Int × Int) : ∀ x, x ∈ prods a b c d ↔ x ∈ [pmul a c, pmul b c] ++ [pmul a d, pmul b d] := fun x => by
  simp only [prods, List.cons_append, List.nil_append, List.mem_cons, List.not_mem_nil, or_false]
  constructor
  · rintro (h | h | h | h) <;> simp [h]
  · rintro (h | h | h | h) <;> simp [h]
theorem mem_prods2 (a b c d : Int × Int) : ∀ x, x ∈ prods c d a b ↔ x ∈ [pmul a c, pmul b c] ++ [pmul a d, pmul b d] := fun x => by
  simp only [prods, List.cons_append, List.nil_append, List.mem_cons, List.not_mem_nil, or_false, pmul_comm c, pmul_comm d]
theorem num_prods (a b c d : Int × Int) : AllNum (prods a b c d) := fun n hn => by
  simp only [prods, List.mem_cons, List.not_mem_nil, or_false] at hn
  rcases hn with rfl | rfl | rfl | rfl <;> exact num_mul _ _
/-- the ends of a stretch beside a pair -/
theorem evt_found {C : Addr} {σ : L2.St} {H : Hp} {i j : Nat} {x y : V} {a b : Int × Int} {B : Nat} (S : StrC K mg C) (hi : σ[i]? = some (some x)) (hj : σ[j]? = some (some y)) (hx : StrAt K C 100000 a b H x) (hy : PairAt K B a b H y) :
    EvT (tOr (tNot (tB (tCB (rIsi K) (tCons (tVar i) (tCons (tC (.ref C)) tNil))))) (tTest (tOp (rNeD K) (tTup (tCons (tFld K (tVar i) "low") (tCons (tFld K (tVar i) "high") tNil))) (tVar j)))) σ H false :=
  et_is (et_or (et_not (et_B (ev_isS S (evs_var hi hx)))) (fun _ => evt_pairs (B := 100000) (evpair_mk (evn_low S (evs_var hi hx)) (evn_high S (evs_var hi hx)) (Nat.le_refl _) (Nat.le_refl _)) (evpair_var hj hy) rfl rfl)) rfl
theorem q_seqP {tu tz : TS} {D : Ends} {σ : L2.St} {H : Hp} (h : tu { D with nx := tz D } σ H) : tSeq tu tz D σ H := h
/-- the products of both numbers of a pair with one number -/
theorem eli_times {σ : L2.St} {H : Hp} {i j : Nat} {u : V} {a b n : Int × Int} {te : TE} {vs : List Nat} (hu : σ[i]? = some (some u)) (hp : PairAt K 3000 a b H u) (hw : ∀ x, wipe ((wipe σ vs).set j (some x)) vs = wipe σ vs) (hx : ∀ x, ((wipe σ vs).set j (some x))[j]? = some (some x))
    (ht : ∀ x H1, Ex H H1 → EvN K te ((wipe σ vs).set j (some x)) H1 n 3000) : EvLI (NthN K 24000 [pmul a n, pmul b n]) (tLc (iTup K (tVar i)) (gName j) tYes (tCall (spTwo K pmul) [] E0 (tCons (tVar j) (tCons te tNil))) vs) σ H 2 := by
  obtain ⟨p, x1, x2, rfl, hp, g1, g2⟩ := hp
  refine eli_lcT (S := NthN K 3000 [a, b]) nth_mono nth_mono nth_keep (by decide) (fun H1 e Q q => ?_) (fun k x H1 e1 hS => ⟨(wipe σ vs).set j (some x), fun Q q => q, hw x, fun H2 e2 Q q => ?_⟩)
  · refine ⟨.ref p, hu, q (.ref p) H1 (Ex.refl H1) ⟨p, [x1, x2], rfl, ex_t e hp, rfl, fun k y hy => ?_⟩⟩
    rcases (show k = 0 ∨ k = 1 by have := (List.getElem?_eq_some_iff.mp hy).1; simp at this; omega) with rfl | rfl
    · cases hy
      exact ⟨a, rfl, g1.ex e⟩
    · cases hy
      exact ⟨b, rfl, g2.ex e⟩
  · obtain ⟨m, hm, g⟩ := hS
    exact (evn_times (evn_var (hx x) (g.ex e2)) (ht x H2 (e1.trans e2))) H2 (Ex.refl H2) Q fun w H3 e3 gw => q w H3 e3 ⟨pmul m n, by
      rcases (show k = 0 ∨ k = 1 by have := (List.getElem?_eq_some_iff.mp hm).1; simp at this; omega) with rfl | rfl
      · cases hm
        rfl
      · cases hm
        rfl, gw.mono (by decide)⟩
theorem ok_law_good {f f1 f2 f3 f4 f5 f6 C_Stretch : Addr} {fd fd1 fd2 fd3 fd4 fd5 fd6 : FuncData} {g1 g2 : List Value → List Value → List Value} (T : Top mg) (S_Stretch : StrC K mg C_Stretch) (M_Stretch : Mk K C_Stretch f1) (F : FnP K "_law_good" s_law_good f fd) (c_Stretch_init : CalI P w K mg base CX0 3 ["self", "low", "high"] (spInit K C_Stretch) f1 fd1) (c_law_sum : Cal P w K mg base CX0 2 "_law_sum" ["_law_one_own", "_law_other_own", "_law_sign"] (spSum K) f2 fd2)
    (c_sum_of : Cal P w K mg base CX0 5 "sum_of" ["one", "other"] (spSumS K C_Stretch) f3 fd3) (c_product_of : Cal P w K mg base CX0 5 "product_of" ["one", "other"] (spProdS K C_Stretch) f4 fd4) (c_law_times : Cal P w K mg base CX0 2 "_law_times" ["_law_one_own", "_law_other_own"] (spTwo K pmul) f5 fd5) (c_law_ends : Cal P w K mg base CX0 3 "_law_ends" ["_law_some"] (spLEnds K) f6 fd6)
    (c_sum_of_kb_other_one : KBn K fd3 ["one", "other"] 0 ["other", "one"] g1 (fun _ zs => zs.reverse)) (c_product_of_kb_other_one : KBn K fd4 ["one", "other"] 0 ["other", "one"] g2 (fun _ zs => zs.reverse)) : FnOk P w K mg base CX0 10 f fd ["_law_one_own", "_law_other_own"] (spGood K) := by
  have sc := sc_law_good
  refine ok0 F sc (fun vs H Q E h => ?_) (fun cdv A outer s H vs Q E hr h => ?_)
  · obtain ⟨u, v, a, b, c, d, rfl, _⟩ := h
    rfl
  · obtain ⟨u, v, a, b, c, d, rfl, hu, hv, l1, l2, q⟩ := h
    refine ⟨_, (pss_cons (ps_set (i := 2) sc.nd rfl (by first | exact .inl rfl | exact .inr rfl) (pe_make M_Stretch c_Stretch_init.ok (hr.mono (by decide)) (by rfl) S_Stretch.m c_Stretch_init.b .nil pass0 (pa_cons (pe_ix ix_tup (pv 0) pe_int (fun _ _ => rfl)) (pa_cons (pe_ix ix_tup (pv 0) pe_int (fun _ _ => rfl)) pa_nil))))
    (pss_cons (ps_set (i := 3) sc.nd rfl (by first | exact .inl rfl | exact .inr rfl) (pe_make M_Stretch c_Stretch_init.ok (hr.mono (by decide)) (by rfl) S_Stretch.m c_Stretch_init.b .nil pass0 (pa_cons (pe_ix ix_tup (pv 1) pe_int (fun _ _ => rfl)) (pa_cons (pe_ix ix_tup (pv 1) pe_int (fun _ _ => rfl)) pa_nil))))
    (pss_cons (ps_set (i := 4) sc.nd rfl (by first | exact .inl rfl | exact .inr rfl) (pe_tup (pa_cons (pe_call c_law_sum.ok (hr.mono (by decide)) (by rfl) c_law_sum.m c_law_sum.kp c_law_sum.b .nil pass0 (pa_cons (pe_ix ix_tup (pv 0) pe_int (fun _ _ => rfl)) (pa_cons (pe_ix ix_tup (pv 1) pe_int (fun _ _ => rfl)) (pa_cons pe_int pa_nil)))) (pa_cons (pe_call c_law_sum.ok (hr.mono (by decide)) (by rfl) c_law_sum.m c_law_sum.kp c_law_sum.b .nil pass0 (pa_cons (pe_ix ix_tup (pv 0) pe_int (fun _ _ => rfl)) (pa_cons (pe_ix ix_tup (pv 1) pe_int (fun _ _ => rfl)) (pa_cons pe_int pa_nil)))) pa_nil))))
    (pss_cons (ps_for PassesOwn.never rfl (pi_list (pe_lst (pa_cons (pe_call c_sum_of.ok (hr.mono (by decide)) (by rfl) c_sum_of.m c_sum_of.kp c_sum_of.b .nil pass0 (pa_cons (pv 2) (pa_cons (pv 3) pa_nil))) (pa_cons (pe_callN0 c_sum_of.ok (hr.mono (by decide)) (by rfl) c_sum_of.m c_sum_of.kp c_sum_of_kb_other_one pass0 (pk_cons (pv 2) (pk_cons (pv 3) pk_nil))) pa_nil)))) (pg_name (i := 5) sc.nd rfl (by first | exact .inl rfl | exact .inr rfl))
      (pss_one (ps_if (PW.pt (pw_or (pt_not (pt_val (pe_callB call_isi (by rfl) T.isinstance (by decide +kernel) (pa_cons (pv 5) (pa_cons (pe_glob (v := .ref C_Stretch) (by rfl) S_Stretch.m rfl) pa_nil))))) (pw_or1 (pt_cmpR (op_neD hr.units) (pe_tup (pa_cons (pe_fld (pv 5) rfl) (pa_cons (pe_fld (pv 5) rfl) pa_nil))) (pv 4) (nomark _)))))
        (pss_one (ps_ret pe_bl)) pss_nil)))
    (pss_cons (ps_setLc (i := 6) (own := [("_law_first", 7)]) (g := gName 7) (tt := tYes) (te := tCall (spTwo K pmul) [] E0 (tCons (tVar 7) (tCons (tOp (rIxT K) (tVar 1) (tC (.int 0))) tNil))) (by rfl) sc.nd rfl rfl (sw_true rfl rfl rfl (by decide +kernel)) (pi_tup (pv 0)) (blkOk_by (own := [("_law_first", 7)]) (N := ["_law_one_own", "_law_other_own", "_law_left", "_law_right", "_law_due", "_law_found", "_law_some", "_law_first"]) (sc := defScope s_law_good) (by decide +kernel)) (fun _ _ _ _ _ => pg_name (i := 7) sc.nd rfl (Or.inl rfl)) (fun _ _ _ _ _ => pts_nil) (fun _ _ _ _ _ => (pe_call c_law_times.ok (hr.mono (by decide)) (by rfl) c_law_times.m c_law_times.kp c_law_times.b .nil pass0 (pa_cons (pv 7) (pa_cons (pe_ix ix_tup (pv 1) pe_int (fun _ _ => rfl)) pa_nil)))))
    (pss_cons (ps_set (i := 6) sc.nd rfl (by first | exact .inl rfl | exact .inr rfl) (pe_op op_cat (pv 6) (pe_lc (own := [("_law_first", 7)]) (g := gName 7) (tt := tYes) (te := tCall (spTwo K pmul) [] E0 (tCons (tVar 7) (tCons (tOp (rIxT K) (tVar 1) (tC (.int 1))) tNil))) (by rfl) sc.nd (pi_tup (pv 0)) (blkOk_by (own := [("_law_first", 7)]) (N := ["_law_one_own", "_law_other_own", "_law_left", "_law_right", "_law_due", "_law_found", "_law_some", "_law_first"]) (sc := defScope s_law_good) (by decide +kernel)) (fun _ _ _ _ _ => pg_name (i := 7) sc.nd rfl (Or.inl rfl)) (fun _ _ _ _ _ => pts_nil) (fun _ _ _ _ _ => (pe_call c_law_times.ok (hr.mono (by decide)) (by rfl) c_law_times.m c_law_times.kp c_law_times.b .nil pass0 (pa_cons (pv 7) (pa_cons (pe_ix ix_tup (pv 1) pe_int (fun _ _ => rfl)) pa_nil)))))))
    (pss_cons (ps_set (i := 4) sc.nd rfl (by first | exact .inl rfl | exact .inr rfl) (pe_call c_law_ends.ok (hr.mono (by decide)) (by rfl) c_law_ends.m c_law_ends.kp c_law_ends.b .nil pass0 (pa_cons (pv 6) pa_nil)))
    (pss_cons (ps_for PassesOwn.never rfl (pi_list (pe_lst (pa_cons (pe_call c_product_of.ok (hr.mono (by decide)) (by rfl) c_product_of.m c_product_of.kp c_product_of.b .nil pass0 (pa_cons (pv 2) (pa_cons (pv 3) pa_nil))) (pa_cons (pe_callN0 c_product_of.ok (hr.mono (by decide)) (by rfl) c_product_of.m c_product_of.kp c_product_of_kb_other_one pass0 (pk_cons (pv 2) (pk_cons (pv 3) pk_nil))) pa_nil)))) (pg_name (i := 5) sc.nd rfl (by first | exact .inl rfl | exact .inr rfl))
      (pss_one (ps_if (PW.pt (pw_or (pt_not (pt_val (pe_callB call_isi (by rfl) T.isinstance (by decide +kernel) (pa_cons (pv 5) (pa_cons (pe_glob (v := .ref C_Stretch) (by rfl) S_Stretch.m rfl) pa_nil))))) (pw_or1 (pt_cmpR (op_neD hr.units) (pe_tup (pa_cons (pe_fld (pv 5) rfl) (pa_cons (pe_fld (pv 5) rfl) pa_nil))) (pv 4) (nomark _)))))
        (pss_one (ps_ret pe_bl)) pss_nil)))
    (pss_one (ps_ret (pe_and (pe_cmpR (op_eqD hr.units) (pe_tup (pa_cons (pe_fld (pv 2) rfl) (pa_cons (pe_fld (pv 2) rfl) pa_nil))) (pv 0) (nomark _)) (pe_one (pe_cmpR (op_eqD hr.units) (pe_tup (pa_cons (pe_fld (pv 3) rfl) (pa_cons (pe_fld (pv 3) rfl) pa_nil))) (pv 1) (nomark _)))))))))))))), ?_⟩
    have pu : ∀ {σ' : L2.St} {H' : Hp}, Ex H H' → σ'[0]? = some (some u) → EvP (PairAt K 3000 a b) (tVar 0) σ' H' := fun e h => evpair_var h (pair_mono _ _ _ e hu)
    have pw : ∀ {σ' : L2.St} {H' : Hp}, Ex H H' → σ'[1]? = some (some v) → EvP (PairAt K 3000 c d) (tVar 1) σ' H' := fun e h => evpair_var h (pair_mono _ _ _ e hv)
    have e0 := Ex.refl H
    refine q_asgP (evs_make (B := 3000) (evn_fst (pu e0 rfl)) (evn_snd (pu e0 rfl)) (by decide) (by decide) (by decide) l1) fun x1 H1 e1 s1 => ?_
    refine q_asgP (evs_make (B := 3000) (evn_fst (pw e1 rfl)) (evn_snd (pw e1 rfl)) (by decide) (by decide) (by decide) l2) fun x2 H2 e2 s2 => ?_
    have e12 := e1.trans e2
    have s1 := str_mono _ _ _ e2 s1
    refine q_asgP (evpair_mk (B := 24001) (evn_sumB (evn_fst (pu e12 rfl)) (evn_fst (pw e12 rfl)) ev_c) (evn_sumB (evn_snd (pu e12 rfl)) (evn_snd (pw e12 rfl)) ev_c) (by decide) (by decide)) fun x3 H3 e3 s3 => ?_
    have e13 := e12.trans e3
    have s1 := str_mono _ _ _ e3 s1
    have s2 := str_mono _ _ _ e3 s2
    have sumK : ∀ {σ' : L2.St}, σ'[2]? = some (some x1) → σ'[3]? = some (some x2) → EvP (StrAt K C_Stretch 100000 (padd a c) (padd b d)) (tCallN 0 2 (spSumS K C_Stretch) (fun _ zs => zs.reverse) E0 tNil (tCons (tVar 2) (tCons (tVar 3) tNil))) σ' H3 := fun h2 h3 => by
      have z := evs_sumK (evs_var h3 s2) (evs_var h2 s1) l2 l1
      rw [padd_comm c a, padd_comm d b] at z
      exact z
    refine q_seqP (s_forLP (n := 2) str_mono (elp_lst str_mono (eva_cons str_mono (evs_sum (evs_var (i := 2) rfl s1) (evs_var (i := 3) rfl s2) l1 l2) (eva_cons str_mono (sumK rfl rfl) eva_nil))) (fun σ' => ∃ t, σ' = [some u, some v, some x1, some x2, some x3, t, none, none]) ⟨_, rfl⟩ (fun H4 z σ' H5 e4 e5 hs hz => ?_) (fun σ' H5 e5 hs => ?_))
    · obtain ⟨t, rfl⟩ := hs
      refine g_name ?_
      exact s_when (evt_found S_Stretch (i := 5) (j := 4) rfl rfl hz (pair_mono _ _ _ (e4.trans e5) s3)) (fun z => by cases z) (fun _ H6 e6 => ⟨⟨_, rfl⟩, e5.trans e6⟩)
    obtain ⟨t, rfl⟩ := hs
    dsimp only
    have e15 := e13.trans e5
    have s1 := str_mono _ _ _ e5 s1
    have s2 := str_mono _ _ _ e5 s2
    refine o_seq (o_asg ((eli_times (σ := [some u, some v, some x1, some x2, some x3, t, none, none]) (i := 0) (j := 7) (n := c) (te := tOp (rIxT K) (tVar 1) (tC (.int 0))) (vs := [7]) rfl (pair_mono _ _ _ e15 hu) (fun _ => rfl) (fun _ => rfl) (fun x H1 e => evn_fst (pw (e15.trans e) rfl))) H5 (Ex.refl H5) _ fun D ys H6 e6 nD hD hl hall => ?_))
    refine g_name ?_
    dsimp only
    have e16 := e15.trans e6
    refine o_seq (o_asg (o_op (o_var (i := 6) rfl ((eli_times (σ := [some u, some v, some x1, some x2, some x3, t, some (.ref D), none]) (i := 0) (j := 7) (n := d) (te := tOp (rIxT K) (tVar 1) (tC (.int 1))) (vs := [7]) rfl (pair_mono _ _ _ e16 hu) (fun _ => rfl) (fun _ => rfl) (fun x H1 e => evn_snd (pw (e16.trans e) rfl))) H6 (Ex.refl H6) _ fun D2 ys2 H7 e7 nD2 hD2 hl2 hall2 => ?_))))
    refine ⟨D, D2, ys, ys2, rfl, rfl, e7 _ _ hD, hD2, sz_of (by omega), fun r hr7 => ?_⟩
    refine g_name ?_
    dsimp only
    have L8 : LnAt K (upd H7 r (.lst (ys ++ ys2))) (.ref r) ([pmul a c, pmul b c] ++ [pmul a d, pmul b d]) 24000 := ⟨r, ys ++ ys2, rfl, upd_same, gnL_app (gnL_ex (e7.trans (Ex.new hr7)) (nth_gnL hl hall)) (gnL_ex (Ex.new hr7) (nth_gnL hl2 hall2))⟩
    have e18 := (e16.trans e7).trans (Ex.new (o := .lst (ys ++ ys2)) hr7)
    have e58 := (e6.trans e7).trans (Ex.new (o := .lst (ys ++ ys2)) hr7)
    refine o_seq (o_asg (o_call (o_cons (o_var (i := 6) rfl ⟨.ref r, _, 24000, rfl, L8, by simp, by decide, fun x4 lo hi H9 e9 hlo hhi hz4 => ?_⟩))))
    refine g_name ?_
    dsimp only
    have e19 := e18.trans e9
    have s1 := str_mono _ _ _ (e58.trans e9) s1
    have s2 := str_mono _ _ _ (e58.trans e9) s2
    have u1 : ∀ n, IsLeast n (prods a b c d) → n = lo := fun n hn => least_unique hn hlo (mem_prods a b c d) (num_prods a b c d)
    have u2 : ∀ n, IsGreat n (prods a b c d) → n = hi := fun n hn => great_unique hn hhi (mem_prods a b c d) (num_prods a b c d)
    have u3 : ∀ n, IsLeast n (prods c d a b) → n = lo := fun n hn => least_unique hn hlo (mem_prods2 a b c d) (num_prods c d a b)
    have u4 : ∀ n, IsGreat n (prods c d a b) → n = hi := fun n hn => great_unique hn hhi (mem_prods2 a b c d) (num_prods c d a b)
    refine q_seqP (s_forLP (n := 2) str_mono (elp_lst str_mono (eva_cons str_mono (evs_prod (evs_var (i := 2) rfl s1) (evs_var (i := 3) rfl s2) l1 l2 u1 u2) (eva_cons str_mono (evs_prodK (evs_var (i := 3) rfl s2) (evs_var (i := 2) rfl s1) l2 l1 u3 u4) eva_nil))) (fun σ' => ∃ t, σ' = [some u, some v, some x1, some x2, some x4, t, some (.ref r), none]) ⟨_, rfl⟩ (fun H10 z σ' H11 e10 e11 hs hz => ?_) (fun σ' H11 e11 hs => ?_))
    · obtain ⟨t, rfl⟩ := hs
      refine g_name ?_
      exact s_when (evt_found S_Stretch (i := 5) (j := 4) rfl rfl hz (pair_mono _ _ _ (e10.trans e11) hz4)) (fun z => by cases z) (fun _ H6 e6 => ⟨⟨_, rfl⟩, e11.trans e6⟩)
    obtain ⟨t2, rfl⟩ := hs
    dsimp only
    have e1b := e19.trans e11
    have s1 := str_mono _ _ _ e11 s1
    have s2 := str_mono _ _ _ e11 s2
    refine o_ret ((ev_andV (ev_pairs (B := 3000) (evpair_mk (evn_low S_Stretch (evs_var (i := 2) rfl s1)) (evn_high S_Stretch (evs_var (i := 2) rfl s1)) (Nat.le_refl _) (Nat.le_refl _)) (pu e1b rfl) rfl rfl) (fun _ => ev_pairs (B := 3000) (evpair_mk (evn_low S_Stretch (evs_var (i := 3) rfl s2)) (evn_high S_Stretch (evs_var (i := 3) rfl s2)) (Nat.le_refl _) (Nat.le_refl _)) (pw e1b rfl) rfl rfl)) H11 (Ex.refl H11) _ fun H12 e12 => q H12 (e1b.trans e12))
def spLaw (K : PySem.W.Frag) : Sp := fun vs H Q _ => ∃ (a : Addr) (ns : List Int), vs = [.ref a] ∧ SqL K H a (ns.map V.int) ∧ ∀ H', Q (.bl true) H'
def Pq (K : PySem.W.Frag) (H : Hp) (v : V) : Prop := ∃ a b, PairAt K 3000 a b H v ∧ pord a b ≤ 0
theorem pq_mono : Mono (Pq K) := fun _ _ _ e ⟨a, b, h, l⟩ => ⟨a, b, pair_mono _ _ _ e h, l⟩
theorem evq_var {σ : L2.St} {H : Hp} {i : Nat} {v : V} (h : σ[i]? = some (some v)) (g : Pq K H v) : EvP (Pq K) (tVar i) σ H := evp_of (ev_var h) pq_mono g
theorem evq_mk {σ : L2.St} {H : Hp} {ta tb : TE} {a b : Int × Int} {B1 B2 : Nat} (ha : EvN K ta σ H a B1) (hb : EvN K tb σ H b B2) (l : pord a b ≤ 0) (l1 : B1 ≤ 3000 := by decide) (l2 : B2 ≤ 3000 := by decide) : EvP (Pq K) (tTup (tCons ta (tCons tb tNil))) σ H := fun H1 e Q q =>
  (evpair_mk (B := 3000) ha hb l1 l2) H1 e Q fun v H2 e2 h => q v H2 e2 ⟨a, b, h, l⟩
theorem ev_abs {σ : L2.St} {H : Hp} {te : TE} {i : Int} (h : Ev te σ H (.int i)) : Ev (tCB (fun xs H Q => ∃ i, xs = [.int i] ∧ Q (.int (if i < 0 then -i else i)) H) (tCons te tNil)) σ H (.int (if i < 0 then -i else i)) := fun H1 e Q q =>
  h H1 e _ fun H2 e2 => ⟨i, rfl, q H2 e2⟩
def pabs (n : Int × Int) : Int × Int := (if n.1 < 0 then -n.1 else n.1, n.2)
theorem pabs_or (n : Int × Int) : pabs n = n ∨ pabs n = pneg n := by
  unfold pabs pneg
  by_cases h : n.1 < 0
  · right
    rw [if_pos h]
  · left
    rw [if_neg h]
theorem pabs_nn (n : Int × Int) : 0 ≤ (pabs n).1 := by
  unfold pabs
  by_cases h : n.1 < 0
  · rw [if_pos h]
    show 0 ≤ -n.1
    omega
  · rw [if_neg h]
    show 0 ≤ n.1
    omega
theorem pabs_num {n : Int × Int} (h : isNumB n.1 n.2 = true) : isNumB (pabs n).1 (pabs n).2 = true := by
  rcases pabs_or n with z | z <;> rw [z]
  · exact h
  · exact num_neg h
theorem pabs_bd {n : Int × Int} {B : Nat} (h : Bd n B) : Bd (pabs n) B := by
  rcases pabs_or n with z | z <;> rw [z]
  · exact h
  · exact bd_neg h
theorem at_nn {n : Int × Int} (h : 0 ≤ n.1) (E : Int) : 0 ≤ at_ n E := Int.mul_nonneg h (Int.le_of_lt (pow_pos2 _))
theorem sgn_np {x : Int} (h : x ≤ 0) : sgn x ≤ 0 := by
  rcases sgn_cases x with q | q | q
  · have := sgn_of_pos q
    omega
  · omega
  · omega
theorem neg_le {n : Int × Int} (h : 0 ≤ n.1) : pord (pneg n) n ≤ 0 := by
  refine sgn_np ?_
  rw [at_neg]
  have := at_nn h (min (pneg n).2 n.2)
  omega
theorem zero_le {n : Int × Int} (h : 0 ≤ n.1) : pord (0, 0) n ≤ 0 := by
  refine sgn_np ?_
  have := at_nn h (min 0 n.2)
  have e : at_ (0, 0) (min 0 n.2) = 0 := Int.zero_mul _
  show at_ (0, 0) (min 0 n.2) - at_ n (min 0 n.2) ≤ 0
  omega
theorem neg_zero {n : Int × Int} (h : 0 ≤ n.1) : pord (pneg n) (0, 0) ≤ 0 := by
  refine sgn_np ?_
  rw [at_neg]
  have := at_nn h (min (pneg n).2 0)
  have e : at_ (0, 0) (min (pneg n).2 0) = 0 := Int.zero_mul _
  show -at_ n (min (pneg n).2 0) - at_ (0, 0) (min (pneg n).2 0) ≤ 0
  omega
theorem pair_keep {p : Addr} {v : V} {a b : Int × Int} {B : Nat} {ys : List V} {H H' : Hp} (h : PairAt K B a b H v) (hp : H p = some (.lst ys)) (k : Keeps p H H') : PairAt K B a b H' v := by
  obtain ⟨r, x, y, rfl, h1, g1, g2⟩ := h
  exact ⟨r, x, y, rfl, sqT_keep h1 hp k, gn_keep g1 hp k, gn_keep g2 hp k⟩
theorem lpAt_ex {P' : Hp → V → Prop} {H H' : Hp} {v : V} {n : Nat} (m : Mono P') (e : Ex H H') (h : LpAt P' H v n) : LpAt P' H' v n := by
  obtain ⟨p, vs, e1, h1, h2, h3⟩ := h
  exact ⟨p, vs, e1, e _ _ h1, h2, fun x hx => m _ _ _ e (h3 x hx)⟩
theorem pair_wide {v : V} {a b : Int × Int} {B C : Nat} {H : Hp} (h : PairAt K B a b H v) (l : B ≤ C) : PairAt K C a b H v := by
  obtain ⟨r, x, y, rfl, h1, g1, g2⟩ := h
  exact ⟨r, x, y, rfl, h1, g1.mono l, g2.mono l⟩
theorem ok_law {f fc fp fg : Addr} {fd fdc fdp fdg : FuncData} (T : Top mg) (F : FnP K "law" s_law f fd)
    (c_law_cell : Cal P w K mg base CX0 2 "_law_cell" ["_law_script", "_law_k"] (spCel K) fc fdc) (c_law_pair : Cal P w K mg base CX0 3 "_law_pair" ["_law_pile"] (spPair K) fp fdp) (c_law_good : Cal P w K mg base CX0 10 "_law_good" ["_law_one_own", "_law_other_own"] (spGood K) fg fdg) : FnOk P w K mg base CX0 11 f fd ["_law_script"] (spLaw K) := by
  have sc := sc_law
  refine ok0 F sc (fun vs H Q E h => ?_) (fun cdv A outer s H vs Q E hr h => ?_)
  · obtain ⟨a, ns, rfl, _⟩ := h
    rfl
  · obtain ⟨a, ns, rfl, hS, q⟩ := h
    refine ⟨_, (pss_cons (ps_for PassesOwn.never rfl (pi_range1 (by rfl) T.range (pa_cons pe_int pa_nil)) (pg_name (i := 1) sc.nd rfl (.inl rfl))
      (pss_cons (ps_set (i := 2) sc.nd rfl (.inl rfl) (pe_lst (pa_cons (pe_call c_law_cell.ok (hr.mono (by decide)) (by rfl) c_law_cell.m c_law_cell.kp c_law_cell.b .nil pass0 (pa_cons (pv 0) (pa_cons (pv 1) pa_nil))) pa_nil)))
      (pss_cons (ps_set (i := 3) sc.nd rfl (.inl rfl) (pe_call c_law_pair.ok (hr.mono (by decide)) (by rfl) c_law_pair.m c_law_pair.kp c_law_pair.b .nil pass0 (pa_cons (pv 2) pa_nil)))
      (pss_cons (ps_set (i := 4) sc.nd rfl (.inl rfl) (pe_call c_law_pair.ok (hr.mono (by decide)) (by rfl) c_law_pair.m c_law_pair.kp c_law_pair.b .nil pass0 (pa_cons (pv 2) pa_nil)))
      (pss_cons (ps_set (i := 5) sc.nd rfl (.inl rfl) (pe_tup (pa_cons (pe_callB call_abs (by rfl) T.abs (by decide +kernel) (pa_cons (pe_ix ix_tup (pe_ix ix_tup (pv 3) pe_int (fun _ _ => rfl)) pe_int (fun _ _ => rfl)) pa_nil)) (pa_cons (pe_ix ix_tup (pe_ix ix_tup (pv 3) pe_int (fun _ _ => rfl)) pe_int (fun _ _ => rfl)) pa_nil))))
      (pss_cons (ps_set (i := 6) sc.nd rfl (.inl rfl) (pe_lst (pa_cons (pv 3) (pa_cons (pv 4) (pa_cons (pe_tup (pa_cons (pe_tup (pa_cons (pe_op op_sub pe_int (pe_ix ix_tup (pv 5) pe_int (fun _ _ => rfl))) (pa_cons (pe_ix ix_tup (pv 5) pe_int (fun _ _ => rfl)) pa_nil))) (pa_cons (pv 5) pa_nil))) (pa_cons (pe_tup (pa_cons (pe_tup (pa_cons pe_int (pa_cons pe_int pa_nil))) (pa_cons (pv 5) pa_nil))) pa_nil))))))
      (pss_cons (ps_set (i := 6) sc.nd rfl (.inl rfl) (pe_op op_cat (pv 6) (pe_lst (pa_cons (pe_tup (pa_cons (pe_tup (pa_cons (pe_op op_sub pe_int (pe_ix ix_tup (pv 5) pe_int (fun _ _ => rfl))) (pa_cons (pe_ix ix_tup (pv 5) pe_int (fun _ _ => rfl)) pa_nil))) (pa_cons (pe_tup (pa_cons pe_int (pa_cons pe_int pa_nil))) pa_nil))) (pa_cons (pe_tup (pa_cons (pv 5) (pa_cons (pv 5) pa_nil))) pa_nil)))))
      (pss_one (ps_for PassesOwn.never rfl (pi_list (pv 6)) (pg_name (i := 7) sc.nd rfl (.inl rfl))
        (pss_one (ps_for PassesOwn.never rfl (pi_list (pv 6)) (pg_name (i := 8) sc.nd rfl (.inl rfl))
          (pss_one (ps_if (pt_not (pt_val (pe_call c_law_good.ok (hr.mono (by decide)) (by rfl) c_law_good.m c_law_good.kp c_law_good.b .nil pass0 (pa_cons (pv 7) (pa_cons (pv 8) pa_nil)))))
            (pss_one (ps_ret pe_bl)) pss_nil)))))))))))))
    (pss_one (ps_ret pe_bl))), ?_⟩
    refine ⟨4, rfl, by decide, by decide, for_range (lo := 0) (n := 4) (fun _ σ' H' => SqL K H' a (ns.map V.int) ∧ ∃ t1 t2 t3 t4 t5 t6 t7 t8, σ' = [some (.ref a), t1, t2, t3, t4, t5, t6, t7, t8]) ⟨hS, none, none, none, none, none, none, none, none, rfl⟩ (fun i σ' H0 hi hp => ?_) (fun σ' H' hp => ?_)⟩
    · obtain ⟨hS0, t1, t2, t3, t4, t5, t6, t7, t8, rfl⟩ := hp
      refine ⟨.ref a, rfl, .int (0 + (i : Int)), rfl, a, ns, _, rfl, hS0, by omega, by omega, fun z => ⟨by show 1 ≤ sizeLine; decide, fun p hp => ?_⟩⟩
      refine ⟨.ref p, rfl, p, z, rfl, upd_same, fun v1 H1 x1 a1 b1 k1 hp1 hv1 l1 => ?_⟩
      refine ⟨.ref p, rfl, p, x1, rfl, hp1, fun v2 H2 x2 c2 d2 k2 hp2 hv2 l2 => ?_⟩
      have ex1 : Ex H0 H1 := fun b o hb => k1 b o (by rw [upd_ne (ne_of_none hb hp)]; exact hb) (ne_of_none hb hp)
      have ex2 : Ex H0 H2 := fun b o hb => k2 b o (ex1 b o hb) (ne_of_none hb hp)
      have hv1 := pair_keep hv1 hp1 k2
      have q1 : Pq K H2 v1 := ⟨a1, b1, pair_wide hv1 (by decide), l1⟩
      have q2 : Pq K H2 v2 := ⟨c2, d2, pair_wide hv2 (by decide), l2⟩
      obtain ⟨nb, bb⟩ : isNumB b1.1 b1.2 = true ∧ Bd b1 2300 := by
        obtain ⟨r, x, y, e, h1, g1, g2⟩ := hv1
        exact ⟨g2.nb, g2.bd⟩
      have pb : ∀ {σ' : L2.St}, σ'[3]? = some (some v1) → EvN K (tOp (rIxT K) (tVar 3) (tC (.int 1))) σ' H2 b1 2300 := fun h => evn_snd (evpair_var h hv1)
      refine q_asgP (evn_lit (K := K) (B := 2300) (ev_abs (ev_m (pb rfl))) (ev_e (pb rfl)) (pabs_num nb) (pabs_bd bb)) fun v5 H3 e3 g5 => ?_
      have g5 : Gn K H3 v5 (pabs b1) 2300 := g5
      have nn := pabs_nn b1
      have sz : ∀ {σ' : L2.St} {H' : Hp}, Ex H3 H' → σ'[5]? = some (some v5) → EvN K (tVar 5) σ' H' (pabs b1) 2300 := fun e h => evn_var h (g5.ex e)
      have ng : ∀ {σ' : L2.St} {H' : Hp}, Ex H3 H' → σ'[5]? = some (some v5) → EvN K (tTup (tCons (tOp (rI0 fun i j => .int (i - j)) (tC (.int 0)) (tOp (rIxT K) (tVar 5) (tC (.int 0)))) (tCons (tOp (rIxT K) (tVar 5) (tC (.int 1))) tNil))) σ' H' (pneg (pabs b1)) 2300 := fun e h => by
        have e1 : (0 - (pabs b1).1, (pabs b1).2) = pneg (pabs b1) := by
          show (0 - (pabs b1).1, (pabs b1).2) = (-(pabs b1).1, (pabs b1).2)
          rw [Int.zero_sub]
        have z := evn_lit (K := K) (B := 2300) (m := 0 - (pabs b1).1) (e := (pabs b1).2) (ev_op (r := rI0 fun i j => .int (i - j)) (ev_c (v := .int 0)) (ev_m (sz e h)) rv_I0) (ev_e (sz e h)) (by rw [Int.zero_sub]; exact num_neg g5.nb) (by rw [e1]; exact bd_neg g5.bd)
        rw [e1] at z
        exact z
      have l00 : ∀ {σ' : L2.St} {H' : Hp}, EvN K (tTup (tCons (tC (.int 0)) (tCons (tC (.int 0)) tNil))) σ' H' (0, 0) 1 := evn_lit ev_c ev_c rfl ⟨by decide, by decide⟩
      have r3 := Ex.refl H3
      refine q_asgLP (n := 4) (elp_lst pq_mono (eva_cons pq_mono (evq_var (i := 3) rfl (pq_mono _ _ _ e3 q1)) (eva_cons pq_mono (evq_var (i := 4) rfl (pq_mono _ _ _ e3 q2)) (eva_cons pq_mono (evq_mk (ng r3 rfl) (sz r3 rfl) (neg_le nn)) (eva_cons pq_mono (evq_mk l00 (sz r3 rfl) (zero_le nn)) eva_nil))))) fun l1' H4 e4 L1 => ?_
      refine q_asgLP (n := 4 + 2) (elp_cat pq_mono rfl L1 (elp_lst pq_mono (eva_cons pq_mono (evq_mk (ng e4 rfl) l00 (neg_zero nn)) (eva_cons pq_mono (evq_mk (sz e4 rfl) (sz e4 rfl) (by rw [pord_self]; exact Int.le_refl 0)) eva_nil)))) fun l2' H5 e5 L2 => ?_
      have ex5 := ((ex2.trans e3).trans e4).trans e5
      refine s_forLA (i := 6) pq_mono rfl L2 (fun σ' => ∃ t7 t8, σ' = [some (.ref a), some (.int (0 + (i : Int))), some (.ref p), some v1, some v2, some v5, some l2', t7, t8]) ⟨_, _, rfl⟩ (fun y σ' H6 e6 hs hy => ?_) (fun σ' H6 e6 hs => ?_)
      · obtain ⟨u7, u8, rfl⟩ := hs
        refine g_name ?_
        refine s_forLA (i := 6) pq_mono rfl (lpAt_ex pq_mono e6 L2) (fun σ' => ∃ t8, σ' = [some (.ref a), some (.int (0 + (i : Int))), some (.ref p), some v1, some v2, some v5, some l2', some y, t8]) ⟨_, rfl⟩ (fun y2 σ' H7 e7 hs hy2 => ?_) (fun σ' H7 e7 hs => ?_)
        · obtain ⟨w8, rfl⟩ := hs
          obtain ⟨c1, c2, hc, lc⟩ := pq_mono _ _ _ e7 hy
          obtain ⟨c3, c4, hc2, lc2⟩ := hy2
          refine g_name ?_
          exact ⟨y, rfl, y2, rfl, y, y2, c1, c2, c3, c4, rfl, hc, hc2, lc, lc2, fun H8 e8 => ⟨true, rfl, iteF ⟨⟨_, rfl⟩, e7.trans e8⟩⟩⟩
        · obtain ⟨w8, rfl⟩ := hs
          exact ⟨⟨_, _, rfl⟩, e6.trans e7⟩
      · obtain ⟨u7, u8, rfl⟩ := hs
        exact ⟨ex_l (ex5.trans e6) hS0, _, _, _, _, _, _, _, _, rfl⟩
    · obtain ⟨hS0, t1, t2, t3, t4, t5, t6, t7, t8, rfl⟩ := hp
      exact q H'
end
/-! ### the head -/
abbrev dP (x : Str) (s : Stmt) (ds : List He.Dv) : He.DefD := ⟨(x, none), x, x, defArgs s, defBody s, defScope s, ds, []⟩
abbrev dM (c m x : Str) (s : Stmt) : He.DefD := ⟨(c, some m), m, x, defArgs s, defBody s, defScope s, [], []⟩
def fn : List He.DefD := [dP "is_number" s_is_number [], dP "need_numbers" s_need_numbers [], dP "lowered" s_lowered [], dP "added" s_added [], dP "multiplied" s_multiplied [], dP "compared" s_compared [], dP "lesser" s_lesser [], dP "greater" s_greater [], dM "Stretch" "__init__" "Stretch.__init__" s_Stretch_init, dP "need_stretch" s_need_stretch [], dP "sum_of" s_sum_of [], dP "product_of" s_product_of [], dP "_law_mixed" s_law_mixed [], dP "_law_cell" s_law_cell [], dP "_law_take" s_law_take [], dP "_law_odd" s_law_odd [], dP "_law_number" s_law_number [], dP "_law_at" s_law_at [], dP "_law_compared" s_law_compared [], dP "_law_pair" s_law_pair [], dP "_law_sum" s_law_sum [], dP "_law_times" s_law_times [], dP "_law_ends" s_law_ends [], dP "_law_good" s_law_good [], dP "law" s_law []]
def fa : List He.Fa := [.glo "is_number", .glo "need_numbers", .glo "lowered", .glo "added", .glo "multiplied", .glo "compared", .glo "lesser", .glo "greater", .glo "need_stretch", .glo "sum_of", .glo "product_of", .glo "_law_mixed", .glo "_law_cell", .glo "_law_take", .glo "_law_odd", .glo "_law_number", .glo "_law_at", .glo "_law_compared", .glo "_law_pair", .glo "_law_sum", .glo "_law_times", .glo "_law_ends", .glo "_law_good", .glo "law", .free "isinstance", .free "len", .free "range", .free "int", .free "bool", .free "tuple", .free "str", .free "min", .free "max", .free "abs", .free "all", .glo "Stretch", .cls "Stretch", .mkr "Stretch", .noat "Stretch" "low", .noat "Stretch" "high"]
def ex (K : PySem.W.Frag) : Bool := (He.eqO (PySem.W.findIn K (.ref (He.ga K "Stretch")) "__class__") (some (some (.builtin "object.__class__"))) && (decide (PySem.W.mroIn K (He.ga K "Stretch") (.type "object") = some true) && (He.eqO (PySem.W.specialIn K (.builtin "object.__class__") "__get__") (some (some (.builtin "getset_descriptor.__get__"))) && (decide (PySem.W.takesIn K (.builtin "object.__class__") = some true) && true))))
abbrev R : PySem.W.OpenRow := PySem.W.OpenLaw.row PySem.Challenge.rw_oncenear_k16_sums_and_products_of_stretc
abbrev hk : PySem.W.Hook := He.hookX 5 fa fn [] [] ex
def ob (s : PySem.W.SharedT) : He.AlX := He.obsX 5 fa fn [] [] ex (HandSHeadRun.getT s)
theorem ob_eq (s : PySem.W.SharedT) : ob s = hk.obs s.abs := He.obsX_eq (HandSHeadRun.getT_eq s)
set_option maxHeartbeats 0 in
theorem run (w : World) : HandSHeadRun.RunEq R (PySem.W.view R.prog [33]) hk ob 4000 ((["_wall", "NoNumber", "NoStretch", "is_number", "need_number", "need_numbers", "lowered", "added", "multiplied", "compared", "lesser", "greater", "Stretch", "need_stretch", "sum_of", "product_of", "_law_mixed", "_law_cell", "_law_take", "_law_odd"] : List PySem.Str) ++ (["_law_number", "_law_at", "_law_compared", "_law_pair", "_law_sum", "_law_times", "_law_ends", "_law_good", "NUMBER_NEEDED"] : List PySem.Str)) w := by
  intro os
  kernel_rfl
theorem facts {P : Program} {w : World} {K : PySem.W.Frag} {h : Heap} {mg : Str → Option Value} {f : Addr} (X : K.In h) (G : h.Ns mainGlobals mg) (hfa : mg ("law" : Str) = some (.ref f)) (c : He.SaysX fa fn [] [] ex w h K) :
    ∃ fd : FuncData, (∀ (s : Shared) (v : Value), BindsTo s fd ⟨[v], []⟩ [("_law_script", v)]) ∧ ∀ base : Heap, K.In base → base.Ns mainGlobals mg → FnOk P w K mg base CX0 11 f fd ["_law_script"] (spLaw K) := by
  have cd := c.t.d
  have cm := c.more
  have T : Top mg := ⟨He.free_ok X G (cd.fact 24 (f := .free "isinstance") rfl), He.free_ok X G (cd.fact 25 (f := .free "len") rfl), He.free_ok X G (cd.fact 26 (f := .free "range") rfl), He.free_ok X G (cd.fact 27 (f := .free "int") rfl), He.free_ok X G (cd.fact 28 (f := .free "bool") rfl), He.free_ok X G (cd.fact 29 (f := .free "tuple") rfl), He.free_ok X G (cd.fact 30 (f := .free "str") rfl), He.free_ok X G (cd.fact 31 (f := .free "min") rfl), He.free_ok X G (cd.fact 32 (f := .free "max") rfl), He.free_ok X G (cd.fact 33 (f := .free "abs") rfl), He.free_ok X G (cd.fact 34 (f := .free "all") rfl)⟩
  unfold ex at cm
  obtain ⟨m0, cm⟩ := He.ba cm
  obtain ⟨m1, cm⟩ := He.ba cm
  obtain ⟨m2, cm⟩ := He.ba cm
  obtain ⟨m3, cm⟩ := He.ba cm
  have S_Stretch : StrC K mg (He.ga K "Stretch") := ⟨He.glo_ok X G (cd.fact 35 (f := .glo "Stretch") rfl), He.cls_ok (cd.fact 36 (f := .cls "Stretch") rfl), He.noat_ok (cd.fact 38 (f := .noat "Stretch" "low") rfl), He.noat_ok (cd.fact 39 (f := .noat "Stretch" "high") rfl), He.eqO_ok m0, He.eqO_ok m2, of_decide_eq_true m3, of_decide_eq_true m1⟩
  have M_Stretch := He.mkr_ok (cd.fact 37 (f := .mkr "Stretch") rfl)
  obtain ⟨fd0, F0⟩ := cd.def_ 0 (d := dP "is_number" s_is_number []) rfl
  obtain ⟨fd1, F1⟩ := cd.def_ 1 (d := dP "need_numbers" s_need_numbers []) rfl
  obtain ⟨fd2, F2⟩ := cd.def_ 2 (d := dP "lowered" s_lowered []) rfl
  obtain ⟨fd3, F3⟩ := cd.def_ 3 (d := dP "added" s_added []) rfl
  obtain ⟨fd4, F4⟩ := cd.def_ 4 (d := dP "multiplied" s_multiplied []) rfl
  obtain ⟨fd5, F5⟩ := cd.def_ 5 (d := dP "compared" s_compared []) rfl
  obtain ⟨fd6, F6⟩ := cd.def_ 6 (d := dP "lesser" s_lesser []) rfl
  obtain ⟨fd7, F7⟩ := cd.def_ 7 (d := dP "greater" s_greater []) rfl
  obtain ⟨fd8, F8⟩ := cd.def_ 8 (d := dM "Stretch" "__init__" "Stretch.__init__" s_Stretch_init) rfl
  obtain ⟨fd9, F9⟩ := cd.def_ 9 (d := dP "need_stretch" s_need_stretch []) rfl
  obtain ⟨fd10, F10⟩ := cd.def_ 10 (d := dP "sum_of" s_sum_of []) rfl
  obtain ⟨fd11, F11⟩ := cd.def_ 11 (d := dP "product_of" s_product_of []) rfl
  obtain ⟨fd12, F12⟩ := cd.def_ 12 (d := dP "_law_mixed" s_law_mixed []) rfl
  obtain ⟨fd13, F13⟩ := cd.def_ 13 (d := dP "_law_cell" s_law_cell []) rfl
  obtain ⟨fd14, F14⟩ := cd.def_ 14 (d := dP "_law_take" s_law_take []) rfl
  obtain ⟨fd15, F15⟩ := cd.def_ 15 (d := dP "_law_odd" s_law_odd []) rfl
  obtain ⟨fd16, F16⟩ := cd.def_ 16 (d := dP "_law_number" s_law_number []) rfl
  obtain ⟨fd17, F17⟩ := cd.def_ 17 (d := dP "_law_at" s_law_at []) rfl
  obtain ⟨fd18, F18⟩ := cd.def_ 18 (d := dP "_law_compared" s_law_compared []) rfl
  obtain ⟨fd19, F19⟩ := cd.def_ 19 (d := dP "_law_pair" s_law_pair []) rfl
  obtain ⟨fd20, F20⟩ := cd.def_ 20 (d := dP "_law_sum" s_law_sum []) rfl
  obtain ⟨fd21, F21⟩ := cd.def_ 21 (d := dP "_law_times" s_law_times []) rfl
  obtain ⟨fd22, F22⟩ := cd.def_ 22 (d := dP "_law_ends" s_law_ends []) rfl
  obtain ⟨fd23, F23⟩ := cd.def_ 23 (d := dP "_law_good" s_law_good []) rfl
  obtain ⟨fd24, F24⟩ := cd.def_ 24 (d := dP "law" s_law []) rfl
  have e := hfa.symm.trans (He.glo_ok X G (cd.fact 23 (f := .glo "law") rfl))
  cases e
  have b := FunD.bindsA (ps := ["_law_script"]) F24 fun _ _ _ _ _ _ us hl => match us, hl with | [_], _ => rfl
  have kb1 := kb_plain (ps := ["one", "other"]) F10 ["other", "one"] (fun zs => zs.reverse) (fun r => r.reverse) (fun _ _ _ _ _ _ ws hl => match ws, hl with | [_, _], _ => rfl)
  have kb2 := kb_plain (ps := ["one", "other"]) F11 ["other", "one"] (fun zs => zs.reverse) (fun r => r.reverse) (fun _ _ _ _ _ _ ws hl => match ws, hl with | [_, _], _ => rfl)
  refine ⟨fd24, fun s v => b s [v] rfl, fun base _ _ => ?_⟩
  have c0 : Cal P w K mg base CX0 1 "is_number" ["thing"] (spNum K) _ fd0 := ⟨ok_is_number T F0, He.glo_ok X G (cd.fact 0 (f := .glo "is_number") rfl), F0.kp, F0.bindsN fun _ _ _ _ _ _ us hl => match us, hl with | [_], _ => rfl⟩
  have c1 : Cal P w K mg base CX0 2 "need_numbers" ["one", "other"] (spNeed2 K) _ fd1 := ⟨ok_need_numbers T F1 c0, He.glo_ok X G (cd.fact 1 (f := .glo "need_numbers") rfl), F1.kp, F1.bindsN fun _ _ _ _ _ _ us hl => match us, hl with | [_, _], _ => rfl⟩
  have c2 : Cal P w K mg base CX0 1 "lowered" ["m", "e"] spNof _ fd2 := ⟨ok_lowered T F2, He.glo_ok X G (cd.fact 2 (f := .glo "lowered") rfl), F2.kp, F2.bindsN fun _ _ _ _ _ _ us hl => match us, hl with | [_, _], _ => rfl⟩
  have c3 : Cal P w K mg base CX0 2 "added" ["one", "other"] (spTwo K padd) _ fd3 := ⟨ok_added T F3 c2, He.glo_ok X G (cd.fact 3 (f := .glo "added") rfl), F3.kp, F3.bindsN fun _ _ _ _ _ _ us hl => match us, hl with | [_, _], _ => rfl⟩
  have c4 : Cal P w K mg base CX0 1 "multiplied" ["one", "other"] (spTwo K pmul) _ fd4 := ⟨ok_multiplied T F4, He.glo_ok X G (cd.fact 4 (f := .glo "multiplied") rfl), F4.kp, F4.bindsN fun _ _ _ _ _ _ us hl => match us, hl with | [_, _], _ => rfl⟩
  have c5 : Cal P w K mg base CX0 1 "compared" ["one", "other"] (spOrd K) _ fd5 := ⟨ok_compared T F5, He.glo_ok X G (cd.fact 5 (f := .glo "compared") rfl), F5.kp, F5.bindsN fun _ _ _ _ _ _ us hl => match us, hl with | [_, _], _ => rfl⟩
  have c6 : Cal P w K mg base CX0 2 "lesser" ["one", "other"] (spLes K) _ fd6 := ⟨ok_lesser T F6 c5, He.glo_ok X G (cd.fact 6 (f := .glo "lesser") rfl), F6.kp, F6.bindsN fun _ _ _ _ _ _ us hl => match us, hl with | [_, _], _ => rfl⟩
  have c7 : Cal P w K mg base CX0 2 "greater" ["one", "other"] (spGre K) _ fd7 := ⟨ok_greater T F7 c5, He.glo_ok X G (cd.fact 7 (f := .glo "greater") rfl), F7.kp, F7.bindsN fun _ _ _ _ _ _ us hl => match us, hl with | [_, _], _ => rfl⟩
  have c8 : CalI P w K mg base CX0 3 ["self", "low", "high"] (spInit K (He.ga K "Stretch")) _ fd8 := ⟨ok_Stretch_init T S_Stretch F8 c1 c5, F8.bindsN fun _ _ _ _ _ _ us hl => match us, hl with | [_, _, _], _ => rfl⟩
  have c9 : Cal P w K mg base CX0 1 "need_stretch" ["thing"] (spNeedS K (He.ga K "Stretch")) _ fd9 := ⟨ok_need_stretch T S_Stretch F9, He.glo_ok X G (cd.fact 8 (f := .glo "need_stretch") rfl), F9.kp, F9.bindsN fun _ _ _ _ _ _ us hl => match us, hl with | [_], _ => rfl⟩
  have c10 : Cal P w K mg base CX0 5 "sum_of" ["one", "other"] (spSumS K (He.ga K "Stretch")) _ fd10 := ⟨ok_sum_of T S_Stretch M_Stretch F10 c9 c3 c8, He.glo_ok X G (cd.fact 9 (f := .glo "sum_of") rfl), F10.kp, F10.bindsN fun _ _ _ _ _ _ us hl => match us, hl with | [_, _], _ => rfl⟩
  have c11 : Cal P w K mg base CX0 5 "product_of" ["one", "other"] (spProdS K (He.ga K "Stretch")) _ fd11 := ⟨ok_product_of T S_Stretch M_Stretch F11 c9 c4 c8 c6 c7, He.glo_ok X G (cd.fact 10 (f := .glo "product_of") rfl), F11.kp, F11.bindsN fun _ _ _ _ _ _ us hl => match us, hl with | [_, _], _ => rfl⟩
  have c12 : Cal P w K mg base CX0 1 "_law_mixed" ["_law_cell_here", "_law_k"] spMix _ fd12 := ⟨ok_law_mixed T F12, He.glo_ok X G (cd.fact 11 (f := .glo "_law_mixed") rfl), F12.kp, F12.bindsN fun _ _ _ _ _ _ us hl => match us, hl with | [_, _], _ => rfl⟩
  have c13 : Cal P w K mg base CX0 2 "_law_cell" ["_law_script", "_law_k"] (spCel K) _ fd13 := ⟨ok_law_cell T F13 c12, He.glo_ok X G (cd.fact 12 (f := .glo "_law_cell") rfl), F13.kp, F13.bindsN fun _ _ _ _ _ _ us hl => match us, hl with | [_, _], _ => rfl⟩
  have c14 : Cal P w K mg base CX0 1 "_law_take" ["_law_pile", "_law_size"] spTake _ fd14 := ⟨ok_law_take T F14, He.glo_ok X G (cd.fact 13 (f := .glo "_law_take") rfl), F14.kp, F14.bindsN fun _ _ _ _ _ _ us hl => match us, hl with | [_, _], _ => rfl⟩
  have c15 : Cal P w K mg base CX0 1 "_law_odd" ["_law_m", "_law_e"] spNof _ fd15 := ⟨ok_law_odd T F15, He.glo_ok X G (cd.fact 14 (f := .glo "_law_odd") rfl), F15.kp, F15.bindsN fun _ _ _ _ _ _ us hl => match us, hl with | [_, _], _ => rfl⟩
  have c16 : Cal P w K mg base CX0 2 "_law_number" ["_law_pile"] spNumber _ fd16 := ⟨ok_law_number T F16 c14 c15, He.glo_ok X G (cd.fact 15 (f := .glo "_law_number") rfl), F16.kp, F16.bindsN fun _ _ _ _ _ _ us hl => match us, hl with | [_], _ => rfl⟩
  have c17 : Cal P w K mg base CX0 1 "_law_at" ["_law_number_here", "_law_e"] (spFloor K) _ fd17 := ⟨ok_law_at T F17, He.glo_ok X G (cd.fact 16 (f := .glo "_law_at") rfl), F17.kp, F17.bindsN fun _ _ _ _ _ _ us hl => match us, hl with | [_, _], _ => rfl⟩
  have c18 : Cal P w K mg base CX0 2 "_law_compared" ["_law_one_own", "_law_other_own"] (spCmp K) _ fd18 := ⟨ok_law_compared T F18 c17, He.glo_ok X G (cd.fact 17 (f := .glo "_law_compared") rfl), F18.kp, F18.bindsN fun _ _ _ _ _ _ us hl => match us, hl with | [_, _], _ => rfl⟩
  have c19 : Cal P w K mg base CX0 3 "_law_pair" ["_law_pile"] (spPair K) _ fd19 := ⟨ok_law_pair T F19 c16 c14 c15 c18, He.glo_ok X G (cd.fact 18 (f := .glo "_law_pair") rfl), F19.kp, F19.bindsN fun _ _ _ _ _ _ us hl => match us, hl with | [_], _ => rfl⟩
  have c20 : Cal P w K mg base CX0 2 "_law_sum" ["_law_one_own", "_law_other_own", "_law_sign"] (spSum K) _ fd20 := ⟨ok_law_sum T F20 c17 c15, He.glo_ok X G (cd.fact 19 (f := .glo "_law_sum") rfl), F20.kp, F20.bindsN fun _ _ _ _ _ _ us hl => match us, hl with | [_, _, _], _ => rfl⟩
  have c21 : Cal P w K mg base CX0 2 "_law_times" ["_law_one_own", "_law_other_own"] (spTwo K pmul) _ fd21 := ⟨ok_law_times T F21 c15, He.glo_ok X G (cd.fact 20 (f := .glo "_law_times") rfl), F21.kp, F21.bindsN fun _ _ _ _ _ _ us hl => match us, hl with | [_, _], _ => rfl⟩
  have c22 : Cal P w K mg base CX0 3 "_law_ends" ["_law_some"] (spLEnds K) _ fd22 := ⟨ok_law_ends T F22 c18, He.glo_ok X G (cd.fact 21 (f := .glo "_law_ends") rfl), F22.kp, F22.bindsN fun _ _ _ _ _ _ us hl => match us, hl with | [_], _ => rfl⟩
  have c23 : Cal P w K mg base CX0 10 "_law_good" ["_law_one_own", "_law_other_own"] (spGood K) _ fd23 := ⟨ok_law_good T S_Stretch M_Stretch F23 c8 c20 c10 c11 c21 c22 kb1 kb2, He.glo_ok X G (cd.fact 22 (f := .glo "_law_good") rfl), F23.kp, F23.bindsN fun _ _ _ _ _ _ us hl => match us, hl with | [_, _], _ => rfl⟩
  exact ok_law T F24 c13 c19 c23
end Onc
open PySem PySem.W PySem.Calls PyProof.Rows
set_option maxRecDepth 100000 in
set_option maxHeartbeats 0 in
theorem PySem.Challenge.cw_oncenear_k16_sums_and_products_of_stretc_holds : PySem.Challenge.rw_oncenear_k16_sums_and_products_of_stretc.Holds := by
  w_on; o_law
  refine HandSHeadRun.head_any (r := OpenLaw.row PySem.Challenge.rw_oncenear_k16_sums_and_products_of_stretc) (q := view (OpenLaw.row PySem.Challenge.rw_oncenear_k16_sums_and_products_of_stretc).prog [33]) (H := Onc.hk) (ob := Onc.ob) (M := 4000) (loose := ((["_wall", "NoNumber", "NoStretch", "is_number", "need_number", "need_numbers", "lowered", "added", "multiplied", "compared", "lesser", "greater", "Stretch", "need_stretch", "sum_of", "product_of", "_law_mixed", "_law_cell", "_law_take", "_law_odd"] : List PySem.Str) ++ (["_law_number", "_law_at", "_law_compared", "_law_pair", "_law_sum", "_law_times", "_law_ends", "_law_good", "NUMBER_NEEDED"] : List PySem.Str))) (d := HandSHeadRun.topDef (OpenLaw.row PySem.Challenge.rw_oncenear_k16_sums_and_products_of_stretc).prog 33) (kwd := []) Onc.ob_eq
    (by kernel_rfl) (fun s => by kernel_rfl) Onc.run (by kernel_rfl) (by kernel_rfl) (by kernel_rfl) (by rfl) (by first | assumption | decide +kernel) (by decide +kernel) ⟨rfl, rfl, rfl, rfl, rfl, by decide +kernel⟩ ?hw ?hc
  case hw => w_witness2
  case hc =>
    refine L2.walk_ofE (l := PySem.Challenge.rw_oncenear_k16_sums_and_products_of_stretc) (n := 63) (k := 11) (x := "_law_script") (CX := L2.CX0) rfl (by decide) (by kernel_rfl) ⟨rfl, by decide, by decide⟩ ?F (fun _ _ _ _ z => z)
    intro w mg fa h Y G hmg0
    obtain ⟨K, KX, c⟩ := Y
    have hmg : mg ("law" : PySem.Str) = some (.ref fa) := by
      have e : (HandSHeadRun.topDef (OpenLaw.row PySem.Challenge.rw_oncenear_k16_sums_and_products_of_stretc).prog 33).name = ("law" : PySem.Str) := by kernel_rfl
      rw [← e]
      exact hmg0
    obtain ⟨fd, hb, hF⟩ := Onc.facts (P := (PySem.Challenge.rw_oncenear_k16_sums_and_products_of_stretc).prog) (w := w) KX G hmg c
    exact ⟨K, fd, Onc.spLaw K, KX, hb, fun H a ns hl _ hS => ⟨a, ns, rfl, hS, fun _ => rfl⟩, hF⟩
